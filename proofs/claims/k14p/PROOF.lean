import PyProof.Rows.All
import Wide.All
import OpenK.AllK
import Wide.FinOn
import KE.KStateDown
import Lean
import HandS.ForMost
import HandS.Exc
import HandS.ExcInit
import HandS.WordsExc
import HandS.Defaults
import HandS.Head0
import HandS.Head1
import HandS.Head2
import HandS.HeadEnd
import HandS.HeadHook1
import HandS.HeadHook2
import HandS.Wide
import HandS.Codes
import HandS.IsInst
import HandS.StrMore
import HandS.Steps
import Wide.Txt
import PyProof.ListStr
import KE.KDictKeyed
import KE.KDictWalk
import PyProof.DictRoadsH
import HandS.Dict
import HandS.Iter
import HandS.Comp
import KE.KDictPairs
import KE.KDictItemsList
import KE.KDictList
import KE.KDictCopyH
import HandS.DictTup
import HandS.List
import HandS.Conv
import KE.SortKeyHeap
import KE.KLam
import KE.KDictSum
import HandS.Lambda
import PyProof.Rows.SortShellAny
import KE.KSortKey
import HandS.DictComp
import HandS.Walk
import KE.GoesEnum
import KE.GoesMore
import PyProof.DictMoreH
import HandS.Sort
import PyProof.ListRange
import HandS.MakeKwOnly
import HandS.TupMul
import HandS.Small
import HandS.Style
import KE.KEqNest
import HandS.More
import HandS.SlotsOwn
import PyProof.InstEq
import PyProof.CallStr
import KE.KFmtOwn
import HandS.Text
import KE.KRevSl
import KE.GoesZip
import KE.KDictZip
import PyProof.ListNew
import PyProof.StrLoop
import HandS.Zip
import PyProof.EnumMake
import HandS.TupAny
import KE.KExcIs
import KE.KTryMore
import HandS.HotCalls
import HandS.ExcValue
import HandS.TryMany
import KE.KCallOwn
import OpenK.KMeth
import HandS.Set
import HandS.SetTxt0
import HandS.SetFor
import HandS.Call
import HandS.Property
import PyProof.ExcBaseAll.ValueError
import HandS.EndTab
import HandS.HeadHook4
import PySem.Challenge.RW_cleandress_k14_whole_results_by_views
/-! ### H0 -/
section
set_option Elab.async false
set_option linter.all false
set_option maxRecDepth 100000
set_option maxHeartbeats 0
namespace K0
open PySem PySem.Spec PyProof.Rows L2
def top (i : Nat) : Stmt := PySem.Challenge.pw_cleandress_k14_whole_results_by_views.main.body.getD i (.Pass ⟨0, 0, 0, 0⟩)
abbrev dfn (x : Str) (i : Nat) : He.DefD := ⟨(x, none), x, x, defArgs (top i), defBody (top i), defScope (top i), [], []⟩
abbrev iNum : Nat := 2
abbrev iSign : Nat := 10
abbrev iIsText : Nat := 11
abbrev iCheckP : Nat := 12
abbrev iCleaner : Nat := 17
abbrev iAreParts : Nat := 18
abbrev iIsLook : Nat := 19
abbrev iLookSt : Nat := 20
abbrev iIsWriter : Nat := 21
abbrev iWriterSt : Nat := 22
abbrev iSeen : Nat := 23
abbrev iIsMove : Nat := 24
abbrev iWritten : Nat := 25
abbrev iFirsts : Nat := 26
abbrev iInOrder : Nat := 27
abbrev iOrigins : Nat := 29
abbrev iDice : Nat := 36
abbrev iRoll : Nat := 37
abbrev iOne : Nat := 38
abbrev iMixed : Nat := 39
abbrev iAll : Nat := 40
abbrev iSigns : Nat := 41
abbrev iLWord : Nat := 42
abbrev iWild : Nat := 44
abbrev iMade : Nat := 46
abbrev iRight : Nat := 53
abbrev iLaw : Nat := 54
abbrev iViewsAt : Nat := 30
abbrev iWrittenAt : Nat := 31
abbrev iLastAt : Nat := 32
abbrev iStates : Nat := 33
abbrev iResult : Nat := 34
abbrev iLTexts : Nat := 43
abbrev iLCleaner : Nat := 45
abbrev iLViews : Nat := 47
abbrev iLResult : Nat := 48
abbrev iLWalk : Nat := 49
abbrev iMet : Nat := 50
abbrev iIsRight : Nat := 51
abbrev iLong : Nat := 52
end K0
end
/-! ### G0 -/
section
set_option Elab.async false
set_option linter.all false
set_option maxRecDepth 100000
set_option maxHeartbeats 4000000
/-! Defs whose promise is kept where nothing is being shown (no repr runs around them): FnG, its rule, its calls, the law's entry. -/
namespace K0
open PySem PySem.Spec PyProof.Rows L2
structure FnG (P : Program) (w : World) (K : PySem.W.Frag) (mg : Str → Option Value) (base : Heap) (CX : CXT) (k : Nat) (f : Addr) (fd : FuncData) (ps : List Str) (sp : Sp) : Prop where
  many : ∀ vs H Q E, sp vs H Q E → vs.length = ps.length
  go : ∀ (A : Around) (outer : List Env) (s : Shared) (H : Hp) (args : Args) (us : List Value) (vs : List V) (Q : VK) (E : XK), A.guards = some [] → Room k A → Env0 P w K mg base A outer s H → BindsTo s fd args (ps.zip us) → Vals vs us → sp vs H Q E → codeAny (model P w) A (.call (.ref f) args) (CR CX outer P w H s Q E) s
section
variable {P : Program} {w : World} {K : PySem.W.Frag} {mg : Str → Option Value} {base : Heap} {CX : CXT} {k : Nat} {f : Addr} {fd : FuncData}
theorem fnG_ofC {x qual : Str} {params : Arguments} {body : List Stmt} {scope : Scope} {dvs : List V} {kws : List (Str × V)} {N ps : List Str} {sp : Sp} (F : FunD K x qual params body scope dvs kws f fd) (S : FnScope N ps scope) (many : ∀ vs H Q E, sp vs H Q E → vs.length = ps.length)
    (hb : ∀ (cdv : Value), fd.code = cdv → ∀ (A : Around) (outer : List Env) (s : Shared) (H : Hp) (vs : List V) (Q : VK) (E : XK), (A.deeper (envOfC qual scope s.heap.objs.size f cdv)).guards = some [] → Room k (A.deeper (envOfC qual scope s.heap.objs.size f cdv)) → sp vs H Q E →
      ∃ t, PSs (cxOf CX P w K mg base N qual scope f cdv A outer s H E) body t ∧ t { nx := fun _ H' => Q .non H', rt := Q } (L2.start N vs) H) : FnG P w K mg base CX (k + 1) f fd ps sp := by
  obtain ⟨oc, od, dV, kV, doc, pm, an, cdv, ct, osl, rfl, lk, code, _, _⟩ := F.ex
  refine ⟨many, fun A outer s H args us vs Q E gd room e0 bd rel prom => ?_⟩
  have size := many _ _ _ _ prom
  have KX : K.In s.heap := e0.mod.kin.keeps fun b o z => (e0.bs b o z).1
  have lim : s.heap.NoLimit := e0.mod.nolimit.keeps fun b o z => (e0.bs b o z).1
  have kinds : ∀ y ∈ ps.zip us, scope.names.lookup y.1 = some .local ∨ (scope.names.lookup y.1 = some .cell ∧ ((cellsFrom (s.heap.objs.size + 1) scope.names []).lookup y.1).isSome = true) := fun ⟨n, v⟩ hy => (S.par n (List.of_mem_zip hy).1).elim .inl fun z => .inr ⟨z, PySem.W.cellsFrom_some _ _ _ (.inl z)⟩
  refine codeAny_call_function room.depth (KX _ _ lk) rfl S.co S.gen rfl (PySem.W.codeRec_of KX code) (bd _ _ _ _ (wpAny_newFunctionEnv_cells S.kind kinds fun env he s1 y => ?_))
  subst he
  obtain ⟨t, pf, rd⟩ := hb cdv rfl A outer s H vs Q E gd (room.deeper _) prom
  refine ⟨lim.keeps y.toInCall.keep, codeAny_func (wpAny_mono (pf.run [] s1 _ H _ (inv_start S room.hd e0 size rel y) rd) (fun fl s' z => ?_) fun e s' z => z)⟩
  cases fl with
  | ret u => obtain ⟨v, σ', H', J, rv, q⟩ := z; exact ⟨v, H', J.os, J.bare, J.base, J.hok, rv, q⟩
  | next => obtain ⟨σ', H', J, q⟩ := z; exact ⟨V.non, H', J.os, J.bare, J.base, J.hok, rfl, q⟩
  | brk => exact z.elim fun _ z => z.elim fun _ z => z.2.elim
  | cont => exact z.elim fun _ z => z.elim fun _ z => z.2.elim
theorem lawG {a : Addr} {mb : Str → Option Value} {x : Str} {sp : Sp} {s₁ : Shared} {vs : List Value} {ns : List Int} (KX : K.In s₁.heap) (hns : s₁.heap.Ns mainGlobals mg) (hmb : s₁.heap.Ns builtinsNs mb) (hbb : ∀ x : Str, x ≠ "__name__" → mb x = bootBuiltins x) (lim : s₁.heap.NoLimit) (gens : s₁.gens = #[])
    (obj : s₁.heap.get? a = some { cls := .type "list", data := .seq vs.toArray }) (its : IntsAre vs ns) (most : ns.length ≤ sizeLine) (room : Room k callerA) (F : ∀ base : Heap, K.In base → base.Ns mainGlobals mg → FnG P w K mg base CX k f fd [x] sp)
    (bind : ∀ (s : Shared) (u : Value), BindsTo s fd ⟨[u], []⟩ [(x, u)]) (prom : ∀ H : Hp, Only H → SqL K H a (ns.map V.int) → sp [.ref a] H (fun v _ => v = .bl true) fun _ _ _ => False) (none_out : ∀ H e s', CX [] H s₁ (fun _ _ _ => False) e s' → False) :
    codeAny (model P w) callerA (.call (.ref f) ⟨[.ref a], []⟩) (fun r s' => r = .ok (.ret (.bool true)) ∧ OldK s₁.heap s'.heap ∧ s'.os = s₁.os ∧ AllBare s'.gens) s₁ := by
  have rel := vals_ints its
  have size := its.length
  have main : ∀ H : Hp, Only H → SqL K H a (ns.map V.int) → HOk P w H s₁.heap → (∀ b, H b ≠ none → b = a) → (H a ≠ none → K.lookup a = none) → codeAny (model P w) callerA (.call (.ref f) ⟨[.ref a], []⟩) (fun r s' => r = .ok (.ret (.bool true)) ∧ OldK s₁.heap s'.heap ∧ s'.os = s₁.os ∧ AllBare s'.gens) s₁ := by
    intro H only seq hok just apart
    have at_a : ∀ {b : Addr}, H b ≠ none → b = a := fun {b} z => just b z
    have noDict : ∀ {b : Addr} {o : Obj} {es : Array DictEntry} {ep : Nat}, s₁.heap.get? b = some o → o.data = .dict es ep → H b = none := fun {b o es ep} e d => Classical.byContradiction fun z => by
      have e1 := at_a z
      subst e1
      rw [obj] at e
      cases e
      exact absurd (show Data.seq vs.toArray _ = Data.dict es ep from d) (fun q => by cases q)
    have keepNs : ∀ {b : Addr} {m : Str → Option Value}, s₁.heap.Ns b m → (hidT s₁.heap H).Ns b m := fun {b m} ⟨o, es, ep, e, d, r⟩ => ⟨o, es, ep, hidT_get e (noDict e d), d, r⟩
    have kin : K.In (hidT s₁.heap H) := fun b o e => hidT_get (KX b o e) (Classical.byContradiction fun z => by
      have e1 := at_a z
      subst e1
      rw [apart z] at e
      cases e)
    have mod : Mod K mg (hidT s₁.heap H) := ⟨kin, keepNs hns, ⟨mb, keepNs hmb, hbb⟩, lim.elim fun mc z => ⟨mc, keepNs z.1, z.2⟩⟩
    have e0 : Env0 P w K mg (hidT s₁.heap H) callerA [] s₁ H := ⟨rfl, mod, fun b o e => of_hidT e, Nat.le_of_eq (hidT_size _ _), trivial, (fun b z => nomatch (show b ∈ ([] : List Addr) from z)), hok, .of_eq gens⟩
    refine codeAny_mono ((F _ kin (keepNs hns)).go callerA [] s₁ H ⟨[.ref a], []⟩ [.ref a] [.ref a] _ _ rfl room e0 (bind s₁ (.ref a)) (.cons rfl .nil) (prom H only seq)) fun r s' z => ?_
    rcases r with e | fl
    · exact (none_out H e s' z).elim
    cases fl with
    | next => exact z.elim
    | brk => exact z.elim
    | cont => exact z.elim
    | ret u =>
      obtain ⟨v, H', os, bare, un, hok', rv, rfl⟩ := z
      obtain rfl : u = Value.bool true := rv
      refine ⟨rfl, OldK.of_keep fun b o e => ?_, os, bare⟩
      cases q : H b with
      | none => exact un.keep b o e q (fun z => nomatch (show b ∈ ([] : List Addr) from z)) (fun z => nomatch z)
      | some u =>
        rcases only b with z | ⟨ob, xs, z⟩
        · rw [q] at z
          cases z
        · obtain ⟨e1, _⟩ := hok b _ z
          obtain ⟨e2, _⟩ := hok' b _ (un.frzs b ob _ z)
          rw [e] at e1
          cases e1
          exact e2
  cases own : K.lookup a with
  | some o =>
    have e := KX a o own
    rw [obj] at e
    cases e
    exact main (fun _ => none) (fun _ => .inl rfl) (.inr ⟨_, vs.toArray, _, own, rfl, rfl, rfl, by rw [List.size_toArray, size]; exact most, by simpa using rel⟩) (fun b u z => nomatch (show (none : Option HO) = some u from z)) (fun b z => absurd rfl z) fun z => absurd rfl z
  | none =>
    have yes : ∀ {b : Addr}, b = a → (if b = a then some (HO.frz { cls := .type "list", data := .seq vs.toArray } (.lst (ns.map V.int))) else none) = some (HO.frz { cls := .type "list", data := .seq vs.toArray } (.lst (ns.map V.int))) := fun z => if_pos z
    refine main (fun b => if b = a then some (.frz { cls := .type "list", data := .seq vs.toArray } (.lst (ns.map V.int))) else none) (fun b => ?_) (.inl (.inr ⟨_, yes rfl⟩)) (fun b u z => ?_) (fun b z => Classical.byContradiction fun n => z (if_neg n)) fun _ => own
    · by_cases n : b = a
      · exact .inr ⟨_, _, yes n⟩
      · exact .inl (if_neg n)
    · by_cases n : b = a
      · have z2 := (yes n).symm.trans z
        cases z2
        subst n
        exact ⟨obj, by rw [List.length_map]; exact most, vs, _, rel, obj⟩
      · have z2 := (if_neg n).symm.trans z
        cases z2
end
section
variable {X : Cx} {CX : CXT} {k : Nat} {f : Addr} {fd : FuncData} {ps : List Str} {sp : Sp} {x : Str} {p pos : Pos} {e : Expr} {es : List Expr} {t : TA} {E : XK}
theorem peG (F : FnG X.prog X.w X.K X.mg X.base CX k f fd ps sp) (gd : X.A.guards = some []) (room : Room k X.A) (hg : Gl X x) (hm : X.mg x = some (.ref f)) (kp : PySem.W.keepIn X.K (.ref f) = true) (bd : Binds X.K fd ps []) (ps' : Passes CX X E) (ha : PA X (e :: es) t)
    (hdb : (x == ("__debug__" : Str)) = false := by decide) (he : starEach (e :: es) X.env = (false, eval e X.env) :: starEach es X.env := by rfl) (hpl : (backTo pos (starEach es X.env)).any (·.1) = false := by rfl) : PE X (.Call (.Name x p) (e :: es) [] pos) (tCall sp [] E t) :=
  ⟨fun pins s σ H Q I h => wpAny_Call_Name_kw (ld_glob I hg hm (PySem.W.callWith_K (h₀ := X.base) I.ok.mod.kin kp (thn (ha.run pos pins s σ H _ I h) fun us s1 ⟨vs, H1, I1, r, q⟩ => ⟨I1.kIn, by
    have q : sp (vs ++ []) H1 Q E := q
    rw [List.append_nil] at q
    have size : (us ++ []).length = ps.length := by rw [List.append_nil, ← r.length]; exact F.many _ _ _ _ q
    have bd2 := bd s1 us I1.kIn size
    rw [List.append_nil] at bd2
    refine wpAny_call (codeAny_mono (F.go X.A X.stack s1 H1 ⟨us, []⟩ us vs Q E gd room I1.env0 bd2 r q) fun res s' z => ?_)
    rcases res with err | fl
    · exact ps' pins σ H1 s1 err s' I1 z
    · cases fl with
      | ret u => exact I1.after z
      | next => exact z.elim
      | brk => exact z.elim
      | cont => exact z.elim⟩) he hpl) hdb)⟩
end
end K0
end
/-! ### D0 -/
section
set_option Elab.async false
set_option linter.all false
set_option maxRecDepth 100000
set_option maxHeartbeats 4000000
namespace K0
open PySem PySem.Spec PyProof.Rows L2
abbrev FnP (K : PySem.W.Frag) (x : Str) (i : Nat) (f : Addr) (fd : FuncData) : Prop := FunD K x x (defArgs (top i)) (defBody (top i)) (defScope (top i)) [] [] f fd
/-- a power whose base has few bits -/
def PowBits (i j : Int) : Prop := 0 ≤ j ∧ (Builtin.Int.intBits i : Int) * j ≤ 2 ^ 27
theorem op_powBits {X : Cx} : OpR X (binaryOp .Pow) (rI PowBits fun i j => .int (i ^ j.toNat)) := opI fun _ _ _ _ _ _ _ hc q => pow_int hc.1 hc.2 q
/-- three ints in a list: the dice -/
abbrev dk (a b c : Int) : HO := .lst [.int a, .int b, .int c]
theorem scDice : FnScope ["script", "at", "cell", "great", "mixed"] ["script", "at"] (defScope (top iDice)) := ⟨rfl, rfl, rfl, by decide +kernel, rfl, by decide +kernel, by decide +kernel⟩
def spDice (K : PySem.W.Frag) : Sp := fun vs H Q _ => ∃ (p : Addr) (ns : List Int) (j : Nat), vs = [.ref p, .int j] ∧ SqL K H p (ns.map V.int) ∧ ∀ d a b c, H d = none → Q (.ref d) (upd H d (dk a b c))
section
variable {P : Program} {w : World} {K : PySem.W.Frag} {mg : Str → Option Value} {base : Heap} {f fR fO : Addr} {fd fdR fdO : FuncData}
theorem ok_dice {k : Nat} (F : FnP K "_law_dice" iDice f fd) (mlen : mg "len" = none) (mint : mg "int" = none) (mabs : mg "abs" = none) (mmax : mg "max" = none) : FnOk P w K mg base CX0 (k + 1) f fd ["script", "at"] (spDice K) := by
  refine F.ok scDice (fun vs H Q E h => ?_) (fun cdv A outer s H vs Q E hr h => ?_)
  · obtain ⟨p, ns, j, rfl, _⟩ := h
    rfl
  · obtain ⟨p, ns, j, rfl, hS, q⟩ := h
    refine ⟨_, PSs.nox (pss_cons (ps_set (i := 2) scDice.nd rfl (.inl rfl) (pe_op op_add (pe_op op_mul pe_int (pv 1)) pe_int))
      (C8.pss_cut (ps_if (pt_cmpR op_lt (pv 1) (pe_callB call_len_seq (by rfl) mlen PySem.boot_len (pa_cons (pv 0) pa_nil)) (nomark _))
        (pss_one (ps_set (i := 2) scDice.nd rfl (.inl rfl) (pe_ix ix_list (pv 0) (pv 1) (fun _ _ => rfl)))) pss_nil)
      (pss_cons (ps_set (i := 3) scDice.nd rfl (.inl rfl) (pe_op op_mod (pe_callTy call_int1 (by rfl) mint boot_int (pa_cons (pe_callB call_abs (by rfl) mabs boot_abs (pa_cons (pv 2) pa_nil)) pa_nil))
        (pe_op op_powBits (pe_op op_powBits pe_int pe_int) pe_int)))
      (pss_cons (ps_set (i := 4) scDice.nd rfl (.inl rfl) (pe_op op_add (pe_op op_add (pe_op op_add (pe_op op_mul (pe_op op_mod (pe_callTy call_int1 (by rfl) mint boot_int (pa_cons (pv 3) pa_nil)) pe_int) pe_int) (pe_op op_mul pe_int (pv 1)))
        (pe_op op_mul pe_int (pe_callTy call_int1 (by rfl) mint boot_int (pa_cons (pe_cmpR op_lt (pv 2) pe_int (nomark _)) pa_nil)))) pe_int))
      (pss_one (ps_ret (pe_lst (pa_cons (pe_callB (call_max2 rfl) (by rfl) mmax boot_max (pa_cons pe_int (pa_cons (pe_op op_sub (pv 3) (pe_op op_powBits pe_int pe_int)) pa_nil)))
        (pa_cons (pe_op op_mod (pe_callTy call_int1 (by rfl) mint boot_int (pa_cons (pv 4) pa_nil)) pe_int) (pa_cons pe_int pa_nil)))))))))), ?_⟩
    refine ⟨_, rfl, _, _, rfl, rfl, .inl ⟨by decide, by decide⟩, _, _, rfl, rfl, ?_⟩
    refine ⟨fun σ' H' => ∃ cell : Int, σ' = [some (.ref p), some (.int j), some (.int cell), none, none] ∧ H' = H, ⟨_, rfl, _, rfl, p, _, rfl, .inl hS, _, _, rfl, rfl, _, rfl, ite2 (fun e => ?_) (fun e => ⟨_, rfl, rfl⟩)⟩, fun σ' H' hM => ?_⟩
    · have hj : j < ns.length := by
        have e2 : (j : Int) < ((ns.map V.int).length : Int) := of_decide_eq_true e
        rw [List.length_map] at e2
        omega
      have hg : (ns.map V.int)[j]? = some (.int ns[j]) := by
        rw [List.getElem?_map, List.getElem?_eq_getElem hj]
        rfl
      exact ⟨_, rfl, _, rfl, p, _, _, _, rfl, rfl, hS, atI_nat hg, _, rfl, rfl⟩
    · obtain ⟨cell, rfl, rfl⟩ := hM
      refine ⟨_, rfl, _, rfl, .inl ⟨_, rfl, _, _, rfl, rfl, ⟨by decide, by decide +kernel⟩, _, _, rfl, rfl, ⟨by decide, by decide +kernel⟩, _, _, rfl, rfl, (by show (0 : Int) < (10 ^ Int.toNat 60) ^ Int.toNat 12; decide +kernel), ?_⟩⟩
      refine ⟨_, rfl, .inl ⟨_, rfl, _, _, rfl, rfl, (by show (0 : Int) < 2147483399; decide), _, _, rfl, rfl, .inr ⟨by decide, by decide⟩, _, rfl, _, _, rfl, rfl, .inl ⟨by decide, by decide⟩, _, _, rfl, rfl, ?_⟩⟩
      refine ⟨_, rfl, _, _, rfl, rfl, .inr ⟨_, rfl, _, _, rfl, rfl, .inl ⟨by decide, by decide⟩, _, _, rfl, rfl, _, _, rfl, rfl, ?_⟩⟩
      refine ⟨_, rfl, _, _, rfl, rfl, ⟨by decide, by decide +kernel⟩, _, _, rfl, rfl, _, _, rfl, ?_⟩
      refine ⟨_, rfl, .inl ⟨_, rfl, _, _, rfl, rfl, (by show (0 : Int) < 2305843009213693907; decide), (by show 3 ≤ sizeLine; decide), fun d hd => ?_⟩⟩
      exact q d _ _ _ hd
end
end K0
end
/-! ### D1 -/
section
set_option Elab.async false
set_option linter.all false
set_option maxRecDepth 100000
set_option maxHeartbeats 4000000
namespace K0
open PySem PySem.Spec PyProof.Rows L2
theorem scRoll : FnScope ["dice", "total", "found", "one", "two"] ["dice", "total"] (defScope (top iRoll)) := ⟨rfl, rfl, rfl, by decide +kernel, rfl, by decide +kernel, by decide +kernel⟩
def spRoll : Sp := fun vs H Q _ => ∃ (p : Addr) (a b c t : Int), vs = [.ref p, .int t] ∧ H p = some (dk a b c) ∧ CDivW a t ∧ ∀ a' b' c' r, 0 ≤ r → r < t → Q (.int r) (upd H p (dk a' b' c'))
theorem mod_small {x m : Int} (h : 0 < m) (h2 : m ≤ 2 ^ 62) : -(2 ^ 64) < x % m ∧ x % m < 2 ^ 64 := by
  have h0 := Int.emod_nonneg x (show m ≠ 0 by omega)
  have h1 := Int.emod_lt_of_pos x h
  omega
theorem scOne : FnScope ["dice", "items"] ["dice", "items"] (defScope (top iOne)) := ⟨rfl, rfl, rfl, by decide +kernel, rfl, by decide +kernel, by decide +kernel⟩
/-- the items are a list or a tuple xs, or the signs of a text -/
def Its (K : PySem.W.Frag) (H : Hp) (v : V) (xs : List V) : Prop := (∃ q, v = .ref q ∧ (SqL K H q xs ∨ SqT K H q xs)) ∨ ∃ z : Str, v = .str z ∧ z.length ≤ sizeLine ∧ xs = z.cps.toList.map fun c => V.str ⟨#[c]⟩
theorem len_div {a : Int} {n : Nat} (h : 0 < n) (hz : n ≤ sizeLine) : CDivW a (n : Int) := by
  have e := sizeLine_eq
  refine wide_div (b := 25) (by omega) ?_ (by decide) (by decide)
  have e2 : (2 : Nat) ^ 25 = 33554432 := by decide
  have e3 : (sizeLine : Nat) = 16777216 := e
  omega
theorem its_len {K : PySem.W.Frag} {H : Hp} {v : V} {xs : List V} (h : Its K H v xs) : LenV K v H xs.length := by
  rcases h with ⟨a, rfl, h | h⟩ | ⟨z, rfl, hz, rfl⟩
  · exact .inl ⟨xs, h, rfl⟩
  · exact .inr ⟨xs, h, rfl⟩
  · refine ⟨hz, ?_⟩
    rw [List.length_map]
    first | rfl | simp [Str.length]
theorem its_at {K : PySem.W.Frag} {H : Hp} {v x : V} {xs : List V} {i : Nat} {Q : VK} (h : Its K H v xs) (e : xs[i]? = some x) (q : Q x H) : rIx K v (.int (i : Int)) H Q := by
  rcases h with ⟨a, rfl, h | h⟩ | ⟨z, rfl, hz, rfl⟩
  · exact .inl ⟨a, xs, _, x, rfl, rfl, h, atI_nat e, q⟩
  · exact .inr (.inl ⟨a, xs, _, x, rfl, rfl, h, atI_nat e, q⟩)
  · rw [List.getElem?_map] at e
    cases hc : z.cps.toList[i]? with
    | none => rw [hc] at e; cases e
    | some c =>
      rw [hc] at e
      cases e
      exact .inr (.inr ⟨z, _, c, rfl, rfl, hz, atI_nat hc, q⟩)
section
variable {P : Program} {w : World} {K : PySem.W.Frag} {mg : Str → Option Value} {base : Heap} {f fR fO : Addr} {fd fdR fdO : FuncData}
theorem ok_roll {k : Nat} (F : FnP K "_law_roll" iRoll f fd) (mint : mg "int" = none) : FnOk P w K mg base CX0 (k + 1) f fd ["dice", "total"] spRoll := by
  refine F.ok scRoll (fun vs H Q E h => ?_) (fun cdv A outer s H vs Q E hr h => ?_)
  · obtain ⟨p, a, b, c, t, rfl, _⟩ := h
    rfl
  · obtain ⟨p, a, b, c, t, rfl, hp, ht, q⟩ := h
    have t0 : 0 < t := ht.1
    refine ⟨_, PSs.nox (pss_cons (ps_if (pt_cmpR op_gt (pe_ix ix_list (pv 0) pe_int (fun _ _ => rfl)) pe_int (nomark _))
        (pss_cons (ps_set (i := 2) scRoll.nd rfl (.inl rfl) (pe_op op_mod (pe_callTy call_int1 (by rfl) mint boot_int (pa_cons (pe_ix ix_list (pv 0) pe_int (fun _ _ => rfl)) pa_nil)) (pv 1)))
        (pss_cons (ps_asg (pe_op op_fdivW (pe_ix ix_list (pv 0) pe_int (fun _ _ => rfl)) (pv 1)) (pg_sub (pv 0) pe_int set_list)) (pss_one (ps_ret (pv 2))))) pss_nil)
      (pss_cons (ps_asg (pe_op op_add (pe_ix ix_list (pv 0) pe_int (fun _ _ => rfl)) pe_int) (pg_sub (pv 0) pe_int set_list))
      (pss_cons (ps_set (i := 3) scRoll.nd rfl (.inl rfl) (pe_op op_mod (pe_callTy call_int1 (by rfl) mint boot_int (pa_cons (pe_op op_add (pe_ix ix_list (pv 0) pe_int (fun _ _ => rfl)) (pe_op op_mul pe_int (pe_ix ix_list (pv 0) pe_int (fun _ _ => rfl)))) pa_nil)) pe_int))
      (pss_cons (ps_set (i := 4) scRoll.nd rfl (.inl rfl) (pe_op op_add (pe_op op_mul (pe_op op_mod (pe_callTy call_int1 (by rfl) mint boot_int (pa_cons (pe_op op_mul (pv 3) (pv 3)) pa_nil)) pe_int) (pv 3)) (pe_op op_mul pe_int (pe_ix ix_list (pv 0) pe_int (fun _ _ => rfl)))))
      (pss_cons (ps_set (i := 4) scRoll.nd rfl (.inl rfl) (pe_op op_mod (pe_callTy call_int1 (by rfl) mint boot_int (pa_cons (pv 4) pa_nil)) pe_int))
      (pss_one (ps_ret (pe_op op_mod (pe_callTy call_int1 (by rfl) mint boot_int (pa_cons (pe_op op_fdiv (pv 4) pe_int) pa_nil)) (pv 1))))))))), ?_⟩
    have hS : ∀ x y z : Int, SqL K (upd H p (dk x y z)) p [.int x, .int y, .int z] := fun x y z => .of upd_same
    refine ⟨_, rfl, p, _, _, _, rfl, rfl, .of hp, atI_nat (j := 0) rfl, _, _, rfl, rfl, _, rfl, ite2 (fun e => ?_) (fun e => ?_)⟩
    · refine ⟨_, rfl, p, _, _, _, rfl, rfl, .of hp, atI_nat (j := 0) rfl, .inl ⟨_, rfl, _, rfl, _, _, rfl, rfl, t0, ?_⟩⟩
      refine ⟨_, rfl, p, _, _, _, rfl, rfl, .of hp, atI_nat (j := 0) rfl, _, rfl, _, _, rfl, rfl, ht, ?_⟩
      refine ⟨_, rfl, p, _, _, 0, rfl, rfl, hp, rfl, ?_⟩
      exact ⟨_, rfl, q _ _ _ _ (Int.emod_nonneg _ (by omega)) (Int.emod_lt_of_pos _ t0)⟩
    · refine ⟨_, rfl, p, _, _, _, rfl, rfl, .of hp, atI_nat (j := 2) rfl, _, _, rfl, rfl, ?_⟩
      refine ⟨_, rfl, p, _, _, 2, rfl, rfl, hp, rfl, ?_⟩
      refine ⟨_, rfl, p, _, _, _, rfl, rfl, hS a b _, atI_nat (j := 1) rfl, _, rfl, p, _, _, _, rfl, rfl, hS a b _, atI_nat (j := 2) rfl, _, _, rfl, rfl, .inl ⟨by decide, by decide⟩, _, _, rfl, rfl, .inl ⟨_, rfl, _, _, rfl, rfl, (by show (0 : Int) < 2305843009213693951; decide), ?_⟩⟩
      refine ⟨_, rfl, _, rfl, _, _, rfl, rfl, .inl (mod_small (by decide) (by decide)), .inl ⟨_, rfl, _, _, rfl, rfl, (by show (0 : Int) < 2305843009213693921; decide), ?_⟩⟩
      refine ⟨_, rfl, _, _, rfl, rfl, .inl (mod_small (by decide) (by decide)), _, rfl, p, _, _, _, rfl, rfl, hS a b _, atI_nat (j := 2) rfl, _, _, rfl, rfl, .inl ⟨by decide, by decide⟩, _, _, rfl, rfl, ?_⟩
      refine ⟨_, rfl, .inl ⟨_, rfl, _, _, rfl, rfl, (by show (0 : Int) < 2305843009213693907; decide), ?_⟩⟩
      refine ⟨_, rfl, _, _, rfl, rfl, ⟨by decide, by decide⟩, .inl ⟨_, rfl, _, rfl, _, _, rfl, rfl, t0, ?_⟩⟩
      exact q _ _ _ _ (Int.emod_nonneg _ (by omega)) (Int.emod_lt_of_pos _ t0)
def spOne (K : PySem.W.Frag) : Sp := fun vs H Q _ => ∃ (p : Addr) (a b c : Int) (v : V) (xs : List V), vs = [.ref p, v] ∧ H p = some (dk a b c) ∧ Its K H v xs ∧ xs ≠ [] ∧ xs.length ≤ sizeLine ∧ (∀ a' b' c', Its K (upd H p (dk a' b' c')) v xs) ∧
  ∀ a' b' c' (i : Nat) x, xs[i]? = some x → Q x (upd H p (dk a' b' c'))
theorem ok_one {k : Nat} (F : FnP K "_law_one_of" iOne f fd) (FR : FnOk P w K mg base CX0 (k + 1) fR fdR ["dice", "total"] spRoll) (gR : mg "_law_roll" = some (.ref fR)) (kR : PySem.W.keepIn K (.ref fR) = true) (bR : Binds K fdR ["dice", "total"] []) (mlen : mg "len" = none) :
    FnOk P w K mg base CX0 (k + 2) f fd ["dice", "items"] (spOne K) := by
  refine F.ok scOne (fun vs H Q E h => ?_) (fun cdv A outer s H vs Q E hr h => ?_)
  · obtain ⟨p, a, b, c, v, xs, rfl, _⟩ := h
    rfl
  · obtain ⟨p, a, b, c, v, xs, rfl, hp, hI, hx, hz, hI2, q⟩ := h
    refine ⟨_, PSs.nox (pss_one (ps_ret (pe_ix ix_seq (pv 1) (pe_call FR hr (by rfl) gR kR bR .nil pass0 (pa_cons (pv 0) (pa_cons (pe_callB call_len (by rfl) mlen PySem.boot_len (pa_cons (pv 1) pa_nil)) pa_nil))) (fun _ _ => rfl)))), ?_⟩
    have hl0 : 0 < xs.length := List.length_pos_iff.mpr hx
    refine ⟨_, rfl, _, rfl, _, rfl, _, xs.length, rfl, its_len hI, ?_⟩
    refine ⟨p, a, b, c, _, rfl, hp, len_div hl0 hz, fun a' b' c' r h0 h1 => ?_⟩
    have hr2 : r.toNat < xs.length := by omega
    have er : r = (r.toNat : Int) := by omega
    have hg : xs[r.toNat]? = some xs[r.toNat] := List.getElem?_eq_getElem hr2
    have q2 := q a' b' c' r.toNat _ hg
    rw [er]
    exact its_at (hI2 a' b' c') hg q2
end
end K0
end
/-! ### D2 -/
section
set_option Elab.async false
set_option linter.all false
set_option maxRecDepth 100000
set_option maxHeartbeats 4000000
namespace K0
open PySem PySem.Spec PyProof.Rows L2
/-- all but the dice at p is as it was; the dice are dice -/
def Keep (p : Addr) (H H' : Hp) : Prop := (∀ b o, b ≠ p → H b = some o → H' b = some o) ∧ ∃ a b c, H' p = some (dk a b c)
theorem Keep.refl {p : Addr} {H : Hp} {a b c : Int} (h : H p = some (dk a b c)) : Keep p H H := ⟨fun _ _ _ e => e, a, b, c, h⟩
theorem Keep.trans {p : Addr} {H H1 H2 : Hp} (h : Keep p H H1) (k : Keep p H1 H2) : Keep p H H2 := ⟨fun b o n e => k.1 b o n (h.1 b o n e), k.2⟩
theorem Keep.new {p q : Addr} {H : Hp} {o : HO} {a b c : Int} (h : H p = some (dk a b c)) (n : H q = none) : Keep p H (upd H q o) :=
  ⟨fun b u hb e => by rw [upd_ne (ne_of_none e n)]; exact e, a, b, c, by rw [upd_ne (ne_of_none h n)]; exact h⟩
theorem Keep.new2 {p q : Addr} {H H' : Hp} {o : HO} (h : Keep p H H') (n : H' q = none) : Keep p H (upd H' q o) := by
  obtain ⟨a, b, c, e⟩ := h.2
  exact h.trans (.new e n)
theorem Keep.dice {p : Addr} {H : Hp} (a b c : Int) : Keep p H (upd H p (dk a b c)) := ⟨fun d o n e => by rw [upd_ne n]; exact e, a, b, c, upd_same⟩
theorem scAll : FnScope [] [] (defScope (top iAll)) := ⟨rfl, rfl, rfl, by decide +kernel, rfl, by decide +kernel, by decide +kernel⟩
def allSigns : Str := "#$0123:_abcdefg"
def spAll : Sp := fun vs H Q _ => vs = [] ∧ Q (.str allSigns) H
theorem mapV_str (sg : Str) : sg.cps.toList.map (fun c => V.str ⟨#[c]⟩) = (sg.cps.toList.map fun c => (⟨#[c]⟩ : Str)).map V.str := by rw [List.map_map]; rfl
section
variable {P : Program} {w : World} {K : PySem.W.Frag} {mg : Str → Option Value} {base : Heap} {f fR fO : Addr} {fd fdR fdO : FuncData}
theorem ok_all {k : Nat} (F : FnP K "_law_all_signs" iAll f fd) : FnOk P w K mg base CX0 (k + 1) f fd [] spAll := by
  refine F.ok scAll (fun vs H Q E h => ?_) (fun cdv A outer s H vs Q E hr h => ?_)
  · rw [h.1]; rfl
  · obtain ⟨rfl, q⟩ := h
    exact ⟨_, PSs.nox (pss_one (ps_ret pe_str)), q⟩
end
end K0
end
/-! ### V0 -/
section
set_option Elab.async false
set_option linter.all false
set_option maxRecDepth 100000
set_option maxHeartbeats 4000000
/-! Values of any depth with dicts (Dv), read off the heap; repr of them. -/
namespace K0
open PySem PySem.Spec PyProof.Rows L2
def keyD : Key → PyData
  | .inl i => .int i
  | .inr x => .str x
mutual
inductive Dv (K : PySem.W.Frag) (H : Hp) : V → PyData → Prop
  | non : Dv K H .non .none
  | bl (b : Bool) : Dv K H (.bl b) (.bool b)
  | int (i : Int) : Dv K H (.int i) (.int i)
  | str (x : Str) : Dv K H (.str x) (.str x)
  | lst {a : Addr} {xs : List V} {ds : List PyData} : SqL K H a xs → DvAll K H xs ds → Dv K H (.ref a) (.list ds)
  | tup {a : Addr} {xs : List V} {ds : List PyData} : SqT K H a xs → DvAll K H xs ds → Dv K H (.ref a) (.tuple ds)
  | dic {a : Addr} {kvs : List (Key × V)} {ds : List (PyData × PyData)} : H a = some (.dK kvs) → ds.map (·.1) = kvs.map (fun p => keyD p.1) → DvAll K H (kvs.map (·.2)) (ds.map (·.2)) → Dv K H (.ref a) (.dict ds)
inductive DvAll (K : PySem.W.Frag) (H : Hp) : List V → List PyData → Prop
  | nil : DvAll K H [] []
  | cons {v : V} {vs : List V} {d : PyData} {ds : List PyData} : Dv K H v d → DvAll K H vs ds → DvAll K H (v :: vs) (d :: ds)
end
theorem same_tup {K : PySem.W.Frag} {H H' : Hp} {a : Addr} {xs : List V} (e : Same H H') (h : SqT K H a xs) : SqT K H' a xs := by
  rcases h with (h | ⟨o, h⟩) | h
  · exact .inl (.inl (e _ _ h))
  · exact .inl (.inr ⟨o, e _ _ h⟩)
  · exact .inr h
mutual
theorem Dv.same {K : PySem.W.Frag} {H H' : Hp} (e : Same H H') : ∀ (d : PyData) (v : V), Dv K H v d → Dv K H' v d
  | .none, _, h => by cases h; exact .non
  | .bool b, _, h => by cases h; exact .bl b
  | .int i, _, h => by cases h; exact .int i
  | .str x, _, h => by cases h; exact .str x
  | .list ds, _, h => by cases h with | lst h1 h2 => exact .lst (e.seq h1) (DvAll.same e ds _ h2)
  | .tuple ds, _, h => by cases h with | tup h1 h2 => exact .tup (same_tup e h1) (DvAll.same e ds _ h2)
  | .dict ds, _, h => by cases h with | dic h1 h2 h3 => exact .dic (e _ _ h1) h2 (DvAll.sameKv e ds _ h3)
theorem DvAll.same {K : PySem.W.Frag} {H H' : Hp} (e : Same H H') : ∀ (ds : List PyData) (vs : List V), DvAll K H vs ds → DvAll K H' vs ds
  | [], _, h => by cases h; exact .nil
  | d :: ds, _, h => by cases h with | cons h1 h2 => exact .cons (Dv.same e d _ h1) (DvAll.same e ds _ h2)
theorem DvAll.sameKv {K : PySem.W.Frag} {H H' : Hp} (e : Same H H') : ∀ (ds : List (PyData × PyData)) (vs : List V), DvAll K H vs (ds.map (·.2)) → DvAll K H' vs (ds.map (·.2))
  | [], _, h => by cases h; exact .nil
  | (k, d) :: ds, _, h => by cases h with | cons h1 h2 => exact .cons (Dv.same e d _ h1) (DvAll.sameKv e ds _ h2)
end
theorem Dv.same' {K : PySem.W.Frag} {H H' : Hp} {v : V} {d : PyData} (h : Dv K H v d) (e : Same H H') : Dv K H' v d := Dv.same e d v h
/-- the written part knows where sys.modules stands -/
def sysB (K : PySem.W.Frag) : Bool := match K.lookup sysModules with
  | some o => o.cls == .type "dict"
  | none => false
section
variable {X : Cx} {pins : List (Addr × Obj)} {σ : L2.St} {H : Hp} {s : Shared}
theorem sys_obj (I : Inv X pins σ H s) (b : sysB X.K = true) : ∃ o, s.heap.get? sysModules = some o ∧ o.cls = .type "dict" ∧ H sysModules = none := by
  unfold sysB at b
  cases e : X.K.lookup sysModules with
  | none => rw [e] at b; cases b
  | some o =>
    rw [e] at b
    have z := I.bs _ _ (I.ok.mod.kin _ _ e)
    exact ⟨o, z.1, by simpa using b, z.2⟩
theorem keys_read {h : Heap} {P : Program} {w : World} : ∀ {es : List DictEntry} {kvs : List (Key × Value)}, Pairs (mixKind P w) es kvs → ReadsAll h (es.map (·.key)) (kvs.map fun p => keyD p.1) []
  | _, _, .nil => .nil
  | _, _, .cons (e := e) (kv := kv) h1 h2 h3 => by
    have r : Reads h e.key (keyD kv.1) [] := by
      rcases keyIs_shape (show keyIs kv.1 e.key = true from h1) with ⟨i, t, e1, e2⟩ | ⟨y, t, e1, e2⟩
      · rw [e1, e2]; exact .int i t
      · rw [e1, e2]; exact .str y t
    have q := ReadsAll.cons r (keys_read (h := h) h3)
    simpa using q
theorem vals_of_pairs {P : Program} {w : World} : ∀ {es : List DictEntry} {kvs : List (Key × Value)}, Pairs (mixKind P w) es kvs → es.map (·.val) = kvs.map (·.2)
  | _, _, .nil => rfl
  | _, _, .cons h1 h2 h3 => by rw [List.map_cons, List.map_cons, h2, vals_of_pairs h3]
theorem kv_fst : ∀ {kvs : List (Key × V)} {vs : List (Key × Value)}, KV kvs vs → kvs.map (fun p => keyD p.1) = vs.map (fun p => keyD p.1)
  | _, _, .nil => rfl
  | _, _, .cons h1 h2 => by rw [List.map_cons, List.map_cons, h1.1, kv_fst h2]
theorem kv_snd : ∀ {kvs : List (Key × V)} {vs : List (Key × Value)}, KV kvs vs → Vals (kvs.map (·.2)) (vs.map (·.2))
  | _, _, .nil => .nil
  | _, _, .cons h1 h2 => .cons h1.2 (kv_snd h2)
theorem nomem_cons {a : Addr} {as : List Addr} {z : Addr} (h : z ≠ a) (h2 : z ∉ as) : z ∉ a :: as := fun m => (List.mem_cons.mp m).elim h h2
theorem nomem_app {as bs : List Addr} {z : Addr} (h : z ∉ as) (h2 : z ∉ bs) : z ∉ as ++ bs := fun m => (List.mem_append.mp m).elim h h2
mutual
theorem Dv.reads (I : Inv X pins σ H s) (b : sysB X.K = true) : ∀ (d : PyData) (v : V) (u : Value), Dv X.K H v d → RelV v u → ∃ as, Reads s.heap u d as ∧ sysModules ∉ as
  | .none, _, _, h, r => by cases h; cases r; exact ⟨_, .none, fun z => nomatch z⟩
  | .bool _, _, _, h, r => by cases h; cases r; exact ⟨_, .bool _, fun z => nomatch z⟩
  | .int _, _, _, h, r => by cases h; obtain ⟨t, rfl⟩ := r; exact ⟨_, .int _ t, fun z => nomatch z⟩
  | .str _, _, _, h, r => by cases h; obtain ⟨t, rfl⟩ := r; exact ⟨_, .str _ t, fun z => nomatch z⟩
  | .list ds, _, _, h, r => by
    cases h with
    | lst h1 h2 =>
      cases r
      obtain ⟨its, rv, ⟨o, n, ho, hc, _, hd⟩, _⟩ := I.list h1
      obtain ⟨as, q, z⟩ := DvAll.reads I b ds _ its h2 rv
      refine ⟨_, .list ho hc hd q, nomem_cons (fun e => ?_) z⟩
      obtain ⟨o2, e1, e2, _⟩ := sys_obj I b
      rw [e, ho] at e1
      cases e1
      rw [hc] at e2
      exact absurd e2 (by decide)
  | .tuple ds, _, _, h, r => by
    cases h with
    | tup h1 h2 =>
      cases r
      obtain ⟨its, rv, ⟨o, ho, hc, n, hd⟩, _⟩ := I.tuple h1
      obtain ⟨as, q, z⟩ := DvAll.reads I b ds _ its h2 rv
      exact ⟨_, .tuple ho hc hd q, z⟩
  | .dict ds, _, _, h, r => by
    cases h with
    | dic h1 h2 h3 =>
      cases r
      obtain ⟨_, hsys, vs, kv, o, es, ep, ho, ex, hd, _, pr, _⟩ := I.hok _ _ h1
      obtain ⟨as, q, z⟩ := DvAll.readsKv I b ds _ (es.toList.map (·.val)) h3 (by rw [vals_of_pairs pr]; exact kv_snd kv)
      have ks : ReadsAll s.heap (es.toList.map (·.key)) (ds.map (·.1)) [] := by rw [h2, kv_fst kv]; exact keys_read pr
      refine ⟨_, .dict ho ex.1 hd ks q, ?_⟩
      exact nomem_cons (fun e => by rw [← e] at hsys; simp at hsys) z
theorem DvAll.reads (I : Inv X pins σ H s) (b : sysB X.K = true) : ∀ (ds : List PyData) (vs : List V) (us : List Value), DvAll X.K H vs ds → Vals vs us → ∃ as, ReadsAll s.heap us ds as ∧ sysModules ∉ as
  | [], _, _, h, r => by cases h; cases r; exact ⟨_, .nil, fun z => nomatch z⟩
  | d :: ds, _, _, h, r => by
    cases h with
    | cons h1 h2 =>
      cases r with
      | cons r1 r2 =>
        obtain ⟨as, q1, z1⟩ := Dv.reads I b d _ _ h1 r1
        obtain ⟨bs, q2, z2⟩ := DvAll.reads I b ds _ _ h2 r2
        exact ⟨_, .cons q1 q2, nomem_app z1 z2⟩
theorem DvAll.readsKv (I : Inv X pins σ H s) (b : sysB X.K = true) : ∀ (ds : List (PyData × PyData)) (vs : List V) (us : List Value), DvAll X.K H vs (ds.map (·.2)) → Vals vs us → ∃ as, ReadsAll s.heap us (ds.map (·.2)) as ∧ sysModules ∉ as
  | [], _, _, h, r => by cases h; cases r; exact ⟨_, .nil, fun z => nomatch z⟩
  | (k, d) :: ds, _, _, h, r => by
    cases h with
    | cons h1 h2 =>
      cases r with
      | cons r1 r2 =>
        obtain ⟨as, q1, z1⟩ := Dv.reads I b d _ _ h1 r1
        obtain ⟨bs, q2, z2⟩ := DvAll.readsKv I b ds _ _ h2 r2
        exact ⟨_, .cons q1 q2, nomem_app z1 z2⟩
end
/-- small enough to be shown -/
structure Fit (d : PyData) : Prop where
  able : d.showable = true
  leaf : d.leavesShort 60 = true
  bulk : d.bulk ≤ 100000
  depth : d.depth ≤ 8
theorem Fit.size {d : PyData} (f : Fit d) : d.shown.length ≤ sizeLine := by
  have h := PyData.shown_le_bulk 60 (by decide) d f.leaf
  have h2 := f.bulk
  rw [sizeLine_eq]
  omega
def rRepr (K : PySem.W.Frag) : List V → Hp → VK → Prop := fun xs H Q => ∃ x d, xs = [x] ∧ Dv K H x d ∧ Fit d ∧ Q (.str d.shown) H
theorem call_repr (b : sysB X.K = true) (gd : X.A.guards = some []) (hu : X.A.units + 64 < cLine) : CallR X (.builtin "repr") (rRepr X.K) := by
  intro pins s σ H xs us Q I r h
  obtain ⟨x, d, rfl, hd, ft, q⟩ := h
  obtain ⟨u, rfl, rx⟩ := vals1 r
  obtain ⟨as, rd, nos⟩ := Dv.reads I b d x u hd rx
  have fin : ∀ t s2, Inv X pins σ H s2 → EP X pins σ Q (.str d.shown t) s2 := fun t s2 J => ⟨.str d.shown, H, J, ⟨t, rfl⟩, q⟩
  have dp := ft.depth
  cases hd with
  | non => cases rx; exact PySem.P.repr_of_none (by simpa [PyData.shown] using fin _ _ (I.tok _))
  | bl c => cases rx; exact PySem.P.repr_of_bool (by simpa [PyData.shown] using fin _ _ (I.tok _))
  | int i => obtain ⟨t, rfl⟩ := rx; exact PySem.P.repr_of_int (by have z := ft.able; simpa [PyData.showable] using z) (by simpa [PyData.shown] using fin _ _ (I.tok _))
  | str z => obtain ⟨t, rfl⟩ := rx; exact PySem.P.repr_of_str (by simpa [PyData.shown] using fin _ _ (I.tok _)) (by simpa [PyData.shown] using ft.size)
  | lst h1 h2 => cases rx; exact repr_of_reads' rd ft.able (fun _ => nos) gd (by omega) (fun _ _ e => e) (fun h' u tk k => fin _ _ (I.kept k)) ft.size
  | tup h1 h2 => cases rx; exact repr_of_reads' rd ft.able (fun _ => nos) gd (by omega) (fun _ _ e => e) (fun h' u tk k => fin _ _ (I.kept k)) ft.size
  | dic h1 h2 h3 => cases rx; exact repr_of_reads' rd ft.able (fun _ => nos) gd (by omega) (fun _ _ e => e) (fun h' u tk k => fin _ _ (I.kept k)) ft.size
end
end K0
end
/-! ### O0 -/
section
set_option Elab.async false
set_option linter.all false
set_option maxRecDepth 100000
set_option maxHeartbeats 4000000
/-! Displays of data: what they evaluate to (Ev1, EvN), beside the dice at p; a text repeated; the drawn odd value. -/
namespace K0
open PySem PySem.Spec PyProof.Rows L2
def rep (z : Str) (n : Int) : Str := ⟨(List.replicate n.toNat z.cps).foldl (· ++ ·) #[]⟩
theorem fold_size {α : Type} (cs : Array α) : ∀ (k : Nat) (acc : Array α), ((List.replicate k cs).foldl (· ++ ·) acc).size = acc.size + k * cs.size
  | 0, acc => by simp
  | k + 1, acc => by
    rw [List.replicate_succ, List.foldl_cons, fold_size cs k, Array.size_append, Nat.succ_mul]
    omega
theorem rep_len (z : Str) (n : Int) : (rep z n).length = n.toNat * z.length := by
  show ((List.replicate n.toNat z.cps).foldl (· ++ ·) #[]).size = _
  rw [fold_size]
  show 0 + _ = _
  rw [Nat.zero_add]
  rfl
def rStrMul : R2 := fun x y H Q => ∃ (z : Str) (n : Int), x = .str z ∧ y = .int n ∧ 2 ≤ n ∧ n ≤ 10000 ∧ 1 ≤ z.length ∧ z.length ≤ 1000 ∧ Q (.str (rep z n)) H
theorem op_strMul {X : Cx} : OpR X (binaryOp .Mult) rStrMul := by
  intro pins s σ H x y v u Q I rx ry h
  obtain ⟨z, n, rfl, rfl, n2, n1, z1, z2, q⟩ := h
  obtain ⟨t, rfl⟩ := rx
  obtain ⟨t', rfl⟩ := ry
  have e2 : (2 : Int) ^ 63 = 9223372036854775808 := by decide
  have hn1 : (n == 1) = false := by simp; omega
  have hz0 : (z.length == 0) = false := by simp; omega
  have big : z.length * n.toNat ≤ 1000 * 10000 := Nat.mul_le_mul z2 (by omega)
  refine PySem.P.mul_str (by simp; omega) (fun _ _ => ?_) (fun _ _ => ?_) ?_
  · have h1 : (1000 : Int) ≤ (2 ^ 63 - 1) / n := (Int.le_ediv_iff_mul_le (by omega)).mpr (by omega)
    omega
  · unfold Builtin.Str.tooLong
    rw [sizeLine_eq]
    exact decide_eq_false (by omega)
  · rw [if_neg (by omega), if_neg (by rw [hn1, hz0]; simp)]
    have hl := rep_len z n
    refine ⟨by show (rep z n).length ≤ sizeLine; rw [hl, Nat.mul_comm, sizeLine_eq]; omega, ?_⟩
    exact ⟨.str (rep z n), H, I.tok _, ⟨_, rfl⟩, q⟩
/-- the heap without what stands at p -/
def hid (p : Addr) (H : Hp) : Hp := fun b => if b = p then none else H b
theorem hid_ne {p b : Addr} {H : Hp} (h : b ≠ p) : hid p H b = H b := if_neg h
theorem hid_same {p : Addr} {H H' : Hp} (h : ∀ b o, b ≠ p → H b = some o → H' b = some o) : Same (hid p H) (hid p H') := fun b o e => by
  by_cases hb : b = p
  · subst hb
    have z : (none : Option HO) = some o := (if_pos rfl).symm.trans e
    cases z
  · rw [hid_ne hb] at e ⊢
    exact h b o hb e
theorem hid_out {p : Addr} {H : Hp} : Same (hid p H) H := fun b o e => by
  by_cases hb : b = p
  · subst hb
    have z : (none : Option HO) = some o := (if_pos rfl).symm.trans e
    cases z
  · rw [hid_ne hb] at e
    exact e
theorem same_upd {H : Hp} {q : Addr} {o : HO} (h : H q = none) : Same H (upd H q o) := fun b u e => by
  rw [upd_ne (ne_of_none e h)]
  exact e
def Dice (p : Addr) (H : Hp) : Prop := ∃ a b c, H p = some (dk a b c)
theorem Dice.same {p : Addr} {H H' : Hp} (h : Dice p H) (e : Same H H') : Dice p H' := by
  obtain ⟨a, b, c, z⟩ := h
  exact ⟨a, b, c, e _ _ z⟩
theorem Dice.ne {p q : Addr} {H : Hp} (h : Dice p H) (n : H q = none) : q ≠ p := by
  obtain ⟨a, b, c, z⟩ := h
  exact (ne_of_none z n).symm
theorem DvAll.length {K : PySem.W.Frag} {H : Hp} : ∀ {xs : List V} {ds : List PyData}, DvAll K H xs ds → xs.length = ds.length
  | _, [], h => by cases h; rfl
  | _, d :: ds, h => by cases h with | cons h1 h2 => rw [List.length_cons, List.length_cons, DvAll.length h2]
theorem DvAll.get {K : PySem.W.Frag} {H : Hp} : ∀ {ds : List PyData} {xs : List V} {i : Nat} {x : V}, DvAll K H xs ds → xs[i]? = some x → ∃ d, ds[i]? = some d ∧ Dv K H x d
  | [], _, i, x, h, e => by cases h; simp at e
  | d :: ds, _, 0, x, h, e => by cases h with | cons h1 h2 => simp at e; subst e; exact ⟨d, rfl, h1⟩
  | d :: ds, _, i + 1, x, h, e => by cases h with | cons h1 h2 => exact DvAll.get (i := i) h2 (by simpa using e)
theorem DvAll.append {K : PySem.W.Frag} {H : Hp} : ∀ {ds es : List PyData} {xs ys : List V}, DvAll K H xs ds → DvAll K H ys es → DvAll K H (xs ++ ys) (ds ++ es)
  | [], _, _, _, h, g => by cases h; exact g
  | d :: ds, _, _, _, h, g => by cases h with | cons h1 h2 => exact .cons h1 (DvAll.append h2 g)
section
variable {K : PySem.W.Frag} {p : Addr} {σ : L2.St}
def Ev1 (K : PySem.W.Frag) (p : Addr) (σ : L2.St) (te : TE) (d : PyData) : Prop := ∀ H Q, Dice p H → (∀ x H', Same H H' → Dv K (hid p H') x d → Q x H') → te σ H Q
def EvN (K : PySem.W.Frag) (p : Addr) (σ : L2.St) (ta : TA) (ds : List PyData) : Prop := ∀ H Q, Dice p H → (∀ xs H', Same H H' → DvAll K (hid p H') xs ds → Q xs H') → ta σ H Q
theorem ev_non : Ev1 K p σ (tC .non) .none := fun H Q _ q => q _ H (Same.refl H) .non
theorem ev_bl {b : Bool} : Ev1 K p σ (tC (.bl b)) (.bool b) := fun H Q _ q => q _ H (Same.refl H) (.bl b)
theorem ev_int {i : Int} : Ev1 K p σ (tC (.int i)) (.int i) := fun H Q _ q => q _ H (Same.refl H) (.int i)
theorem ev_str {z : Str} : Ev1 K p σ (tC (.str z)) (.str z) := fun H Q _ q => q _ H (Same.refl H) (.str z)
theorem ev_neg {i : Int} : Ev1 K p σ (tUn (rU fun i => .int (-i)) (tC (.int i))) (.int (-i)) := fun H Q _ q => ⟨i, rfl, q _ H (Same.refl H) (.int _)⟩
theorem ev_pow {i j : Int} (h : PowBits i j) : Ev1 K p σ (tOp (rI PowBits fun i j => .int (i ^ j.toNat)) (tC (.int i)) (tC (.int j))) (.int (i ^ j.toNat)) := fun H Q _ q => ⟨i, j, rfl, rfl, h, q _ H (Same.refl H) (.int _)⟩
theorem ev_rep {z : Str} {n : Int} (h : 2 ≤ n ∧ n ≤ 10000 ∧ 1 ≤ z.length ∧ z.length ≤ 1000) : Ev1 K p σ (tOp rStrMul (tC (.str z)) (tC (.int n))) (.str (rep z n)) := fun H Q _ q => ⟨z, n, rfl, rfl, h.1, h.2.1, h.2.2.1, h.2.2.2, q _ H (Same.refl H) (.str _)⟩
theorem ev_nil : EvN K p σ tNil [] := fun H Q _ q => q _ H (Same.refl H) .nil
theorem ev_cons {te : TE} {ta : TA} {d : PyData} {ds : List PyData} (h : Ev1 K p σ te d) (g : EvN K p σ ta ds) : EvN K p σ (tCons te ta) (d :: ds) := fun H Q D q =>
  h H _ D fun x H1 e1 v1 => g H1 _ (D.same e1) fun xs H2 e2 v2 => q _ H2 (e1.trans e2) (.cons (v1.same (hid_same fun b o _ z => e2 b o z)) v2)
theorem ev_tup {ta : TA} {ds : List PyData} (g : EvN K p σ ta ds) (hl : ds.length ≤ 1000) : Ev1 K p σ (tTup ta) (.tuple ds) := fun H Q D q =>
  g H _ D fun xs H1 e1 v1 => ⟨by rw [v1.length]; exact Nat.le_of_lt (small1000 hl), fun a na => q _ _ (e1.trans (same_upd na)) (.tup (xs := xs) (.of (by rw [hid_ne ((D.same e1).ne na), upd_same])) (v1.same (hid_same fun b o _ z => same_upd na b o z)))⟩
theorem ev_lst {ta : TA} {ds : List PyData} (g : EvN K p σ ta ds) (hl : ds.length ≤ 1000) : Ev1 K p σ (tLst ta) (.list ds) := fun H Q D q =>
  g H _ D fun xs H1 e1 v1 => ⟨by rw [v1.length]; exact Nat.le_of_lt (small1000 hl), fun a na => q _ _ (e1.trans (same_upd na)) (.lst (xs := xs) (.of (by rw [hid_ne ((D.same e1).ne na), upd_same])) (v1.same (hid_same fun b o _ z => same_upd na b o z)))⟩
theorem ev_dict0 : Ev1 K p σ tDNewK (.dict []) := fun H Q D q => fun a na => q _ _ (same_upd na) (.dic (kvs := []) (by rw [hid_ne (D.ne na), upd_same]) rfl .nil)
theorem ev_dict1 {k : Str} {i : Int} : Ev1 K p σ (tDisp [(tC (.str k), tC (.int i))]) (.dict [(.str k, .int i)]) := fun H Q D q => fun a na => by
  refine ⟨upd_same, [(.inr k, .int i)], rfl, (by show 1 ≤ 15; decide), ?_⟩
  rw [upd_upd]
  exact q _ _ (same_upd na) (.dic (kvs := [(.inr k, .int i)]) (by rw [hid_ne (D.ne na), upd_same]; rfl) rfl (.cons (.int i) .nil))
end
end K0
end
/-! ### A1 -/
section
set_option Elab.async false
set_option linter.all false
set_option maxRecDepth 100000
set_option maxHeartbeats 4000000
/-! Values by their data: types, signs, texts, numbers; strip of a set of signs leaves nothing just of texts of them. -/
namespace K0
open PySem PySem.Spec PyProof.Rows L2
def dty : PyData → String
  | .none => "NoneType"
  | .bool _ => "bool"
  | .int _ => "int"
  | .str _ => "str"
  | .list _ => "list"
  | .tuple _ => "tuple"
  | .dict _ => "dict"
theorem Dv.ty {K : PySem.W.Frag} {H : Hp} {v : V} {d : PyData} (h : Dv K H v d) : TyX K H v (.type (dty d)) := by
  cases h with
  | non => exact .base .non
  | bl b => exact .base (.bl b)
  | int i => exact .base (.int i)
  | str x => exact .base (.str x)
  | lst h1 h2 =>
    rcases h1 with (h1 | ⟨o, h1⟩) | ⟨o, its, n, h1, c, _⟩
    · exact .base (.lst h1)
    · exact .base (.frz h1)
    · exact .kList h1 c
  | tup h1 h2 =>
    rcases h1 with (h1 | ⟨o, h1⟩) | ⟨o, its, n, h1, c, _⟩
    · exact .base (.tup h1)
    · exact .fTuple h1
    · exact .kTuple h1 c
  | dic h1 h2 h3 => exact .base (.dK h1)
def isStrD : PyData → Bool
  | .str _ => true
  | _ => false
def isIntD : PyData → Bool
  | .int _ => true
  | .bool _ => true
  | _ => false
def isBoolD : PyData → Bool
  | .bool _ => true
  | _ => false
def isTupD : PyData → Bool
  | .tuple _ => true
  | _ => false
section
variable {K : PySem.W.Frag}
theorem kit_str (d : PyData) : PySem.W.kitOne K (.type (dty d)) (.type "str") = some (isStrD d) := by cases d <;> (dsimp only [dty, isStrD, isIntD, isBoolD, isTupD]; exact kit_ty (by decide +kernel))
theorem kit_int (d : PyData) : PySem.W.kitOne K (.type (dty d)) (.type "int") = some (isIntD d) := by cases d <;> (dsimp only [dty, isStrD, isIntD, isBoolD, isTupD]; exact kit_ty (by decide +kernel))
theorem kit_bool (d : PyData) : PySem.W.kitOne K (.type (dty d)) (.type "bool") = some (isBoolD d) := by cases d <;> (dsimp only [dty, isStrD, isIntD, isBoolD, isTupD]; exact kit_ty (by decide +kernel))
theorem kit_tup (d : PyData) : PySem.W.kitOne K (.type (dty d)) (.type "tuple") = some (isTupD d) := by cases d <;> (dsimp only [dty, isStrD, isIntD, isBoolD, isTupD]; exact kit_ty (by decide +kernel))
/-- isinstance(v, T) of a value that is data -/
theorem rd_isi {H : Hp} {Q : VK} {v : V} {d : PyData} {n : String} {b : Bool} (h : Dv K H v d) (k : PySem.W.kitOne K (.type (dty d)) (.type n) = some b) (q : Q (.bl b) H) : rIsi K [v, .ty n] H Q := ⟨v, .ty n, _, _, b, rfl, .ty n, h.ty, k, q⟩
end
/-! ### strip -/
theorem takeWhile_all {g : Nat → Bool} : ∀ {l : List Nat}, l.all g = true → l.takeWhile g = l
  | [], _ => rfl
  | c :: l, h => by
    rw [List.all_cons, Bool.and_eq_true] at h
    rw [List.takeWhile_cons_of_pos h.1, takeWhile_all h.2]
theorem takeWhile_len {g : Nat → Bool} : ∀ (l : List Nat), (l.takeWhile g).length ≤ l.length
  | [] => Nat.le_refl _
  | c :: l => by
    by_cases h : g c = true
    · rw [List.takeWhile_cons_of_pos h]
      exact Nat.succ_le_succ (takeWhile_len l)
    · rw [List.takeWhile_cons_of_neg h]
      exact Nat.zero_le _
theorem takeWhile_full {g : Nat → Bool} : ∀ {l : List Nat}, (l.takeWhile g).length = l.length → l.all g = true
  | [], _ => rfl
  | c :: l, h => by
    by_cases z : g c = true
    · rw [List.takeWhile_cons_of_pos z, List.length_cons, List.length_cons] at h
      rw [List.all_cons, z, Bool.true_and]
      exact takeWhile_full (by omega)
    · rw [List.takeWhile_cons_of_neg z] at h
      simp at h
theorem drop_takeWhile {g : Nat → Bool} : ∀ (l : List Nat), l.drop (l.takeWhile g).length = [] ∨ ∃ c r, l.drop (l.takeWhile g).length = c :: r ∧ g c = false
  | [] => .inl rfl
  | c :: l => by
    by_cases h : g c = true
    · rw [List.takeWhile_cons_of_pos h]
      exact drop_takeWhile l
    · rw [List.takeWhile_cons_of_neg h]
      exact .inr ⟨c, l, rfl, by simpa using h⟩
theorem strSub_len (x : Str) (i j : Nat) : (Builtin.Str.strSub x i j).length = min j x.length - i := by
  show (x.cps.extract i j).size = _
  rw [Array.size_extract]
  rfl
theorem str_nil {x : Str} : x = ("" : Str) ↔ x.length = 0 := by
  constructor
  · rintro rfl
    rfl
  · intro h
    obtain ⟨a⟩ := x
    have z : a = #[] := Array.eq_empty_of_size_eq_zero h
    rw [z]
    rfl
theorem strip_len (x y : Str) : (Txt.stripChars x y).length = 0 ↔ x.cps.toList.all (fun c => y.cps.contains c) = true := by
  have e : Txt.stripChars x y = PySem.W.stripped (fun c => y.cps.contains c) true true x := by
    rw [Txt.stripChars, stripBy_eq]
    rfl
  rw [e]
  unfold PySem.W.stripped
  simp only [if_true]
  rw [strSub_len]
  generalize hg : (fun c => y.cps.contains c) = g
  have hl : x.length = x.cps.toList.length := by
    show x.cps.size = _
    simp
  have h1 := takeWhile_len (g := g) x.cps.toList
  have h2 := takeWhile_len (g := g) (x.cps.toList.drop (x.cps.toList.takeWhile g).length).reverse
  rw [List.length_reverse, List.length_drop] at h2
  constructor
  · intro h
    refine takeWhile_full (g := g) ?_
    rcases drop_takeWhile (g := g) x.cps.toList with z | ⟨c, r, z, hc⟩
    · have z2 := congrArg List.length z
      rw [List.length_drop, List.length_nil] at z2
      omega
    · have z3 : (((x.cps.toList.drop (x.cps.toList.takeWhile g).length).reverse).takeWhile g).length < (x.cps.toList.drop (x.cps.toList.takeWhile g).length).length := by
        refine Nat.lt_of_le_of_ne (by rw [List.length_drop]; exact h2) fun w => ?_
        have w2 := takeWhile_full (g := g) (l := (x.cps.toList.drop (x.cps.toList.takeWhile g).length).reverse) (by rw [List.length_reverse]; exact w)
        rw [z, List.reverse_cons, List.all_append, Bool.and_eq_true] at w2
        have w3 := w2.2
        rw [List.all_cons, hc] at w3
        cases w3
      rw [List.length_drop] at z3
      omega
  · intro h
    rw [takeWhile_all h, List.drop_length]
    simp [hl]
end K0
end
/-! ### A2 -/
section
set_option Elab.async false
set_option linter.all false
set_option maxRecDepth 100000
set_option maxHeartbeats 4000000
/-! is_number, is_sign, is_text, and the same told sign by sign. -/
namespace K0
open PySem PySem.Spec PyProof.Rows L2
def sgAll (z : Str) : Bool := z.cps.toList.all fun c => allSigns.cps.contains c
def isTextD : PyData → Bool
  | .str z => sgAll z
  | _ => false
def isSignD : PyData → Bool
  | .str z => decide (z.length = 1) && sgAll z
  | _ => false
def isNumD (lo hi : Int) : PyData → Bool
  | .int i => decide (lo ≤ i) && decide (i ≤ hi)
  | _ => false
theorem sg_mem (c : Nat) : allSigns.cps.contains c = decide (c ∈ allSigns.cps.toList) := by
  rw [Array.contains_eq_mem]
  exact decide_eq_decide.mpr Array.mem_toList_iff.symm
theorem one_cp {z : Str} (h : z.length = 1) : ∃ c, z = ⟨#[c]⟩ := by
  obtain ⟨⟨l⟩⟩ := z
  match l, h with
  | [c], _ => exact ⟨c, rfl⟩
theorem not_str {d : PyData} (h : ¬ isStrD d = true) : isTextD d = false ∧ isSignD d = false := by
  cases d <;> first | exact ⟨rfl, rfl⟩ | exact absurd rfl h
theorem is_str {K : PySem.W.Frag} {H : Hp} {v : V} {d : PyData} (hd : Dv K H v d) (h : isStrD d = true) : ∃ z, v = .str z ∧ d = .str z := by
  cases hd <;> first | exact ⟨_, rfl, rfl⟩ | cases h
theorem scText : FnScope ["value"] ["value"] (defScope (top iIsText)) := ⟨rfl, rfl, rfl, by decide +kernel, rfl, by decide +kernel, by decide +kernel⟩
def spNum (K : PySem.W.Frag) : Sp := fun vs H Q _ => ∃ (v : V) (d : PyData) (lo hi : Int), vs = [v, .int lo, .int hi] ∧ Dv K H v d ∧ Q (.bl (isNumD lo hi d)) H
/-- a bool that hangs on the value's data; what is told is that f of it; texts are short enough -/
def spD (K : PySem.W.Frag) (f : PyData → Bool) : Sp := fun vs H Q _ => ∃ (v : V) (d : PyData), vs = [v] ∧ Dv K H v d ∧ d.bulk ≤ 100000 ∧ ∀ H', Same H H' → Q (.bl (f d)) H'
theorem small5 {n : Nat} (h : n ≤ 100000) : n < sizeLine := by rw [sizeLine_eq]; omega
section
variable {P : Program} {w : World} {K : PySem.W.Frag} {mg : Str → Option Value} {base : Heap} {f : Addr} {fd : FuncData}
theorem ok_text {k : Nat} (F : FnP K "is_text" iIsText f fd) (misi : mg "isinstance" = none) (mstr : mg "str" = none) (ms : ∃ t, mg "SIGNS" = some (.str allSigns t)) : FnOk P w K mg base CX0 (k + 1) f fd ["value"] (spD K isTextD) := by
  refine F.ok scText (fun vs H Q E h => ?_) (fun cdv A outer s H vs Q E hr h => ?_)
  · obtain ⟨v, d, rfl, _⟩ := h
    rfl
  · obtain ⟨v, d, rfl, hd, sz, q⟩ := h
    obtain ⟨t, ms⟩ := ms
    refine ⟨_, PSs.nox (pss_one (ps_ret (pe_and (pe_callB call_isi (by rfl) misi boot_isinstance (pa_cons (pv 0) (pa_cons (pe_bltn (v := .ty "str") (by rfl) mstr (by decide +kernel) rfl) pa_nil)))
      (pe_one (pe_cmpR op_eq (pe_bm PySem.F.plainAttrs_str PySem.F.slot_str_strip PySem.F.type_str_strip mt_stripChars (pv 0) (pa_cons (pe_glob (v := .str allSigns) (by rfl) ms ⟨t, rfl⟩) pa_nil)) pe_str (nomark _)))))), ?_⟩
    refine ⟨_, rfl, v, _, _, _, _, rfl, .ty _, hd.ty, kit_str d, _, rfl, ite2 (fun e => ?_) (fun e => ?_)⟩
    · obtain ⟨z, rfl, rfl⟩ := is_str hd e
      refine ⟨_, rfl, rfl, z, allSigns, rfl, rfl, Nat.le_of_lt (small5 sz), rfl, ?_⟩
      have y : isTextD (.str z) = decide (V.str (Txt.stripChars z allSigns) = V.str ("" : Str)) := by
        have x := (strip_len z allSigns)
        by_cases u : (Txt.stripChars z allSigns).length = 0
        · rw [decide_eq_true (by rw [str_nil.mpr u])]
          exact x.mp u
        · rw [decide_eq_false (fun w => u (by injection w with w; exact str_nil.mp w))]
          exact Bool.eq_false_iff.mpr fun w => u (x.mpr w)
      have q2 := q H (Same.refl H)
      rw [y] at q2
      exact q2
    · have q2 := q H (Same.refl H)
      rw [(not_str e).1] at q2
      exact q2
end
end K0
end
/-! ### A5 -/
section
set_option Elab.async false
set_option linter.all false
set_option maxRecDepth 100000
set_option maxHeartbeats 4000000
/-! list(text); items in a drawn order. -/
namespace K0
open PySem PySem.Spec PyProof.Rows L2
def signsV (z : Str) : List V := z.cps.toList.map fun c => V.str ⟨#[c]⟩
theorem signs_vals {z : Str} {acc : Array Value} (h : ItemsOf (SignAt z) acc z.cps.size) : Vals (signsV z) acc.toList := by
  obtain ⟨h1, h2⟩ := h
  have go : ∀ (l : List Nat) (us : List Value), us.length = l.length → (∀ (j : Nat) (v : Value), us[j]? = some v → ∃ (c : Nat) (u : Tok), l[j]? = some c ∧ v = Value.str ⟨#[c]⟩ u) → Vals (l.map fun c => V.str ⟨#[c]⟩) us := by
    intro l
    induction l with
    | nil =>
      intro us e _
      rw [List.eq_nil_of_length_eq_zero e]
      exact .nil
    | cons c l ih =>
      intro us e f
      cases us with
      | nil => cases e
      | cons u us =>
        obtain ⟨c', t, e1, e2⟩ := f 0 u rfl
        cases e1
        refine .cons ⟨t, e2⟩ (ih us (by simpa using e) fun j v z => ?_)
        exact f (j + 1) v z
  refine go _ _ (by simpa using h1) fun j v e => ?_
  obtain ⟨c, u, e1, e2⟩ := h2 j v (by simpa using e)
  exact ⟨c, u, by simpa using e1, e2⟩
section
variable {X : Cx}
theorem call_list_txt (hc : X.calm = true) : CallR X (.type "list") (fun xs H Q => ∃ z, xs = [.str z] ∧ z.length ≤ sizeLine ∧ ∀ l, H l = none → Q (.ref l) (upd H l (.lst (signsV z)))) := by
  intro pins s σ H xs us Q I r h
  obtain ⟨z, rfl, hz, q⟩ := h
  obtain ⟨u, rfl, t, rfl⟩ := vals1 r
  refine call_list_str (I.ok.hd hc) z t (fun h' tk acc c kp e it => ?_) hz
  refine ⟨.ref s.heap.objs.size, _, I.laid (t' := tk) kp (Nat.le_refl _) (show ObjOk X.prog X.w _ h' _ (.lst (signsV z)) from ⟨?_, acc.toList, c, signs_vals it, e⟩), rfl, q _ (I.hok.fresh (Nat.le_refl _))⟩
  show (signsV z).length ≤ sizeLine
  unfold signsV
  rw [List.length_map]
  exact hz
end
theorem mr_popAt {X : Cx} : MtR X "list.pop" rPopAt := mt_popAt
def rLenS (K : PySem.W.Frag) : List V → Hp → VK → Prop := fun xs H Q => ∃ p ys, xs = [.ref p] ∧ (SqL K H p ys ∨ SqT K H p ys) ∧ Q (.int ys.length) H
/-- within a comprehension, where the written part must be named -/
theorem call_lenK {X : Cx} (K : PySem.W.Frag) (e : X.K = K) : CallR X (.builtin "len") (rLenS K) := by
  subst e
  exact call_len_seq
theorem pe_asK {X : Cx} {e : Expr} {T : String} {r : V → List V → Hp → VK → Prop} {to : TE} {t : TA} (K : PySem.W.Frag) (hK : X.K = K) (h : PE X e (tBM X.K T r to t)) : PE X e (tBM K T r to t) := hK ▸ h
theorem taken_perm {α : Type} : ∀ {l : List α} {i : Nat} {y : α}, l[i]? = some y → (y :: l.eraseIdx i).Perm l
  | x :: l, 0, y, h => by
    cases h
    exact List.Perm.refl _
  | x :: l, i + 1, y, h => by
    have z := taken_perm (l := l) (i := i) (y := y) (by simpa using h)
    exact (List.Perm.swap x y _).trans (z.cons x)
theorem scMixed : FnScope ["dice", "items", "left", "turn"] ["dice", "items"] (defScope (top iMixed)) := ⟨rfl, rfl, rfl, by decide +kernel, rfl, by decide +kernel, by decide +kernel⟩
def spMixed (K : PySem.W.Frag) : Sp := fun vs H Q _ => ∃ (p : Addr) (a b c : Int) (q : Addr) (xs : List V), vs = [.ref p, .ref q] ∧ H p = some (dk a b c) ∧ SqL K H q xs ∧ xs.length ≤ 1000 ∧ ∀ H' l ys, Keep p H H' → ys.Perm xs → H' l = some (.lst ys) → l ≠ p → Q (.ref l) H'
section
variable {P : Program} {w : World} {K : PySem.W.Frag} {mg : Str → Option Value} {base : Heap} {f fR : Addr} {fd fdR : FuncData}
theorem ok_mixed {k : Nat} (F : FnP K "_law_mixed" iMixed f fd) (mlist : mg "list" = none) (mlen : mg "len" = none) (mrange : mg "range" = none)
    (FR : FnOk P w K mg base CX0 (k + 1) fR fdR ["dice", "total"] spRoll) (gR : mg "_law_roll" = some (.ref fR)) (kR : PySem.W.keepIn K (.ref fR) = true) (bR : Binds K fdR ["dice", "total"] []) : FnOk P w K mg base CX0 (k + 2) f fd ["dice", "items"] (spMixed K) := by
  refine F.ok scMixed (fun vs H Q E h => ?_) (fun cdv A outer s H vs Q E hr h => ?_)
  · obtain ⟨p, a, b, c, q, xs, rfl, _⟩ := h
    rfl
  · obtain ⟨p, a, b, c, ad, xs, rfl, hp, hS, hz, q⟩ := h
    refine ⟨_, PSs.nox (pss_cons (ps_set (i := 2) scMixed.nd rfl (.inr rfl) (pe_callTy call_list_of (by rfl) mlist (by decide +kernel) (pa_cons (pv 1) pa_nil)))
      (pss_one (ps_ret (pe_lc (own := [("turn", 3)]) (g := gName 3) (tt := tYes) rfl scMixed.nd (pi_range1 (by rfl) mrange (pa_cons (pe_callB call_len_seq (by rfl) mlen PySem.boot_len (pa_cons (pv 1) pa_nil)) pa_nil)) (blkOk_by (N := ["dice", "items", "left", "turn"]) (sc := defScope (top iMixed)) (by decide +kernel))
        (fun _ _ _ _ _ => pg_name (i := 3) scMixed.nd rfl (Or.inl rfl)) (fun _ _ _ _ _ => pts_nil) (fun _ _ _ _ _ => pe_asK K rfl (pe_bm PySem.F.plainAttrs_list PySem.F.slot_list_pop PySem.F.type_list_pop mr_popAt (pv 2) (pa_cons (pe_call FR hr (by rfl) gR kR bR .nil pass0 (pa_cons (pv 0) (pa_cons (pe_callB (call_lenK K rfl) (by rfl) mlen PySem.boot_len (pa_cons (pv 2) pa_nil)) pa_nil))) pa_nil))))))), ?_⟩
    refine ⟨_, rfl, ad, xs, rfl, .inl hS, fun L nL => ?_⟩
    have k1 : Keep p H (upd H L (.lst xs)) := .new hp nL
    have s1 : Same H (upd H L (.lst xs)) := same_upd nL
    have nLp : L ≠ p := (ne_of_none hp nL).symm
    have e62 : (2 : Int) ^ 62 = 4611686018427387904 := by decide
    refine ⟨_, rfl, ad, xs, rfl, .inl (s1.seq hS), _, rfl, by omega, by omega, fun D nD => lc_range (lo := 0) (n := xs.length) (fun m H' => Keep p H H' ∧ D ≠ L ∧ D ≠ p ∧ ∃ rest got, H' L = some (.lst rest) ∧ H' D = some (.lst got) ∧ got.length = m ∧ (got ++ rest).Perm xs) ⟨k1.new2 nD, fun z => ?_, fun z => ?_, xs, [], ?_, upd_same, rfl, .refl _⟩ (fun m H' hm hP => ?_) (fun H' hP => ?_)⟩
    · rw [z, upd_same] at nD
      cases nD
    · rw [z, upd_ne nLp.symm, hp] at nD
      cases nD
    · exact same_upd nD _ _ upd_same
    · obtain ⟨kk, nDL, nDp, rest, got, hL, hD, hg, pm⟩ := hP
      obtain ⟨a1, b1, c1, hp1⟩ := kk.2
      have len := pm.length_eq
      rw [List.length_append] at len
      have r0 : 0 < rest.length := by omega
      refine ⟨rfl, _, rfl, .inl ⟨rfl, _, .of hL⟩, _, rfl, _, rfl, L, rest, rfl, .inl (.of hL), p, a1, b1, c1, rest.length, rfl, hp1, len_div r0 (Nat.le_of_lt (small1000 (by omega))), fun a2 b2 c2 r h0 h1 => ?_⟩
      · have hr2 : r.toNat < rest.length := by omega
        have hy : rest[r.toNat]? = some rest[r.toNat] := List.getElem?_eq_getElem hr2
        have e63 : (2 : Int) ^ 63 = 9223372036854775808 := by decide
        have hL2 : upd H' p (dk a2 b2 c2) L = some (.lst rest) := by rw [upd_ne nLp]; exact hL
        refine ⟨L, rest, r, r.toNat, _, rfl, rfl, hL2, by omega, by omega, seqIndex_of h0 h1, hy, got, ?_, by rw [hg]; exact small1000 (by omega), ?_, nDL, nDp, rest.eraseIdx r.toNat, got ++ [rest[r.toNat]], ?_, upd_same, ?_, ?_⟩
        · rw [upd_ne nDL, upd_ne nDp]
          exact hD
        · refine ⟨fun y o n z => ?_, a2, b2, c2, ?_⟩
          · rw [upd_ne (ne_of_none (k1.1 y o n (by exact z)) nD), upd_ne (ne_of_none z nL), upd_ne n]
            exact kk.1 y o n z
          · rw [upd_ne nDp.symm, upd_ne nLp.symm, upd_same]
        · rw [upd_ne nDL.symm, upd_same]
        · rw [List.length_append, hg]
          rfl
        · rw [List.append_assoc]
          exact ((taken_perm hy).append_left got).trans pm
    · obtain ⟨kk, nDL, nDp, rest, got, hL, hD, hg, pm⟩ := hP
      have len := pm.length_eq
      rw [List.length_append] at len
      have e0 : rest = [] := List.eq_nil_of_length_eq_zero (by omega)
      rw [e0, List.append_nil] at pm
      exact q H' D got kk pm hD nDp
end
end K0
end
/-! ### A5b -/
section
set_option Elab.async false
set_option linter.all false
set_option maxRecDepth 100000
set_option maxHeartbeats 4000000
/-! Tuples that are known to stand as they were made: tuple(list), displays. -/
namespace K0
open PySem PySem.Spec PyProof.Rows L2
/-- a tuple that stands as it was made -/
def FrT (H : Hp) (t : Addr) (xs : List V) : Prop := ∃ o : Obj, H t = some (.frz o (.tup xs)) ∧ o.cls = .type "tuple" ∧ o.dict = none
theorem FrT.sq {K : PySem.W.Frag} {H : Hp} {t : Addr} {xs : List V} (h : FrT H t xs) : SqT K H t xs := let ⟨o, e, _⟩ := h; .inl (.inr ⟨o, e⟩)
theorem FrT.same {H H' : Hp} {t : Addr} {xs : List V} (h : FrT H t xs) (s : Same H H') : FrT H' t xs := let ⟨o, e, z⟩ := h; ⟨o, s _ _ e, z⟩
/-- what a fresh address holds behind a tuple's making -/
def frzT (us : List Value) (xs : List V) : HO := .frz { cls := .type "tuple", data := .seq us.toArray } (.tup xs)
theorem frzT_at {H : Hp} {t : Addr} {us : List Value} {xs : List V} : FrT (upd H t (frzT us xs)) t xs := ⟨_, upd_same, rfl, rfl⟩
section
variable {X : Cx}
theorem call_tuple_frz : CallR X (.type "tuple") (fun xs H Q => ∃ p ys, xs = [.ref p] ∧ SqL X.K H p ys ∧ ∀ t us, H t = none → Q (.ref t) (upd H t (frzT us ys))) := by
  intro pins s σ H xs us Q I r h
  obtain ⟨p, ys, rfl, hq, q⟩ := h
  obtain ⟨u, rfl, rx⟩ := vals1 r
  cases rx
  obtain ⟨its, r', pl, hz⟩ := I.list hq
  have size := r'.length
  refine call_tuple_list pl.isList (fun h' kp => ?_) (by simp only [List.size_toArray] <;> omega)
  have J : Inv X pins σ H { s with heap := h' } := I.kept (t' := s.toks) kp
  refine ⟨.ref h'.objs.size, _, J.laid (t' := s.toks) (fun b o e => Heap.get?_push_of_some _ e) (Nat.le_refl _) (show ObjOk X.prog X.w _ _ _ (frzT its ys) from ⟨Heap.get?_push_size _ rfl, hz, its, r', IsTup.new _ _⟩), rfl, q _ its (J.hok.fresh (Nat.le_refl _))⟩
def tTupF (t : TA) : TE := fun σ H Q => t σ H fun xs H1 => xs.length ≤ sizeLine ∧ ∀ a us, H1 a = none → Q (.ref a) (upd H1 a (frzT us xs))
theorem pe_tupF {es : List Expr} {k : Nat} {pos : Pos} {t : TA} (h : PA X es t) : PE X (.Tuple es k pos) (tTupF t) := by
  refine ⟨fun pins s σ H Q I hq => wpAny_Tuple_spliced (thn (h.run pos pins s σ H _ I hq) fun us s1 ⟨xs, H1, J, r, z, q⟩ => ⟨by rw [← r.length]; exact z, ?_⟩)⟩
  refine ⟨.ref s1.heap.objs.size, _, J.laid (t' := s1.toks) (fun b u e => Heap.get?_push_of_some _ e) (Nat.le_refl _) (show ObjOk X.prog X.w _ _ _ (frzT us xs) from ⟨Heap.get?_push_size _ rfl, z, us, r, ⟨_, Heap.get?_push_size _ rfl, rfl, _, rfl⟩⟩), rfl, q _ us (J.hok.fresh (Nat.le_refl _))⟩
end
end K0
end
/-! ### A6 -/
section
set_option Elab.async false
set_option linter.all false
set_option maxRecDepth 100000
set_option maxHeartbeats 4000000
/-! Drawn ascending signs. -/
namespace K0
open PySem PySem.Spec PyProof.Rows L2
def oneS (c : Nat) : Str := ⟨#[c]⟩
def oneV (c : Nat) : V := V.str (oneS c)
def codeS (z : Str) : Nat := z.cps.getD 0 0
def codeV : V → Nat
  | .str z => codeS z
  | _ => 0
theorem perm_codes {α : Type} {f : Nat → α} {g : α → Nat} (gf : ∀ c, g (f c) = c) {ys : List α} {l : List Nat} (h : ys.Perm (l.map f)) : ∃ cs : List Nat, cs.Perm l ∧ ys = cs.map f := by
  refine ⟨ys.map g, ?_, ?_⟩
  · have z := h.map g
    rw [List.map_map, show (g ∘ f) = id from funext gf, List.map_id] at z
    exact z
  · rw [List.map_map]
    have : ∀ y ∈ ys, (f ∘ g) y = y := fun y hy => by
      obtain ⟨c, _, rfl⟩ := List.mem_map.mp (h.mem_iff.mp hy)
      show f (g (f c)) = f c
      rw [gf]
    exact ((List.map_congr_left (g := id) this).trans (List.map_id ys)).symm
theorem rising_pw : ∀ (r : List Nat) (c : Nat), risingS (oneS c) (r.map oneS) = true → (c :: r).Pairwise (· ≤ ·)
  | [], c, _ => by simp
  | d :: r, c, h => by
    rw [List.map_cons, risingS, Bool.and_eq_true] at h
    obtain ⟨h1, h2⟩ := h
    have cd : c ≤ d := by
      have y : ltCps (oneS d).cps.toList (oneS c).cps.toList = false := by simpa using h1
      have z : ltCps [d] [c] = false := y
      simp [ltCps] at z
      exact z
    have pw := rising_pw r d h2
    refine List.pairwise_cons.mpr ⟨fun e he => ?_, pw⟩
    rcases List.mem_cons.mp he with rfl | he
    · exact cd
    · exact Nat.le_trans cd ((List.pairwise_cons.mp pw).1 e he)
theorem sorted_pw {cs : List Nat} (h : sortedS (cs.map oneS) = true) (nd : cs.Nodup) : cs.Pairwise (· < ·) := by
  have le : cs.Pairwise (· ≤ ·) := by
    cases cs with
    | nil => simp
    | cons c r => exact rising_pw r c h
  exact (le.and nd).imp fun z => Nat.lt_of_le_of_ne z.1 z.2
def someSigns : Str := "$:_ab"
theorem cutV_take (xs : List V) (i : Int) : cutV xs none (some i) = xs.take (HT.sIx xs.length xs.length (some i)) := by
  unfold cutV
  rw [HT.sIx_none, List.drop_zero, Nat.sub_zero]
theorem pools : ∀ z, (z = someSigns ∨ z = allSigns) → z.length ≤ 15 ∧ z.cps.toList ≠ [] ∧ z.cps.toList.Nodup ∧ ∀ c ∈ z.cps.toList, c ∈ allSigns.cps.toList := by
  rintro z (rfl | rfl)
  · exact ⟨by decide +kernel, by decide +kernel, by decide +kernel, by decide +kernel⟩
  · exact ⟨by decide +kernel, by decide +kernel, by decide +kernel, fun _ h => h⟩
theorem scLSigns : FnScope ["dice", "upto", "pool", "size"] ["dice", "upto"] (defScope (top iSigns)) := ⟨rfl, rfl, rfl, by decide +kernel, rfl, by decide +kernel, by decide +kernel⟩
def spSigns : Sp := fun vs H Q _ => ∃ (p : Addr) (a b c up : Int), vs = [.ref p, .int up] ∧ H p = some (dk a b c) ∧ 1 ≤ up ∧ up ≤ 15 ∧
  ∀ H' t (cs : List Nat), Keep p H H' → FrT H' t (cs.map oneV) → cs.Pairwise (· < ·) → cs ≠ [] → (∀ c ∈ cs, c ∈ allSigns.cps.toList) → (cs.length : Int) ≤ up → Q (.ref t) H'
section
variable {P : Program} {w : World} {K : PySem.W.Frag} {mg : Str → Option Value} {base : Heap} {f fR fA fM : Addr} {fd fdR fdA fdM : FuncData}
theorem ok_lsigns {k : Nat} (F : FnP K "_law_signs" iSigns f fd) (mlist : mg "list" = none) (mtuple : mg "tuple" = none) (msorted : mg "sorted" = none)
    (FR : FnOk P w K mg base CX0 (k + 2) fR fdR ["dice", "total"] spRoll) (gR : mg "_law_roll" = some (.ref fR)) (kR : PySem.W.keepIn K (.ref fR) = true) (bR : Binds K fdR ["dice", "total"] [])
    (FA : FnOk P w K mg base CX0 (k + 2) fA fdA [] spAll) (gA : mg "_law_all_signs" = some (.ref fA)) (kA : PySem.W.keepIn K (.ref fA) = true) (bA : Binds K fdA [] [])
    (FM : FnOk P w K mg base CX0 (k + 2) fM fdM ["dice", "items"] (spMixed K)) (gM : mg "_law_mixed" = some (.ref fM)) (kM : PySem.W.keepIn K (.ref fM) = true) (bM : Binds K fdM ["dice", "items"] []) :
    FnOk P w K mg base CX0 (k + 3) f fd ["dice", "upto"] spSigns := by
  refine F.ok scLSigns (fun vs H Q E h => ?_) (fun cdv A outer s H vs Q E hr h => ?_)
  · obtain ⟨p, a, b, c, up, rfl, _⟩ := h
    rfl
  · obtain ⟨p, a, b, c, up, rfl, hp, u1, u2, q⟩ := h
    refine ⟨_, PSs.nox (C8.pss_cut (ps_par (i := 2) (j := 3) (by rfl) scLSigns.nd rfl rfl (by decide) rfl rfl (pa_cons (pe_ifExp (PW.pt (pw_and (pt_cmpR op_lt (pv 1) pe_int (nomark _)) (pw_and1 (pt_cmpR op_gt (pe_call FR hr (by rfl) gR kR bR .nil pass0 (pa_cons (pv 0) (pa_cons pe_int pa_nil))) pe_int (nomark _))))) pe_str (pe_call0 FA hr (by rfl) gA kA bA .nil pass0))
          (pa_cons (pe_op op_add pe_int (pe_call FR hr (by rfl) gR kR bR .nil pass0 (pa_cons (pv 0) (pa_cons (pv 1) pa_nil)))) pa_nil)) (by rfl))
      (pss_one (ps_ret (pe_callTy call_tuple_frz (by rfl) mtuple (by decide +kernel) (pa_cons (pe_callB cr_sortedS (by rfl) msorted (by decide +kernel) (pa_cons (pe_slice sl_list (pe_call FM hr (by rfl) gM kM bM .nil pass0 (pa_cons (pv 0) (pa_cons (pe_callTy (call_list_txt rfl) (by rfl) mlist (by decide +kernel) (pa_cons (pv 2) pa_nil)) pa_nil))) po_none (po_some (pv 3))) pa_nil)) pa_nil))))), ?_⟩
    refine ⟨fun σ' H' => ∃ (z : Str) (r : Int), σ' = [some (.ref p), some (.int up), some (.str z), some (.int (1 + r))] ∧ Keep p H H' ∧ (z = someSigns ∨ z = allSigns) ∧ 0 ≤ r ∧ r < up, ?_, ?_⟩
    · have wd : CDivW a up := wide_div (b := 4) (by omega) (by omega) (by decide) (by decide)
      refine ⟨_, rfl, _, _, rfl, rfl, _, rfl, ite2 (fun e1 => ?_) (fun e1 => ?_)⟩
      · refine ⟨_, rfl, p, a, b, c, 4, rfl, hp, wide_div (b := 4) (by decide) (by decide) (by decide) (by decide), fun a1 b1 c1 r1 g0 g1 => ⟨_, _, rfl, rfl, _, rfl, ite2 (fun e2 => ?_) (fun e2 => ?_)⟩⟩
        · have wd : CDivW a1 up := wide_div (b := 4) (by omega) (by omega) (by decide) (by decide)
          exact ⟨_, rfl, _, rfl, p, a1, b1, c1, up, rfl, upd_same, wd, fun a' b' c' r h0 h1 => ⟨_, _, rfl, rfl, _, _, rfl, _, r, rfl, (Keep.dice a1 b1 c1).trans (.dice a' b' c'), .inl rfl, h0, h1⟩⟩
        · have wd : CDivW a1 up := wide_div (b := 4) (by omega) (by omega) (by decide) (by decide)
          refine ⟨rfl, ?_⟩
          exact ⟨_, rfl, _, rfl, p, a1, b1, c1, up, rfl, upd_same, wd, fun a' b' c' r h0 h1 => ⟨_, _, rfl, rfl, _, _, rfl, _, r, rfl, (Keep.dice a1 b1 c1).trans (.dice a' b' c'), .inr rfl, h0, h1⟩⟩
      · refine ⟨rfl, ?_⟩
        exact ⟨_, rfl, _, rfl, p, a, b, c, up, rfl, hp, wd, fun a' b' c' r h0 h1 => ⟨_, _, rfl, rfl, _, _, rfl, _, r, rfl, .dice a' b' c', .inr rfl, h0, h1⟩⟩
    rintro σ1 H1 ⟨z, r, rfl, k1, hz, r0, r1⟩
    obtain ⟨z15, zne, znd, zsg⟩ := pools z hz
    refine ⟨_, rfl, _, rfl, z, rfl, Nat.le_of_lt (small1000 (by omega)), fun l nl => ?_⟩
    have kl : Keep p H (upd H1 l (.lst (signsV z))) := k1.new2 nl
    obtain ⟨a1, b1, c1, hp1⟩ := kl.2
    have zl : z.cps.toList.length = z.length := by
      show _ = z.cps.size
      simp
    refine ⟨p, a1, b1, c1, l, _, rfl, hp1, .of upd_same, by show (z.cps.toList.map _).length ≤ 1000; rw [List.length_map, zl]; omega, fun H2 l2 ys k2 pm e2 ne => ?_⟩
    obtain ⟨cs, pc, rfl⟩ := perm_codes (f := oneV) (g := codeV) (fun c => rfl) (l := z.cps.toList) pm
    have cl := pc.length_eq
    refine ⟨_, rfl, _, rfl, l2, _, rfl, .of e2, fun l3 n3 => ?_⟩
    have kn : ∀ n : Nat, HT.sIx n n (some (1 + r)) = min (1 + r).toNat n := fun n => by
      show (if (1 + r) < 0 then ((1 + r) + (n : Int)).toNat else min (1 + r).toNat n) = min (1 + r).toNat n
      rw [if_neg (by omega)]
    have ec : cutV (cs.map oneV) none (some (1 + r)) = ((cs.take (min (1 + r).toNat cs.length)).map oneS).map V.str := by
      rw [cutV_take, kn, List.length_map, ← List.map_take, List.map_map]
      rfl
    have c0 : 0 < z.cps.toList.length := List.length_pos_iff.mpr zne
    refine ⟨l3, (cs.take (min (1 + r).toNat cs.length)).map oneS, rfl, .of (by rw [upd_same, ec]), by rw [List.length_map, List.length_take]; omega, fun ys2 l4 pm2 so n4 => ?_⟩
    obtain ⟨cs2, pc2, rfl⟩ := perm_codes (f := oneS) (g := codeS) (fun c => rfl) pm2
    have cl2 := pc2.length_eq
    rw [List.length_take] at cl2
    have mem : ∀ c ∈ cs2, c ∈ z.cps.toList := fun c hc => pc.mem_iff.mp (List.mem_of_mem_take (pc2.mem_iff.mp hc))
    have nd : cs2.Nodup := pc2.nodup_iff.mpr ((pc.nodup_iff.mpr znd).sublist (List.take_sublist _ _))
    refine ⟨l4, _, rfl, .of upd_same, fun t us nt => q _ t cs2 ((((kl.trans k2).new2 n3).new2 n4).new2 nt) (by rw [List.map_map]; exact frzT_at) (sorted_pw so nd) (fun e => ?_) (fun c hc => zsg c (mem c hc)) (by omega)⟩
    rw [e, List.length_nil] at cl2
    omega
end
end K0
end
/-! ### MD0 -/
section
set_option Elab.async false
set_option linter.all false
set_option maxRecDepth 100000
set_option maxHeartbeats 4000000
/-! A dict of mixed keys: numbers, texts, None, tuples of such, all in one. -/
namespace MD
open PySem
abbrev NK := NestedKey
def ent (w : World) (x : NK × Value × Value) : DictEntry := ⟨x.1.hash w, x.2.1, x.2.2⟩
section
variable {prog : Program} {w : World} {A : Around} {E : Value → Shared → Prop} {s : Shared} {d : Addr} {o : Obj} {es : Array DictEntry} {ep : Nat} {xs : List (NK × Value × Value)} {k : NK} {u : Value}
/-- keys as they stand -/
structure Keyd (h : Heap) (xs : List (NK × Value × Value)) : Prop where
  is : ∀ x ∈ xs, NestedIs h x.1 x.2.1 ∧ x.1.depth ≤ 8
  one : (xs.map (·.1)).Nodup
theorem Keyd.at {h : Heap} (z : Keyd h xs) {i : Nat} {x : NK × Value × Value} (e : xs[i]? = some x) : NestedIs h x.1 x.2.1 ∧ x.1.depth ≤ 8 := z.is x (List.mem_of_getElem? e)
theorem Keyd.same {h : Heap} (z : Keyd h xs) {i j : Nat} {x y : NK × Value × Value} (hi : xs[i]? = some x) (hj : xs[j]? = some y) (e : x.1 = y.1) : i = j := by
  have h1 : (xs.map (·.1))[i]? = some x.1 := by rw [List.getElem?_map, hi]; rfl
  have h2 : (xs.map (·.1))[j]? = some x.1 := by rw [List.getElem?_map, hj, e]; rfl
  exact (List.getElem?_inj (List.getElem?_eq_some_iff.mp h1).1 z.one).mp (h1.trans h2.symm)
theorem ent_at (he : es.toList = xs.map (ent w)) (j : Nat) : es[j]? = (xs[j]?).map (ent w) := by
  rw [← Array.getElem?_toList, he, List.getElem?_map]
theorem ent_size (he : es.toList = xs.map (ent w)) : es.size = xs.length := by
  rw [← Array.length_toList, he, List.length_map]
theorem place_of (he : es.toList = xs.map (ent w)) {i : Nat} {x : NK × Value × Value} (hx : xs[i]? = some x) (e : x.1 = k) : i ∈ placesWithHash es.size (fun i => es[i]?.map (·.hash)) (k.hash w) := by
  unfold placesWithHash
  refine List.mem_filter.mpr ⟨List.mem_range.mpr ?_, ?_⟩
  · rw [ent_size he]
    exact (List.getElem?_eq_some_iff.mp hx).1
  · show ((es[i]?).map (·.hash) == some (k.hash w)) = true
    rw [ent_at he, hx, ← e]
    simp [ent]
theorem places_lt {n : Nat} {f : Nat → Option Int} {h : Int} {i : Nat} (m : i ∈ placesWithHash n f h) : i < n := List.mem_range.mp (List.mem_filter.mp m).1
theorem eq_at {x y : NK} {a b : Value} {Q : Bool → Shared → Prop} (hu : A.units + 8 < cLine) (ha : NestedIs s.heap x a) (hb : NestedIs s.heap y b) (dx : x.depth ≤ 8) (q : Q (decide (x = y)) s) : wpAny (model prog w) A (eqBool a b) Q E s :=
  eqAt_key x y A s a b ha hb (by have := Nat.min_le_left x.depth y.depth; omega) prog w E Q (by rw [← NestedKey.decide_eq]; exact q)
theorem may_tell {stored : List Value} {Q : Bool → Shared → Prop} (hk : NestedIs s.heap k u) (dk : k.depth ≤ 8) (hst : ∀ v ∈ stored, ∃ k', NestedIs s.heap k' v ∧ k'.depth ≤ 8) (q : Q false s) : wpAny (model prog w) A (tableMayTell u stored) Q E s := by
  unfold tableMayTell
  split
  · exact wpAny_pure q
  · refine wpAny_bind (quiet_key k u 8 s hk dk A E _ ?_)
    simp only [Bool.not_true, Bool.false_eq_true, if_false]
    refine wpAny_bind ?_
    refine wpAny_forIn_list _ (fun left r s' => s' = s ∧ r = (none, ()) ∧ ∀ v ∈ left, ∃ k', NestedIs s.heap k' v ∧ k'.depth ≤ 8) _ ?_ ?_ _ _ ⟨rfl, rfl, hst⟩
    · rintro v left r s' ⟨rfl, rfl, all⟩
      obtain ⟨k', n1, n2⟩ := all v List.mem_cons_self
      refine wpAny_bind (quiet_key k' v 8 s' n1 n2 A E _ ?_)
      simp only [Bool.not_true, Bool.false_eq_true, if_false]
      exact wpAny_pure ⟨rfl, rfl, fun y hy => all y (List.mem_cons_of_mem _ hy)⟩
    · rintro r s' ⟨rfl, rfl, _⟩
      exact wpAny_pure q
/-- the plain walk -/
theorem walk_plain {Q : Option Nat → Shared → Prop} (hu : A.units + 8 < cLine) (ho : s.heap.get? d = some o) (hd : o.data = .dict es ep) (he : es.toList = xs.map (ent w)) (ks : Keyd s.heap xs) (hk : NestedIs s.heap k u)
    (hno : (∀ (i : Nat) (x : NK × Value × Value), xs[i]? = some x → x.1 ≠ k) → Q none s) (hyes : ∀ (i : Nat) (x : NK × Value × Value), xs[i]? = some x → x.1 = k → Q (some i) s) :
    wpAny (model prog w) A (dictWalkPlain d u (k.hash w) es (placesWithHash es.size (fun i => es[i]?.map (·.hash)) (k.hash w))) Q E s := by
  unfold dictWalkPlain
  refine wpAny_bind ?_
  refine wpAny_forIn_list _ (fun left r s' => s' = s ∧ r.1 = none ∧ (∀ i ∈ left, i ∈ placesWithHash es.size (fun i => es[i]?.map (·.hash)) (k.hash w)) ∧ ∀ (i : Nat) (x : NK × Value × Value), xs[i]? = some x → x.1 = k → i ∈ left) _ ?_ ?_ _ _ ⟨rfl, rfl, fun _ m => m, fun i x hx e => place_of he hx e⟩
  · rintro i left r s' ⟨rfl, hr, sub, cov⟩
    have lt : i < xs.length := by rw [← ent_size he]; exact places_lt (sub i List.mem_cons_self)
    obtain ⟨x, hx⟩ : ∃ x, xs[i]? = some x := ⟨_, List.getElem?_eq_getElem lt⟩
    obtain ⟨n1, n2⟩ := ks.at hx
    rw [ent_at he, hx]
    dsimp only [Option.map_some, ent]
    have go : x.1 ≠ k → (∀ j y, xs[j]? = some y → y.1 = k → j ∈ left) := fun ne j y hy e => by
      rcases List.mem_cons.mp (cov j y hy e) with z | z
      · subst z
        rw [hx] at hy
        cases hy
        exact absurd e ne
      · exact z
    by_cases hh : (x.1.hash w == k.hash w) = true
    · rw [if_pos hh]
      refine wpAny_bind (wpAny_dictEpoch ho hd (wpAny_bind (eq_at hu n1 hk n2 (wpAny_bind (wpAny_dictEpoch ho hd ?_)))))
      show wpAny _ _ (if (ep != ep) = true then _ else _) _ E _
      rw [if_neg (by simp)]
      by_cases e : x.1 = k
      · rw [decide_eq_true e]
        simp only [if_true]
        exact wpAny_bind (wpAny_rule (wpAny_pure (wpAny_pure (hyes i x hx e))))
      · rw [decide_eq_false e]
        simp only [Bool.false_eq_true, if_false]
        exact wpAny_bind (wpAny_rule (wpAny_pure ⟨rfl, rfl, fun j m => sub j (List.mem_cons_of_mem _ m), go e⟩))
    · rw [if_neg hh]
      exact wpAny_pure ⟨rfl, rfl, fun j m => sub j (List.mem_cons_of_mem _ m), go fun z => hh (by rw [z]; simp)⟩
  · rintro r s' ⟨rfl, hr, sub, cov⟩
    obtain ⟨r, r'⟩ := r
    obtain rfl : r = none := hr
    exact wpAny_pure (hno fun i x hx e => nomatch cov i x hx e)
/-- whether a key is found, and where -/
theorem find (hu : A.units + 8 < cLine) (ho : s.heap.get? d = some o) (hd : o.data = .dict es ep) (he : es.toList = xs.map (ent w)) (ks : Keyd s.heap xs) (hk : NestedIs s.heap k u) (dk : k.depth ≤ 8) {Q : Option Nat → Shared → Prop}
    (hno : (∀ (i : Nat) (x : NK × Value × Value), xs[i]? = some x → x.1 ≠ k) → Q none s) (hyes : ∀ (i : Nat) (x : NK × Value × Value), xs[i]? = some x → x.1 = k → Q (some i) s) :
    wpAny (model prog w) A (dictFind d u (k.hash w)) Q E s := by
  have mem : ∀ {e : DictEntry}, e ∈ es → ∃ x ∈ xs, e = ent w x := fun {e} m => by
    have z : e ∈ xs.map (ent w) := he ▸ Array.mem_toList_iff.mpr m
    obtain ⟨x, hx, rfl⟩ := List.mem_map.mp z
    exact ⟨x, hx, rfl⟩
  have odd : ¬ (es.any fun e => e.key == u && e.hash != k.hash w) = true := by
    rw [← Array.any_toList, List.any_eq_true]
    rintro ⟨e, m, c⟩
    obtain ⟨x, hx, rfl⟩ := mem (Array.mem_toList_iff.mp m)
    simp only [ent, Bool.and_eq_true, beq_iff_eq, bne_iff_ne, ne_eq] at c
    obtain ⟨c1, c2⟩ := c
    have z := (ks.is x hx).1
    rw [c1] at z
    exact c2 (by rw [NestedIs.inj _ _ _ z hk])
  have st : ∀ v ∈ (placesWithHash es.size (fun i => es[i]?.map (·.hash)) (k.hash w)).filterMap (fun i => es[i]?.map (·.key)), ∃ k', NestedIs s.heap k' v ∧ k'.depth ≤ 8 := fun v m => by
    obtain ⟨i, _, z⟩ := List.mem_filterMap.mp m
    cases q : es[i]? with
    | none => rw [q] at z; cases z
    | some e =>
      rw [q] at z
      obtain rfl : e.key = v := by simpa using z
      obtain ⟨x, hx, rfl⟩ := mem (Array.mem_of_getElem? q)
      exact ⟨x.1, ks.is x hx⟩
  unfold dictFind
  try with_reducible refine wpAny_holding ?_
  refine wpAny_bind (wpAny_dictEntries ho hd ?_)
  extract_lets places stored hit jp3 jp2 jp1
  have H3 : wpAny (model prog w) A (jp3 false) Q E s := by
    unfold jp3
    dsimp only
    rw [if_neg (by simp)]
    refine wpAny_bind ?_
    refine wpAny_forIn_list _ (fun left r s' => s' = s ∧ r.1 = none ∧ (∀ i ∈ left, i ∈ places) ∧ left.Nodup ∧
      ((r.2 = none ∧ ∀ (i : Nat) (x : NK × Value × Value), xs[i]? = some x → x.1 = k → i ∈ left) ∨ ∃ (j : Nat) (y : NK × Value × Value), r.2 = some j ∧ xs[j]? = some y ∧ y.1 = k ∧ j ∉ left)) _ ?_ ?_ _ _
      ⟨rfl, rfl, fun _ m => m, (List.nodup_range).sublist List.filter_sublist, .inl ⟨rfl, fun i x hx e => place_of he hx e⟩⟩
    · rintro i left r s' ⟨rfl, hr, sub, nd, cov⟩
      obtain ⟨nd1, nd2⟩ := List.nodup_cons.mp nd
      have lt : i < xs.length := by rw [← ent_size he]; exact places_lt (sub i List.mem_cons_self)
      obtain ⟨x, hx⟩ : ∃ x, xs[i]? = some x := ⟨_, List.getElem?_eq_getElem lt⟩
      obtain ⟨n1, n2⟩ := ks.at hx
      obtain ⟨r1, r2⟩ := r
      obtain rfl : r1 = none := hr
      rw [ent_at he, hx]
      dsimp only [Option.map_some, ent]
      have sub2 : ∀ j ∈ left, j ∈ places := fun j m => sub j (List.mem_cons_of_mem _ m)
      have go : x.1 ≠ k → ((r2 = none ∧ ∀ (j : Nat) (y : NK × Value × Value), xs[j]? = some y → y.1 = k → j ∈ left) ∨ ∃ (j : Nat) (y : NK × Value × Value), r2 = some j ∧ xs[j]? = some y ∧ y.1 = k ∧ j ∉ left) := fun ne => by
        rcases cov with ⟨z, cov⟩ | ⟨j, y, z, hj, e, m⟩
        · refine .inl ⟨z, fun j y hy e => ?_⟩
          rcases List.mem_cons.mp (cov j y hy e) with q | q
          · subst q
            rw [hx] at hy
            cases hy
            exact absurd e ne
          · exact q
        · exact .inr ⟨j, y, z, hj, e, fun q => m (List.mem_cons_of_mem _ q)⟩
      by_cases hh : (x.1.hash w == k.hash w) = true
      · rw [if_pos hh]
        refine wpAny_bind (wpAny_dictEpoch ho hd (wpAny_bind (eq_at hu n1 hk n2 (wpAny_bind (wpAny_dictEpoch ho hd ?_)))))
        rw [if_neg (by simp)]
        by_cases e : x.1 = k
        · rw [decide_eq_true e, if_pos rfl]
          rcases cov with ⟨z, cov⟩ | ⟨j, y, z, hj, e2, m⟩
          · obtain rfl : r2 = none := z
            rw [if_neg (by simp)]
            refine wpAny_bind (wpAny_rule ?_)
            split
            · exact wpAny_pure (wpAny_pure (hyes i x hx e))
            · exact wpAny_pure ⟨rfl, rfl, sub2, nd2, .inr ⟨i, x, rfl, hx, e, nd1⟩⟩
          · exact absurd (ks.same hj hx (e2.trans e.symm)) (fun q => m (q ▸ List.mem_cons_self))
        · rw [decide_eq_false e]
          simp only [Bool.false_eq_true, if_false]
          refine wpAny_bind (wpAny_rule ?_)
          rw [if_neg (by simp)]
          exact wpAny_pure ⟨rfl, rfl, sub2, nd2, go e⟩
      · rw [if_neg hh]
        exact wpAny_pure ⟨rfl, rfl, sub2, nd2, go fun z => hh (by rw [z]; simp)⟩
    · rintro ⟨r1, r2⟩ s' ⟨rfl, hr, sub, nd, cov⟩
      obtain rfl : r1 = none := hr
      rcases cov with ⟨z, cov⟩ | ⟨j, y, z, hj, e, m⟩
      · obtain rfl : r2 = none := z
        exact wpAny_pure (hno fun i x hx e => nomatch cov i x hx e)
      · obtain rfl : r2 = some j := z
        exact wpAny_pure (hyes j y hj e)
  have H2 : wpAny (model prog w) A (jp2 ()) Q E s := by
    unfold jp2
    split
    · exact wpAny_bind (wpAny_pure H3)
    · exact wpAny_bind (may_tell hk dk st H3)
  have H1 : wpAny (model prog w) A (jp1 ()) Q E s := by
    unfold jp1
    split
    · exact walk_plain hu ho hd he ks hk hno hyes
    · split
      · first
          | (rw [if_neg odd]; exact H2)
          | (split
             · rename_i q; exact absurd q odd
             · exact H2)
          | exact H2
      · exact H2
  split
  · rename_i y t
    cases hk
    split
    · rename_i all
      rw [← Array.all_toList, List.all_eq_true] at all
      have txt : ∀ (i : Nat) (x : NK × Value × Value), xs[i]? = some x → ∃ z t', x.1 = .text z ∧ x.2.1 = .str z t' := fun i x hx => by
        have m : ent w x ∈ es := by
          have z := ent_at he i
          rw [hx] at z
          exact Array.mem_of_getElem? z
        have z := all _ (Array.mem_toList_iff.mpr m)
        obtain ⟨n1, _⟩ := ks.at hx
        obtain ⟨a, b, c⟩ := x
        change isExactStrKey b = true at z
        change NestedIs _ a b at n1
        cases b with
        | str q t' => cases n1; exact ⟨q, t', rfl, rfl⟩
        | _ => cases z
      unfold foundByValue
      cases hf : es.findIdx? (·.key.isStr y) with
      | none =>
        refine wpAny_pure (hno fun i x hx e => ?_)
        obtain ⟨z, t', e1, e2⟩ := txt i x hx
        rw [e1] at e
        cases e
        have q := ent_at he i
        rw [hx] at q
        have q2 := Array.findIdx?_eq_none_iff.mp hf _ (Array.mem_of_getElem? q)
        rw [show (ent w x).key = Value.str y t' from e2] at q2
        simp [Value.isStr] at q2
      | some i =>
        dsimp only
        obtain ⟨lt, h1, _⟩ := Array.findIdx?_eq_some_iff_getElem.mp hf
        obtain ⟨x, hx⟩ : ∃ x, xs[i]? = some x := ⟨_, List.getElem?_eq_getElem (by rw [← ent_size he]; exact lt)⟩
        obtain ⟨z, t', e1, e2⟩ := txt i x hx
        have q := ent_at he i
        rw [Array.getElem?_eq_getElem lt, hx, Option.map_some] at q
        rw [Option.some.inj q] at h1
        rw [show (ent w x).key = Value.str z t' from e2] at h1
        have ez : z = y := by simpa [Value.isStr] using h1
        subst ez
        rw [Array.getElem?_eq_getElem lt, Option.some.inj q]
        dsimp only
        have n1 := (ks.at hx).1
        rw [e1] at n1
        refine wpAny_bind (wpAny_dictEpoch ho hd (wpAny_bind (eq_at hu n1 (.text z t) (by show 0 ≤ 8; decide) (wpAny_bind (wpAny_dictEpoch ho hd ?_)))))
        rw [if_neg (by simp), decide_eq_true rfl, if_pos rfl]
        exact wpAny_bind (wpAny_rule (wpAny_pure (hyes i x hx e1)))
    · exact H1
  · exact H1
end
end MD
end
/-! ### MD1 -/
section
set_option Elab.async false
set_option linter.all false
set_option maxRecDepth 100000
set_option maxHeartbeats 4000000
/-! d[k], d.get(k, x), d[k] = v of a dict of mixed keys. -/
namespace MD
open PySem
/-- such a dict stands at d -/
def At (w : World) (h : Heap) (d : Addr) (xs : List (NK × Value × Value)) : Prop := ∃ o es ep, h.get? d = some o ∧ o.ExactDict ∧ o.data = .dict es ep ∧ es.toList = xs.map (ent w) ∧ Keyd h xs
def look {α β : Type} (xs : List (NK × α × β)) (k : NK) : Option β := (xs.find? fun x => decide (x.1 = k)).map (·.2.2)
def put {α β : Type} (xs : List (NK × α × β)) (k : NK) (u : α) (v : β) : List (NK × α × β) := if (look xs k).isSome = true then xs.map (fun x => if x.1 = k then (x.1, x.2.1, v) else x) else xs ++ [(k, u, v)]
section
variable {α β : Type} {xs : List (NK × α × β)} {k : NK}
theorem look_none (h : ∀ (i : Nat) (x : NK × α × β), xs[i]? = some x → x.1 ≠ k) : look xs k = none := by
  unfold look
  rw [Option.map_eq_none_iff, List.find?_eq_none]
  intro x m e
  obtain ⟨i, hi⟩ := List.mem_iff_getElem?.mp m
  exact h i x hi (of_decide_eq_true e)
theorem look_some (nd : (xs.map (·.1)).Nodup) : ∀ {xs : List (NK × α × β)}, (xs.map (·.1)).Nodup → ∀ {i : Nat} {x : NK × α × β}, xs[i]? = some x → look xs x.1 = some x.2.2
  | [], _, _, _, e => by simp at e
  | y :: ys, n, i, x, e => by
    rw [List.map_cons, List.nodup_cons] at n
    unfold look
    rw [List.find?_cons]
    cases i with
    | zero =>
      rw [List.getElem?_cons_zero] at e
      cases e
      rw [decide_eq_true rfl]
      rfl
    | succ i =>
      rw [List.getElem?_cons_succ] at e
      have ne : y.1 ≠ x.1 := fun z => n.1 (z ▸ List.mem_map.mpr ⟨x, List.mem_of_getElem? e, rfl⟩)
      rw [decide_eq_false ne]
      exact look_some nd n.2 e
theorem look_isSome_mem : (look xs k).isSome = true → k ∈ xs.map (·.1) := fun h => by
  unfold look at h
  rw [Option.isSome_map] at h
  obtain ⟨x, hx⟩ := Option.isSome_iff_exists.mp h
  have := List.find?_some hx
  exact List.mem_map.mpr ⟨x, List.mem_of_find?_eq_some hx, of_decide_eq_true this⟩
theorem look_mem (h : k ∈ xs.map (·.1)) : (look xs k).isSome = true := by
  obtain ⟨x, hx, e⟩ := List.mem_map.mp h
  unfold look
  rw [Option.isSome_map, List.find?_isSome]
  exact ⟨x, hx, decide_eq_true e⟩
theorem put_keys (u : α) (v : β) : (put xs k u v).map (·.1) = if (look xs k).isSome = true then xs.map (·.1) else xs.map (·.1) ++ [k] := by
  unfold put
  split
  · rw [List.map_map]
    refine List.map_congr_left fun x _ => ?_
    show (if x.1 = k then (x.1, x.2.1, v) else x).1 = x.1
    split <;> rfl
  · rw [List.map_append]; rfl
theorem put_nodup (u : α) (v : β) (nd : (xs.map (·.1)).Nodup) : ((put xs k u v).map (·.1)).Nodup := by
  rw [put_keys]
  split
  · exact nd
  · rename_i h
    rw [List.nodup_append]
    refine ⟨nd, by simp, fun a ha b hb e => h ?_⟩
    rw [List.mem_singleton.mp hb] at e
    exact look_mem (e ▸ ha)
theorem modify_put (v : β) {γ : Type} (f : NK × α × β → γ) (g : γ → γ) (hg : ∀ x : NK × α × β, x.1 = k → g (f x) = f (x.1, x.2.1, v)) : ∀ {xs : List (NK × α × β)} {j : Nat} {x : NK × α × β}, (xs.map (·.1)).Nodup → xs[j]? = some x → x.1 = k →
    (xs.map f).modify j g = (xs.map (fun x => if x.1 = k then (x.1, x.2.1, v) else x)).map f
  | [], _, _, _, e, _ => by simp at e
  | y :: ys, j, x, n, e, ek => by
    rw [List.map_cons, List.nodup_cons] at n
    cases j with
    | zero =>
      rw [List.getElem?_cons_zero] at e
      cases e
      have same : ys.map (fun x => if x.1 = k then (x.1, x.2.1, v) else x) = ys := by
        conv => rhs; rw [← List.map_id ys]
        refine List.map_congr_left fun z hz => ?_
        have ne : z.1 ≠ k := fun q => n.1 (by rw [ek, ← q]; exact List.mem_map.mpr ⟨z, hz, rfl⟩)
        rw [if_neg ne]
        rfl
      rw [List.map_cons, List.map_cons, List.map_cons, same, if_pos ek]
      show g (f y) :: ys.map f = _
      rw [hg y ek]
    | succ j =>
      rw [List.getElem?_cons_succ] at e
      have ne : y.1 ≠ k := fun q => n.1 (by rw [q, ← ek]; exact List.mem_map.mpr ⟨x, List.mem_of_getElem? e, rfl⟩)
      rw [List.map_cons, List.map_cons, List.map_cons, if_neg ne]
      show f y :: (ys.map f).modify j g = _
      rw [modify_put v f g hg n.2 e ek]
end
section
variable {prog : Program} {w : World} {A : Around} {E : Value → Shared → Prop} {s : Shared} {d : Addr} {xs : List (NK × Value × Value)} {k : NK} {u : Value}
theorem At.typeIs (m : At w s.heap d xs) : s.TypeIs (.ref d) "dict" := let ⟨o, _, _, ho, hx, _⟩ := m; ⟨o, ho, hx.1⟩
theorem get_md (hu : A.units + 8 < cLine) (m : At w s.heap d xs) (hk : NestedIs s.heap k u) (dk : k.depth ≤ 8) {Q : Option Value → Shared → Prop} (q : Q (look xs k) { s with toks := s.toks + k.draws }) : wpAny (model prog w) A (dictGet d u) Q E s := by
  obtain ⟨o, es, ep, ho, hx, hd, he, ks⟩ := m
  unfold dictGet
  try with_reducible refine wpAny_holding ?_
  refine wpAny_bind (pyHash_key k u A s _ hk (by omega) (wpAny_bind (find (s := { s with toks := s.toks + k.draws }) hu ho hd he ks hk dk (fun hno => ?_) fun i x hi e => ?_)))
  · rw [look_none hno] at q
    exact wpAny_pure q
  · rw [← e, look_some ks.one ks.one hi] at q
    refine wpAny_bind (wpAny_dictEntries (s := { s with toks := s.toks + k.draws }) ho hd ?_)
    rw [ent_at he i, hi]
    rw [e] at q
    exact wpAny_pure q
theorem getItem_md (hu : A.units + 16 < cLine) (m : At w s.heap d xs) (hk : NestedIs s.heap k u) (dk : k.depth ≤ 8) {v : Value} (hv : look xs k = some v) {Q : Value → Shared → Prop} (q : Q v { s with toks := s.toks + k.draws }) : wpAny (model prog w) A (getItem (.ref d) u) Q E s := by
  have ty := m.typeIs
  unfold getItem
  try with_reducible refine wpAny_holding ?_
  refine wpAny_bind (wpAny_sequenceKey ty (by decide) ?_)
  refine wpAny_bind (wpAny_callSpecial?_slot (name := Str.ofString "__getitem__") ty slot_dict_getitem (wpAny_call_entry slot_dict_getitem ty entry_dict_getitem ?_ (args_dict_getitem _ _)))
  show wpAny _ _ (dictGet d u >>= _) _ _ s
  refine wpAny_bind (get_md (by show A.units + _ + 8 < _; omega) m hk dk ?_)
  rw [hv]
  exact wpAny_pure ⟨v, rfl, wpAny_pure q⟩
theorem getOr_md (hu : A.units + 16 < cLine) (hs : (d == sysModules) = false) (m : At w s.heap d xs) (hk : NestedIs s.heap k u) (dk : k.depth ≤ 8) {x : Value} {Q : Value → Shared → Prop} (q : Q ((look xs k).getD x) { s with toks := s.toks + k.draws }) :
    wpAny (model prog w) A (call (.builtin "dict.get") [.ref d, u, x]) Q E s := by
  refine call_meetsIn F.slot_dict_get m.typeIs F.entry_dict_get (F.args_dict_get_3 _ _ _) (S := fun A' R s' => A' = A ∧ s' = s ∧ R (.ok (.ret ((look xs k).getD x))) { s with toks := s.toks + k.draws }) (fun A' R s' hS => ?_) ⟨rfl, rfl, q⟩
  obtain ⟨rfl, rfl, hq⟩ := hS
  show wpAny _ _ (dictGet d u >>= _) _ _ _
  refine wpAny_bind (get_md (by show A'.units + _ + 8 < _; omega) m hk dk ?_)
  cases hf : look xs k with
  | some v =>
    rw [hf] at hq
    exact wpAny_pure hq
  | none =>
    rw [hf] at hq
    show wpAny _ _ (Builtin.Dict.missed d u >>= _) _ _ _
    exact wpAny_bind (wpAny_missed_other hs (wpAny_pure hq))
theorem Keyd.but {h h' : Heap} {o : Obj} {es : Array DictEntry} {ep : Nat} (ks : Keyd h xs) (ho : h.get? d = some o) (hd : o.data = .dict es ep) (sb : Heap.SameBut d h h') : Keyd h' xs := by
  refine ⟨fun x hx => ⟨NestedIs.at (fun b ob vs n hb hc => (sb.2 b fun e => ?_).trans hb) _ _ (ks.is x hx).1, (ks.is x hx).2⟩, ks.one⟩
  subst e
  rw [ho] at hb
  cases hb
  rw [hd] at hc
  cases hc
theorem is_but {h h' : Heap} {o : Obj} {es : Array DictEntry} {ep : Nat} {v : Value} (n : NestedIs h k v) (ho : h.get? d = some o) (hd : o.data = .dict es ep) (sb : Heap.SameBut d h h') : NestedIs h' k v := by
  refine NestedIs.at (fun b ob vs n hb hc => (sb.2 b fun e => ?_).trans hb) _ _ n
  subst e
  rw [ho] at hb
  cases hb
  rw [hd] at hc
  cases hc
theorem set_md {v : Value} (hu : A.units + 8 < cLine) (m : At w s.heap d xs) (hk : NestedIs s.heap k u) (dk : k.depth ≤ 8) (hz : xs.length ≤ sizeLine) {Q : Unit → Shared → Prop}
    (q : ∀ h', At w h' d (put xs k u v) → Heap.SameBut d s.heap h' → Q () { s with heap := h', toks := s.toks + k.draws }) : wpAny (model prog w) A (dictSet d u v) Q E s := by
  obtain ⟨o, es, ep, ho, hx, hd, he, ks⟩ := m
  unfold dictSet
  try with_reducible refine wpAny_holding ?_
  refine wpAny_bind (pyHash_key k u A s _ hk (by omega) ?_)
  unfold dictSetHashed
  try with_reducible refine wpAny_holding ?_
  refine wpAny_bind (find (s := { s with toks := s.toks + k.draws }) hu ho hd he ks hk dk (fun hno => ?_) fun i x hi e => ?_)
  · have nn : look xs k = none := look_none hno
    have hp : put xs k u v = xs ++ [(k, u, v)] := by unfold put; rw [nn]; simp
    refine wpAny_bind (wpAny_rule (wpAny_updateDictKeys (hz := by have e := ent_size he; omega) (s := { s with toks := s.toks + k.draws }) ho hd (q _ ⟨_, _, ep + 1, Heap.get?_update_self _ ho (Obj.isFreed_of_dict (Obj.data_mapDictKeys hd _)), hx.mapDictKeys _, Obj.data_mapDictKeys hd _, ?_, ?_⟩ (Heap.SameBut.update ..))))
    · rw [hp]
      simp [he, ent]
    · refine ⟨fun y hy => ?_, put_nodup u v ks.one⟩
      rw [hp] at hy
      rcases List.mem_append.mp hy with z | z
      · exact (ks.but ho hd (Heap.SameBut.update ..)).is y z
      · rw [List.mem_singleton.mp z]
        exact ⟨is_but hk ho hd (Heap.SameBut.update ..), dk⟩
  · have ss : (look xs k).isSome = true := look_mem (e ▸ List.mem_map.mpr ⟨x, List.mem_of_getElem? hi, rfl⟩)
    have hp : put xs k u v = xs.map (fun x => if x.1 = k then (x.1, x.2.1, v) else x) := by unfold put; rw [if_pos ss]
    refine wpAny_bind (wpAny_rule (wpAny_bind (wpAny_updateDict (s := { s with toks := s.toks + k.draws }) ho hd (wpAny_point (q _ ⟨_, _, ep, Heap.get?_update_self _ ho (Obj.isFreed_of_dict (Obj.data_mapDict hd _)), hx.mapDict _, Obj.data_mapDict hd _, ?_, ?_⟩ (Heap.SameBut.update ..))))))
    · rw [hp]
      have z := modify_put (k := k) v (ent w) (fun e : DictEntry => { e with val := v }) (fun x _ => rfl) ks.one hi e
      rw [← he] at z
      obtain ⟨l⟩ := es
      simpa using z
    · refine ⟨fun y hy => ?_, put_nodup u v ks.one⟩
      rw [hp] at hy
      obtain ⟨z, hz, rfl⟩ := List.mem_map.mp hy
      dsimp only
      split <;> exact (ks.but ho hd (Heap.SameBut.update ..)).is z hz
theorem setItem_md {v : Value} (hu : A.units + 16 < cLine) (m : At w s.heap d xs) (hk : NestedIs s.heap k u) (dk : k.depth ≤ 8) (hz : xs.length ≤ sizeLine) {Q : Unit → Shared → Prop}
    (q : ∀ h', At w h' d (put xs k u v) → Heap.SameBut d s.heap h' → Q () { s with heap := h', toks := s.toks + k.draws }) : wpAny (model prog w) A (setItem (.ref d) u v) Q E s := by
  have ty := m.typeIs
  unfold setItem
  try with_reducible refine wpAny_holding ?_
  refine wpAny_bind (wpAny_sequenceKey ty (by decide) ?_)
  refine wpAny_bind (wpAny_callSpecial?_slot (name := Str.ofString "__setitem__") ty slot_dict_setitem (wpAny_call_entry slot_dict_setitem ty entry_dict_setitem ?_ (args_dict_setitem _ _ _)))
  show wpAny _ _ (Builtin.Dict.notOrdered "__setitem__" ⟨[.ref d, u, v], []⟩ >>= _) _ _ s
  refine wpAny_bind (wpAny_notOrdered_dict ty ?_)
  show wpAny _ _ (dictSet d u v >>= _) _ _ s
  exact wpAny_bind (set_md (by show A.units + _ + 8 < _; omega) m hk dk hz fun h' m' sb => wpAny_pure ⟨.none, rfl, wpAny_pure (q h' m' sb)⟩)
end
end MD
end
/-! ### MD2 -/
section
set_option Elab.async false
set_option linter.all false
set_option maxRecDepth 100000
set_option maxHeartbeats 4000000
/-! Dicts of mixed keys on the abstract heap: {}, d[k], d.get(k, x), d[k] = v. -/
namespace MD
open PySem PySem.Spec PyProof.Rows L2
def atomK : V → Option NK
  | .non => some .none
  | .bl b => some (.num (if b = true then 1 else 0))
  | .int i => some (.num i)
  | .str x => some (.text x)
  | _ => none
mutual
/-- a value as a key -/
inductive KeyV (K : PySem.W.Frag) (H : Hp) : V → NK → Prop
  | atom {v : V} {k : NK} : atomK v = some k → KeyV K H v k
  | tup {b : Addr} {xs : List V} {ks : List NK} : SqT K H b xs → KeyVs K H xs ks → KeyV K H (.ref b) (.tup ks)
inductive KeyVs (K : PySem.W.Frag) (H : Hp) : List V → List NK → Prop
  | nil : KeyVs K H [] []
  | cons {v : V} {vs : List V} {k : NK} {ks : List NK} : KeyV K H v k → KeyVs K H vs ks → KeyVs K H (v :: vs) (k :: ks)
end
theorem sqt_same {K : PySem.W.Frag} {H H' : Hp} {a : Addr} {xs : List V} (e : ∀ b o, H b = some o → H' b = some o) (h : SqT K H a xs) : SqT K H' a xs := by
  rcases h with (h | ⟨o, h⟩) | h
  · exact .inl (.inl (e _ _ h))
  · exact .inl (.inr ⟨o, e _ _ h⟩)
  · exact .inr h
mutual
theorem KeyV.same {K : PySem.W.Frag} {H H' : Hp} (e : ∀ b o, H b = some o → H' b = some o) : ∀ (k : NK) (v : V), KeyV K H v k → KeyV K H' v k
  | .tup ks, _, h => by
    cases h with
    | atom q => exact .atom q
    | tup h1 h2 => exact .tup (sqt_same e h1) (KeyVs.same e ks _ h2)
  | .none, _, h => by cases h with | atom q => exact .atom q
  | .num _, _, h => by cases h with | atom q => exact .atom q
  | .text _, _, h => by cases h with | atom q => exact .atom q
theorem KeyVs.same {K : PySem.W.Frag} {H H' : Hp} (e : ∀ b o, H b = some o → H' b = some o) : ∀ (ks : List NK) (vs : List V), KeyVs K H vs ks → KeyVs K H' vs ks
  | [], _, h => by cases h; exact .nil
  | k :: ks, _, h => by cases h with | cons h1 h2 => exact .cons (KeyV.same e k _ h1) (KeyVs.same e ks _ h2)
end
section
variable {X : Cx} {pins : List (Addr × Obj)} {σ : L2.St} {H : Hp} {s : Shared}
theorem atom_is {h : Heap} {v : V} {u : Value} {k : NK} (e : atomK v = some k) (r : RelV v u) : NestedIs h k u := by
  cases v with
  | non => cases e; cases r; exact .none
  | bl b => cases e; cases r; exact .bool rfl
  | int i => cases e; obtain ⟨t, rfl⟩ := r; exact .int i t
  | str x => cases e; obtain ⟨t, rfl⟩ := r; exact .text x t
  | _ => cases e
mutual
theorem key_is (I : Inv X pins σ H s) : ∀ (k : NK) (v : V) (u : Value), KeyV X.K H v k → RelV v u → NestedIs s.heap k u
  | .tup ks, _, u, h, r => by
    cases h with
    | atom q => exact atom_is q r
    | tup h1 h2 =>
      cases r
      obtain ⟨its, rv, ⟨o, ho, hc, n, hd⟩, _⟩ := I.tuple h1
      exact .tup ho hc hd (by simpa using keys_is I ks _ _ h2 rv)
  | .none, _, _, h, r => by cases h with | atom q => exact atom_is q r
  | .num _, _, _, h, r => by cases h with | atom q => exact atom_is q r
  | .text _, _, _, h, r => by cases h with | atom q => exact atom_is q r
theorem keys_is (I : Inv X pins σ H s) : ∀ (ks : List NK) (vs : List V) (us : List Value), KeyVs X.K H vs ks → Vals vs us → NestedAll s.heap ks us
  | [], _, _, h, r => by cases h; cases r; exact .nil
  | k :: ks, _, _, h, r => by
    cases h with
    | cons h1 h2 =>
      cases r with
      | cons r1 r2 => exact .cons (key_is I k _ _ h1 r1) (keys_is I ks _ _ h2 r2)
end
end
abbrev Row := NK × V × V
def Prs : List Row → List (NK × Value × Value) → Prop := Paired fun p q => p.1 = q.1 ∧ RelV p.2.1 q.2.1 ∧ RelV p.2.2 q.2.2
def TabM (w : World) (h : Heap) (a : Addr) (kvs : List Row) : Prop := kvs.length ≤ sizeLine ∧ (a == sysModules) = false ∧ ∃ xs, Prs kvs xs ∧
  ∃ o es ep, h.get? a = some o ∧ o.ExactDict ∧ o.data = .dict es ep ∧ es.toList = xs.map (ent w) ∧ (xs.map (·.1)).Nodup
def dM (w : World) (a : Addr) (kvs : List Row) : HO := .ext fun h => TabM w h a kvs
/-- its keys, as they stand -/
def KeysV (K : PySem.W.Frag) (H : Hp) (kvs : List Row) : Prop := ∀ p ∈ kvs, KeyV K H p.2.1 p.1 ∧ p.1.depth ≤ 8
theorem KeysV.same {K : PySem.W.Frag} {H H' : Hp} {kvs : List Row} (e : ∀ b o, H b = some o → H' b = some o) (h : KeysV K H kvs) : KeysV K H' kvs := fun p m => ⟨KeyV.same e _ _ (h p m).1, (h p m).2⟩
theorem TabM.ok {P : Program} {w : World} {H : Hp} {h : Heap} {a : Addr} {kvs : List Row} (t : TabM w h a kvs) : ObjOk P w H h a (dM w a kvs) := by
  refine ⟨t, ?_, fun h1 h2 q k => ?_⟩
  · obtain ⟨_, _, _, _, o, _, _, e, _⟩ := t
    exact ⟨o, e⟩
  · obtain ⟨z, y, xs, r, o, es, ep, e, c⟩ := q
    exact ⟨z, y, xs, r, o, es, ep, k _ e, c⟩
theorem prs_len : ∀ {kvs : List Row} {xs : List (NK × Value × Value)}, Prs kvs xs → kvs.length = xs.length
  | _, _, .nil => rfl
  | _, _, .cons _ t => by rw [List.length_cons, List.length_cons, prs_len t]
theorem prs_look {k : NK} : ∀ {kvs : List Row} {xs : List (NK × Value × Value)}, Prs kvs xs → RelO (look kvs k) (look xs k)
  | _, _, .nil => True.intro
  | p :: _, q :: _, .cons r t => by
    have ih := prs_look (k := k) t
    obtain ⟨h1, _, h2⟩ := r
    unfold look at *
    rw [List.find?_cons, List.find?_cons]
    by_cases e : p.1 = k
    · rw [decide_eq_true e, decide_eq_true (h1.symm.trans e)]
      exact h2
    · rw [decide_eq_false e, decide_eq_false (fun z => e (h1.trans z))]
      exact ih
theorem prs_keys : ∀ {kvs : List Row} {xs : List (NK × Value × Value)}, Prs kvs xs → kvs.map (·.1) = xs.map (·.1)
  | _, _, .nil => rfl
  | _, _, .cons r t => by rw [List.map_cons, List.map_cons, r.1, prs_keys t]
theorem prs_get : ∀ {kvs : List Row} {xs : List (NK × Value × Value)} {i : Nat} {p : Row}, Prs kvs xs → kvs[i]? = some p → ∃ q, xs[i]? = some q ∧ p.1 = q.1 ∧ RelV p.2.1 q.2.1 ∧ RelV p.2.2 q.2.2
  | _, _, _, _, .nil, e => by simp at e
  | _, _, 0, _, .cons r _, e => by simp at e; subst e; exact ⟨_, rfl, r⟩
  | _, _, i + 1, p, .cons _ t, e => by
    obtain ⟨q, h1, h2⟩ := prs_get (i := i) (p := p) t (by simpa using e)
    exact ⟨q, by simpa using h1, h2⟩
theorem prs_snoc {p : Row} {q : NK × Value × Value} (r : p.1 = q.1 ∧ RelV p.2.1 q.2.1 ∧ RelV p.2.2 q.2.2) : ∀ {kvs : List Row} {xs : List (NK × Value × Value)}, Prs kvs xs → Prs (kvs ++ [p]) (xs ++ [q])
  | _, _, .nil => .cons r .nil
  | _, _, .cons r0 t => .cons r0 (prs_snoc r t)
theorem prs_over {k : NK} {v : V} {v' : Value} (rv : RelV v v') : ∀ {kvs : List Row} {xs : List (NK × Value × Value)}, Prs kvs xs → Prs (kvs.map (fun x => if x.1 = k then (x.1, x.2.1, v) else x)) (xs.map (fun x => if x.1 = k then (x.1, x.2.1, v') else x))
  | _, _, .nil => .nil
  | p :: _, q :: _, .cons r t => by
    rw [List.map_cons, List.map_cons]
    refine .cons ?_ (prs_over rv t)
    obtain ⟨h1, h2, h3⟩ := r
    by_cases e : p.1 = k
    · rw [if_pos e, if_pos (h1.symm.trans e)]
      exact ⟨h1, h2, rv⟩
    · rw [if_neg e, if_neg (fun z => e (h1.trans z))]
      exact ⟨h1, h2, h3⟩
theorem prs_put {k : NK} {u v : V} {u' v' : Value} {kvs : List Row} {xs : List (NK × Value × Value)} (r : Prs kvs xs) (ru : RelV u u') (rv : RelV v v') : Prs (put kvs k u v) (put xs k u' v') := by
  unfold put
  have z := (prs_look (k := k) r).isSome_eq
  by_cases c : (look xs k).isSome = true
  · rw [if_pos c, if_pos (by rw [z]; exact c)]
    exact prs_over rv r
  · rw [if_neg c, if_neg (by rw [z]; exact c)]
    exact prs_snoc ⟨rfl, ru, rv⟩ r
theorem put_len {α β : Type} {xs : List (NK × α × β)} {k : NK} {u : α} {v : β} : (put xs k u v).length ≤ xs.length + 1 := by
  unfold put
  split
  · rw [List.length_map]; exact Nat.le_succ _
  · rw [List.length_append]; exact Nat.le_refl _
section
variable {X : Cx} {pins : List (Addr × Obj)} {σ : L2.St} {H : Hp} {s : Shared} {a : Addr} {k : NK} {kvs : List Row} {u v : V} {u' v' : Value} {A : Around} {E : Value → Shared → Prop}
theorem tab_of (I : Inv X pins σ H s) (e : H a = some (dM X.w a kvs)) : TabM X.w s.heap a kvs := (show ObjOk X.prog X.w H s.heap a (dM X.w a kvs) from I.hok a _ e).1
theorem keysU (I : Inv X pins σ H s) : ∀ {kvs : List Row} {xs : List (NK × Value × Value)}, Prs kvs xs → KeysV X.K H kvs → ∀ x ∈ xs, NestedIs s.heap x.1 x.2.1 ∧ x.1.depth ≤ 8
  | _, _, .nil, _ => fun x hx => nomatch hx
  | p :: _, q :: _, .cons r t, ks => fun x hx => by
    rcases List.mem_cons.mp hx with e | hx
    · subst e
      obtain ⟨z1, z2⟩ := ks p List.mem_cons_self
      rw [← r.1]
      exact ⟨key_is I _ _ _ z1 r.2.1, z2⟩
    · exact keysU I t (fun y hy => ks y (List.mem_cons_of_mem _ hy)) x hx
theorem atM (I : Inv X pins σ H s) (e : H a = some (dM X.w a kvs)) (ks : KeysV X.K H kvs) : kvs.length ≤ sizeLine ∧ (a == sysModules) = false ∧ ∃ xs, Prs kvs xs ∧ At X.w s.heap a xs := by
  obtain ⟨z, y, xs, r, o, es, ep, h1, h2, h3, h4, h5⟩ := tab_of I e
  exact ⟨z, y, xs, r, o, es, ep, h1, h2, h3, h4, keysU I r ks, h5⟩
theorem nodup_of (I : Inv X pins σ H s) (e : H a = some (dM X.w a kvs)) : (kvs.map (·.1)).Nodup := by
  obtain ⟨z, y, xs, r, o, es, ep, h1, h2, h3, h4, h5⟩ := tab_of I e
  rw [prs_keys r]
  exact h5
theorem m_get {Q : Value → Shared → Prop} (hu : A.units + 64 < cLine) (I : Inv X pins σ H s) (e : H a = some (dM X.w a kvs)) (ks : KeysV X.K H kvs) (n : KeyV X.K H u k) (dk : k.depth ≤ 8) (ru : RelV u u') (g : look kvs k = some v) (h : ∀ w' s', Inv X pins σ H s' → RelV v w' → Q w' s') :
    wpAny (model X.prog X.w) A (getItem (.ref a) u') Q E s := by
  obtain ⟨_, _, xs, r, m⟩ := atM I e ks
  obtain ⟨w', hw, rw'⟩ := RelO.some_of (v := v) (o := look xs k) (by rw [← g]; exact prs_look r)
  exact getItem_md (by omega) m (key_is I _ _ _ n ru) dk hw (h w' _ (I.tok _) rw')
theorem m_getOr {d : V} {d' : Value} {Q : Value → Shared → Prop} (hu : A.units + 64 < cLine) (I : Inv X pins σ H s) (e : H a = some (dM X.w a kvs)) (ks : KeysV X.K H kvs) (n : KeyV X.K H u k) (dk : k.depth ≤ 8) (ru : RelV u u') (rd : RelV d d') (h : ∀ w' s', Inv X pins σ H s' → RelV ((look kvs k).getD d) w' → Q w' s') :
    wpAny (model X.prog X.w) A (call (.builtin "dict.get") [.ref a, u', d']) Q E s := by
  obtain ⟨_, hs, xs, r, m⟩ := atM I e ks
  refine getOr_md (by omega) hs m (key_is I _ _ _ n ru) dk (h _ _ (I.tok _) ?_)
  have q := prs_look (k := k) r
  cases e1 : look kvs k with
  | none =>
    rw [e1] at q
    rw [RelO.none_of q]
    exact rd
  | some y =>
    rw [e1] at q
    obtain ⟨w', hw, rw'⟩ := RelO.some_of q
    rw [hw]
    exact rw'
theorem m_set {Q : Unit → Shared → Prop} (hu : A.units + 64 < cLine) (I : Inv X pins σ H s) (e : H a = some (dM X.w a kvs)) (ks : KeysV X.K H kvs) (n : KeyV X.K H u k) (dk : k.depth ≤ 8) (ru : RelV u u') (rv : RelV v v') (l : kvs.length < sizeLine)
    (h : ∀ s', Inv X pins σ (upd H a (dM X.w a (put kvs k u v))) s' → Q () s') : wpAny (model X.prog X.w) A (setItem (.ref a) u' v') Q E s := by
  obtain ⟨z, hs, xs, r, m⟩ := atM I e ks
  refine setItem_md (by omega) m (key_is I _ _ _ n ru) dk (by rw [← prs_len r]; exact z) fun h' ⟨o, es, ep, h1, h2, h3, h4, h5⟩ sb => h _ ?_
  exact d_write I (by rw [e]; exact True.intro) sb ⟨o, h1⟩ (TabM.ok ⟨Nat.le_trans put_len l, hs, _, prs_put r ru rv, o, es, ep, h1, h2, h3, h4, h5.one⟩)
end
def tMGet (K : PySem.W.Frag) (w : World) (td ty : TE) : TE := fun σ H Q => td σ H fun x H1 => ty σ H1 fun y H2 => ∃ a k kvs v, x = .ref a ∧ H2 a = some (dM w a kvs) ∧ KeysV K H2 kvs ∧ KeyV K H2 y k ∧ k.depth ≤ 8 ∧ look kvs k = some v ∧ Q v H2
def tMGet2 (K : PySem.W.Frag) (w : World) (td ty tx : TE) : TE := fun σ H Q => td σ H fun x H1 => ∃ a, x = .ref a ∧ (∃ kv0, H1 a = some (dM w a kv0)) ∧ ty σ H1 fun y H2 => tx σ H2 fun z H3 => ∃ k kvs, H3 a = some (dM w a kvs) ∧ KeysV K H3 kvs ∧ KeyV K H3 y k ∧ k.depth ≤ 8 ∧ Q ((look kvs k).getD z) H3
def sMPut (K : PySem.W.Frag) (w : World) (td ty tv : TE) : TS := fun D σ H => tv σ H fun v H1 => td σ H1 fun x H2 => ty σ H2 fun y H3 => ∃ a k kvs, x = .ref a ∧ H3 a = some (dM w a kvs) ∧ KeysV K H3 kvs ∧ KeyV K H3 y k ∧ k.depth ≤ 8 ∧ kvs.length < sizeLine ∧ D.nx σ (upd H3 a (dM w a (put kvs k y v)))
def tMNew (w : World) : TE := fun _ H Q => ∀ p, H p = none → Q (.ref p) (upd H p (dM w p []))
section
variable {X : Cx} {o i e f value : Expr} {pos pos' apos cpos : Pos} {td ty tv tx : TE}
theorem pe_mnew : PE X (.Dict [] [] pos) (tMNew X.w) := ⟨fun pins s σ H Q I h =>
  wpAny_Dict_empty ⟨.ref s.heap.objs.size, _, I.laid (a := s.heap.objs.size) (o := dM X.w s.heap.objs.size []) (t' := s.toks) (fun _ _ q => Heap.get?_push_of_some _ q) (Nat.le_refl _)
    (TabM.ok ⟨Nat.zero_le _, beq_eq_false_iff_ne.mpr (Ne.symm (Nat.ne_of_lt I.big)), [], .nil, _, #[], 0, Heap.get?_push_size _ rfl, ⟨rfl, rfl, rfl⟩, rfl, rfl, List.nodup_nil⟩), rfl, h _ (I.hok.fresh (Nat.le_refl _))⟩⟩
theorem pe_mget (hu : X.A.units + 64 < cLine) (ho : PE X o td) (hi : PE X i ty) (hs : NoSl i) : PE X (.Subscript o i pos) (tMGet X.K X.w td ty) := by
  refine ⟨fun pins s σ H Q I h => ?_⟩
  refine subD_of PySem.F.slot_dict_getitem.lookup hs (thn (ho.run pins s σ H _ I h) fun u s1 ⟨x, H1, I1, rx, q1⟩ => thn (hi.run pins s1 σ H1 _ I1 q1) fun iv s2 ⟨y, H2, I2, ry, a, k, kvs, v, ex, ed, ks, n, dk, g, q2⟩ => ?_)
  subst ex
  obtain rfl : u = Value.ref a := rx
  obtain ⟨_, _, xs, _, m⟩ := atM I2 ed ks
  exact ⟨m.typeIs, m_get hu I2 ed ks n dk ry g fun w' s3 I3 rw' => ⟨v, H2, I3, rw', q2⟩⟩
theorem pe_mget2 (hu : X.A.units + 64 < cLine) (ho : PE X o td) (he : PE X e ty) (hf : PE X f tx) (m : M2 X o "get" apos e f cpos) : PE X (.Call (.Attribute o "get" apos) [e, f] [] cpos) (tMGet2 X.K X.w td ty tx) := by
  refine ⟨fun pins s σ H Q I h => ?_⟩
  refine wpAny_Call_method m.base m.few m.line PySem.F.plainAttrs_dict PySem.F.slot_dict_get PySem.F.type_dict_get (thn (ho.run pins s σ H _ I h) fun u s1 ⟨x, H1, I1, rx, a, ex, ⟨kv0, d⟩, q1⟩ => ?_)
  subst ex
  obtain rfl : u = Value.ref a := rx
  obtain ⟨_, _, _, _, o', es, ep, ho', hx', _⟩ := tab_of I1 d
  refine ⟨⟨o', ho', hx'.1⟩, fun c e => by cases e; exact ⟨o', ho', hx'.2.1⟩, ?_⟩
  rw [m.trees]
  refine Calls.callWith_builtin rfl (Calls.evalArgs_plain (Calls.spliced_cons (thn (he.run pins s1 σ H1 _ I1 q1) fun iv s2 ⟨y, H2, I2, ry, q2⟩ =>
    Calls.spliced_cons (thn (hf.run pins s2 σ H2 _ I2 q2) fun fv s3 ⟨z, H3, I3, rz, k, kvs, ed, ks, n, dk, q3⟩ => Calls.spliced_nil ?_))))
  exact m_getOr hu I3 ed ks n dk ry rz fun w' s4 I4 rw' => ⟨_, H3, I4, rw', q3⟩
theorem ps_mput (hu : X.A.units + 64 < cLine) (ho : PE X o td) (hi : PE X i ty) (hv : PE X value tv) (hs : swapsWith value (some (.Subscript o i pos')) pos.line X.env = pure false) :
    PS X (.Assign [.Subscript o i pos'] value pos) (sMPut X.K X.w td ty tv) := by
  refine ⟨fun pins s σ H D I h => ?_⟩
  refine wpAny_Assign_Subscript (thn (hv.run pins s σ H _ I h) fun r s1 ⟨v, H1, I1, rv, q1⟩ => thn (ho.run pins s1 σ H1 _ I1 q1) fun u s2 ⟨x, H2, I2, rx, q2⟩ => thn (hi.run pins s2 σ H2 _ I2 q2) fun iv s3 ⟨y, H3, I3, ry, a, k, kvs, ex, ed, ks, n, dk, l, q3⟩ => ?_) hs
  subst ex
  obtain rfl : u = Value.ref a := rx
  exact m_set hu (I3) ed ks n dk ry (rv) l fun s4 I4 => ⟨σ, _, I4, q3⟩
end
end MD
end
/-! ### MD3 -/
section
set_option Elab.async false
set_option linter.all false
set_option maxRecDepth 100000
set_option maxHeartbeats 4000000
/-! Such dicts walked (locked): items, keys. -/
namespace MD
open PySem PySem.Spec PyProof.Rows L2
section
variable {X : Cx} {pins : List (Addr × Obj)} {σ : L2.St} {H : Hp} {s : Shared} {d : Addr} {o : Obj} {kvs : List Row}
theorem frzM (I : Inv X pins σ H s) (h : H d = some (.frz o (dM X.w d kvs))) :
    (d == sysModules) = false ∧ s.heap.get? d = some o ∧ o.ExactDict ∧ ∃ (es : Array DictEntry) (ep : Nat) (xs : List (NK × Value × Value)), o.data = .dict es ep ∧ es.size = kvs.length ∧ Prs kvs xs ∧ es.toList = xs.map (ent X.w) ∧ s.heap.DictRaw d es ep := by
  obtain ⟨hd, hok⟩ := I.hok d _ h
  obtain ⟨z, hs, xs, rel, o', es, ep, ho, hx, hdt, he, hn⟩ := (show ObjOk X.prog X.w H s.heap d (dM X.w d kvs) from hok).1
  rw [hd] at ho
  cases ho
  exact ⟨hs, hd, hx, es, ep, xs, hdt, by rw [ent_size he, prs_len rel], rel, he, o, hd, hx, hdt⟩
end
def Itmi (w : World) (d : Addr) (o : Obj) (kvs : List Row) : It :=
  ⟨fun i H => H d = some (.frz o (dM w d kvs)) ∧ i < kvs.length, fun i H x H' => ∃ T p, kvs[i]? = some p ∧ x = .ref T ∧ H T = none ∧ H' = upd H T (.tup [p.2.1, p.2.2]), fun i H => H d = some (.frz o (dM w d kvs)) ∧ kvs.length ≤ i⟩
def Itmk (w : World) (d : Addr) (o : Obj) (kvs : List Row) : It :=
  ⟨fun i H => H d = some (.frz o (dM w d kvs)) ∧ i < kvs.length, fun i H x H' => H' = H ∧ ∃ p, kvs[i]? = some p ∧ x = p.2.1, fun i H => H d = some (.frz o (dM w d kvs)) ∧ kvs.length ≤ i⟩
section
variable {P : Program} {w : World} {K : PySem.W.Frag} {d : Addr} {o : Obj} {es : Array DictEntry} {ep : Nat} {kvs : List Row}
theorem turn_mitems {elts : List Expr} {kk : Nat} {tpos : Pos} (it : Addr) (hod : o.data = .dict es ep) :
    Turn P w K (.Tuple elts kk tpos) (Itmi w d o kvs) [it] it (fun i h => ∃ ok ov, IsItemIter h it d i kvs.length ep ok ov) where
  mem := by simp
  obj := fun i h st b hb => by
    have e : b = it := by simpa using hb
    subst e
    obtain ⟨ok, ov, e⟩ := st
    exact ⟨_, e, fun v z => nomatch z⟩
  keep := fun i h h' st k => let ⟨ok, ov, e⟩ := st; ⟨ok, ov, k it (by simp) _ e⟩
  item := by
    intro X hP hw hK hc i pins s σ H E I hf st hg
    subst hP hw hK
    obtain ⟨hd, hi⟩ := hg
    obtain ⟨hs, hgd, hx, es', ep', xs, hdt, hsz, rel, hes, hm⟩ := frzM I hd
    obtain ⟨rfl, rfl⟩ := dict_ep hod hdt
    obtain ⟨p, hp⟩ : ∃ p, kvs[i]? = some p := ⟨kvs[i], List.getElem?_eq_getElem hi⟩
    obtain ⟨q, hq, q1, q2, q3⟩ := prs_get rel hp
    obtain ⟨ok, ov, he⟩ := st
    have hlt : it < s.heap.objs.size := Heap.lt_size he
    rw [← hsz] at he hi
    have ee : es'[i] = ent X.w q := by
      have z := ent_at hes i
      rw [Array.getElem?_eq_getElem hi, hq, Option.map_some] at z
      exact Option.some.inj z
    refine wpAny_pyNext_items_item_raw he hm hi fun h' ho hT hz hk => ?_
    refine ⟨_, rfl, wpAny_letOwnedTupleGo_items (s := { s with heap := h' }) ho fun h'' he' sb => ?_⟩
    rw [ee] at hT he'
    have hT2 : h''.get? s.heap.objs.size = some { cls := .type "tuple", data := .seq #[q.2.1, q.2.2] } := (sb.2 _ (Nat.ne_of_gt hlt)).trans hT
    have new : ObjOk X.prog X.w (upd H s.heap.objs.size (.tup [p.2.1, p.2.2])) h'' s.heap.objs.size (.tup [p.2.1, p.2.2]) :=
      ⟨by show 2 ≤ sizeLine; decide, [q.2.1, q.2.2], .cons q2 (.cons q3 .nil), ⟨_, hT2, rfl, _, rfl⟩⟩
    have I1 : Inv X pins σ (upd H s.heap.objs.size (.tup [p.2.1, p.2.2])) { s with heap := h'' } :=
      I.turnedNew (t' := s.toks) (ch := [it]) (fun b ob hb e => (sb.2 b (by simpa using hb)).trans (hk b ob (by simpa using hb) e)) hf (Nat.le_refl _) new
    refine ⟨.ref s.heap.objs.size, _, I1, rfl, ⟨_, p, hp, rfl, I.hok.fresh (Nat.le_refl _), rfl⟩, ⟨_, _, by rw [hsz] at he'; exact he'⟩, fun b hb => ?_⟩
    have e : b = it := by simpa using hb
    rw [e, upd_ne (Nat.ne_of_lt hlt)]
    exact (hf it (by simp)).1
  done := by
    intro X hP hw hK hc i pins s σ H E I hf st hg
    subst hP hw hK
    obtain ⟨hd, hi⟩ := hg
    obtain ⟨f0, f1, f2, f3, f4, f5⟩ := hf it (by simp)
    obtain ⟨hs, hgd, hx, es', ep', xs, hdt, hsz, rel, hes, hm⟩ := frzM I hd
    obtain ⟨rfl, rfl⟩ := dict_ep hod hdt
    obtain ⟨ok, ov, he⟩ := st
    rw [← hsz] at he hi
    exact wpAny_pyNext_items_end_raw (I.ok.hd hc) he hm hi fun h' eb => ⟨rfl, I.turned (t' := s.toks) (fun b ob hb e => eb b ob hb e) f0 f1 f3 f4 f5⟩
  self := fun A i s Q E st h => let ⟨_, _, e⟩ := st; PySem.W.kcp_self e h
theorem turn_mkeys {x : Str} {pos : Pos} (it : Addr) (hod : o.data = .dict es ep) : Turn P w K (.Name x pos) (Itmk w d o kvs) [it] it (fun i h => h.IsKeyIter it d i kvs.length ep) where
  mem := by simp
  obj := fun i h st b hb => by
    have e : b = it := by simpa using hb
    subst e
    obtain ⟨oi, e, c, dd⟩ := st
    exact ⟨oi, e, fun v z => by rw [dd] at z; exact nomatch z⟩
  keep := fun i h h' st k => st.at fun oi e => k it (by simp) oi e
  item := by
    intro X hP hw hK hc i pins s σ H E I hf st hg
    subst hP hw hK
    obtain ⟨hd, hi⟩ := hg
    obtain ⟨f0, f1, f2, f3, f4, f5⟩ := hf it (by simp)
    obtain ⟨hs, hgd, hx, es', ep', xs, hdt, hsz, rel, hes, hm⟩ := frzM I hd
    obtain ⟨rfl, rfl⟩ := dict_ep hod hdt
    obtain ⟨p, hp⟩ : ∃ p, kvs[i]? = some p := ⟨kvs[i], List.getElem?_eq_getElem hi⟩
    obtain ⟨q, hq, q1, q2, q3⟩ := prs_get rel hp
    rw [← hsz] at st hi
    have ee : es'[i] = ent X.w q := by
      have z := ent_at hes i
      rw [Array.getElem?_eq_getElem hi, hq, Option.map_some] at z
      exact Option.some.inj z
    refine wpAny_pyNext_keys_item_raw st hm hi fun h' st' sb => ?_
    have I1 : Inv X pins σ H { s with heap := h' } := I.turned (t' := s.toks) (fun b ob hb e => (sb.2 b hb).trans e) f0 f1 f3 f4 f5
    obtain ⟨oi, e, c, dd⟩ := id st'
    rw [ee]
    refine ⟨q.2.1, rfl, go_of (s := { s with heap := h' }) e c dd (by decide) ⟨p.2.1, H, I1, q2, ⟨rfl, p, hp, rfl⟩, ?_, fun b hb => (hf b hb).1⟩⟩
    show h'.IsKeyIter it d (i + 1) kvs.length _
    rw [← hsz]
    exact st'
  done := by
    intro X hP hw hK hc i pins s σ H E I hf st hg
    subst hP hw hK
    obtain ⟨hd, hi⟩ := hg
    obtain ⟨f0, f1, f2, f3, f4, f5⟩ := hf it (by simp)
    obtain ⟨hs, hgd, hx, es', ep', xs, hdt, hsz, rel, hes, hm⟩ := frzM I hd
    obtain ⟨rfl, rfl⟩ := dict_ep hod hdt
    rw [← hsz] at st hi
    exact wpAny_pyNext_keys_end_raw (I.ok.hd hc) st hm hi fun h' eb => ⟨rfl, I.turned (t' := s.toks) (fun b ob hb e => eb b ob hb e) f0 f1 f3 f4 f5⟩
  self := fun A i s Q E st h => wpAny_pyIter_keyiter st h
end
def iMItems (w : World) (td : TE) : TI := fun σ H R => td σ H fun x H1 => ∃ d o kvs, x = .ref d ∧ H1 d = some (.frz o (dM w d kvs)) ∧ R (Itmi w d o kvs) H1
def iMKeys (w : World) (td : TE) : TI := fun σ H R => td σ H fun x H1 => ∃ d o kvs, x = .ref d ∧ H1 d = some (.frz o (dM w d kvs)) ∧ R (Itmk w d o kvs) H1
section
variable {X : Cx} {e : Expr} {td : TE} {apos cpos tpos pos : Pos} {elts : List Expr} {kk : Nat} {x : Str}
theorem pi_mitems (he : PE X e td) (hbase : attributeBase e "items" X.env (eval e X.env) = eval e X.env := by rfl) (hline : (apos.endLine == cpos.line) = true := by rfl) :
    PI X (.Tuple elts kk tpos) (.Call (.Attribute e "items" apos) [] [] cpos) (iMItems X.w td) := by
  refine ⟨fun pins s σ H R I h => ?_⟩
  refine wpAny_Call_method (T := "dict") (id := "dict.items") hbase rfl hline F.plainAttrs_dict F.slot_dict_items F.type_dict_items (thn (he.run pins s σ H _ I h) fun u s1 ⟨x, H1, I1, rx, d, o, kvs, ex, hd, q⟩ => ?_)
  subst ex
  obtain rfl : u = Value.ref d := rx
  obtain ⟨hs, hgd, hx, es, ep, xs, hdt, hsz, rel, hes, hm⟩ := frzM I1 hd
  refine ⟨hm.typeIs, fun c e => by cases e; exact ⟨o, hgd, hx.2.1⟩, ?_⟩
  have I2 : Inv X pins σ H1 { s1 with heap := s1.heap.push { cls := .type "dict_items", data := .fields #[.ref d] } } := I1.kept (t' := s1.toks) fun b ob q => Heap.get?_push_of_some _ q
  have fin : wpAny (model X.prog X.w) X.A (pyIter (.ref s1.heap.objs.size)) (PIE X pins σ (.Tuple elts kk tpos) R) X.xe { s1 with heap := s1.heap.push { cls := .type "dict_items", data := .fields #[.ref d] } } := by
    refine wpAny_pyIter_items_raw (d := d) ⟨_, Heap.get?_push_size _ rfl, rfl, rfl⟩ (hm.at fun o e => Heap.get?_push_of_some _ e) (pi_one (tk := s1.toks) I2 _ (turn_mitems _ hdt) ⟨.none, .none, ?_⟩ q)
    rw [← hsz]
    exact Heap.get?_push_size _ rfl
  show wpAny _ _ (callWith cpos (.builtin "dict.items") [.ref d] [] []) _ X.xe s1
  exact method_meetsIn F.slot_dict_items F.entry_dict_items rfl (PySem.evalArgs_none ⟨rfl, hm.typeIs, F.args_dict_items_1 _, _, meets_dict_items_raw d hs, ⟨⟨es, ep, hm⟩, fin⟩⟩)
theorem pi_mkeys (he : PE X e td) : PI X (.Name x pos) e (iMKeys X.w td) := by
  refine ⟨fun pins s σ H R I h => ?_⟩
  refine thn (he.run pins s σ H _ I h) fun u s1 ⟨x, H1, I1, rx, d, o, kvs, ex, hd, q⟩ => ?_
  subst ex
  obtain rfl : u = Value.ref d := rx
  obtain ⟨hs, hgd, hx, es, ep, xs, hdt, hsz, rel, hes, hm⟩ := frzM I1 hd
  refine wpAny_pyIter_dict_raw hs hm (pi_one (tk := s1.toks) I1 _ (turn_mkeys _ hdt) ⟨_, Heap.get?_push_size _ rfl, rfl, ?_⟩ q)
  rw [hsz]
  rfl
end
end MD
end
/-! ### MD4 -/
section
set_option Elab.async false
set_option linter.all false
set_option maxRecDepth 100000
set_option maxHeartbeats 4000000
/-! dict(pairs), dict(list(d.items())), list(d), isinstance of such dicts. -/
namespace MD
open PySem
section
variable {prog : Program} {w : World} {A : Around} {E : Value → Shared → Prop} {s : Shared} {d a : Addr} {xs : List (NK × Value × Value)}
theorem At.lt {h : Heap} (m : At w h d xs) : d < h.objs.size := let ⟨_, _, _, ho, _⟩ := m; Heap.lt_size ho
theorem Keyd.keep {h h' : Heap} (ks : Keyd h xs) (k : ∀ b o, h.get? b = some o → h'.get? b = some o) : Keyd h' xs :=
  ⟨fun x hx => ⟨NestedIs.at (fun b o _ _ e _ => k b o e) _ _ (ks.is x hx).1, (ks.is x hx).2⟩, ks.one⟩
theorem At.keep {h h' : Heap} (m : At w h d xs) (k : ∀ b o, h.get? b = some o → h'.get? b = some o) : At w h' d xs :=
  let ⟨o, es, ep, h1, h2, h3, h4, h5⟩ := m; ⟨o, es, ep, k _ _ h1, h2, h3, h4, h5.keep k⟩
theorem Keyd.take {h : Heap} (ks : Keyd h xs) (i : Nat) : Keyd h (xs.take i) :=
  ⟨fun x hx => ks.is x (List.mem_of_mem_take hx), by rw [List.map_take]; exact ks.one.sublist (List.take_sublist _ _)⟩
theorem put_new {α β : Type} {xs : List (NK × α × β)} {i : Nat} {x : NK × α × β} (nd : (xs.map (·.1)).Nodup) (hi : xs[i]? = some x) : put (xs.take i) x.1 x.2.1 x.2.2 = xs.take (i + 1) := by
  have nn : look (xs.take i) x.1 = none := look_none fun j y hj e => by
    have lt : j < i := by
      have := (List.getElem?_eq_some_iff.mp hj).1
      rw [List.length_take] at this
      omega
    have hj2 : xs[j]? = some y := by rw [← hj, List.getElem?_take_of_lt lt]
    have h1 : (xs.map (·.1))[j]? = some x.1 := by rw [List.getElem?_map, hj2, ← e]; rfl
    have h2 : (xs.map (·.1))[i]? = some x.1 := by rw [List.getElem?_map, hi]; rfl
    have := (List.getElem?_inj (List.getElem?_eq_some_iff.mp h1).1 nd).mp (h1.trans h2.symm)
    omega
  unfold put
  rw [nn, if_neg (by simp), List.take_add_one, hi]
  rfl
/-- dict(a list of pairs), no two keys alike -/
theorem call_dict_rows {items : Array Value} {Ts : Nat → Addr} (hh : A.handled = none) (hu : A.units + 32 < cLine) (ok : PlainSeq "list" s.heap a items ∧ PairItems s.heap items Ts (xs.map fun x => (x.2.1, x.2.2))) (ks : Keyd s.heap xs) (hz : xs.length ≤ sizeLine) {Q : Value → Shared → Prop}
    (q : ∀ h' tk, At w h' s.heap.objs.size xs → (∀ b o, s.heap.get? b = some o → h'.get? b = some o) → Q (.ref s.heap.objs.size) { s with heap := h', toks := tk }) : wpAny (model prog w) A (call (.type "dict") [.ref a]) Q E s := by
  have P := PairArg.list (prog := prog) (w := w) a items Ts (xs.map fun x => (x.2.1, x.2.2))
  refine call_dict_arg P ok fun s₁ e₁ far ok₁ => ?_
  have up : ∀ b o, s.heap.get? b = some o → s₁.heap.get? b = some o := fun b o e => by rw [e₁]; exact Heap.get?_push_of_some _ e
  have new : At w s₁.heap s.heap.objs.size [] := by
    rw [e₁]
    exact ⟨_, #[], 0, Heap.get?_push_size _ rfl, ⟨rfl, rfl, rfl⟩, rfl, rfl, fun _ hx => by simp at hx, List.nodup_nil⟩
  refine updateFrom_arg (A := A.in1) (Tab := fun i h => At w h s.heap.objs.size (xs.take i) ∧ ∀ b o, s.heap.get? b = some o → h.get? b = some o) P .none hh ok₁ far ⟨new, up⟩ (fun _ _ tb => tb.1.lt) ?_ ?_ ?_
  · intro i h h' wr' hd hw tb hk
    have k2 : ∀ b o, s.heap.get? b = some o → h'.get? b = some o := fun b o e => hk b o (fun m => by
      rcases hw b m with z | z
      · cases z
      · rw [up b o e] at z; cases z) (tb.2 b o e)
    obtain ⟨o, es, ep, h1, h2, h3, h4, h5⟩ := tb.1
    exact ⟨⟨o, es, ep, hk _ _ hd h1, h2, h3, h4, (ks.keep k2).take i⟩, k2⟩
  · intro i key v s' Q' E' hi hrel tb _ hQ
    have hrel : (xs.map fun x => (x.2.1, x.2.2))[i]? = some (key, v) := hrel
    rw [List.getElem?_map] at hrel
    obtain ⟨x, hx, ex⟩ := Option.map_eq_some_iff.mp hrel
    cases ex
    have kk := (ks.keep tb.2).at hx
    refine set_md (by show A.units + 1 + 1 + 8 < cLine; omega) tb.1 kk.1 kk.2 (by rw [List.length_take]; omega) fun h' m' sb => hQ h' _ ⟨?_, fun b o e => ?_⟩ sb
    · rw [put_new ks.one hx] at m'
      exact m'
    · exact sb.extBut b o (fun z => by rw [z] at e; exact absurd (Heap.lt_size e) (Nat.lt_irrefl _)) (tb.2 b o e)
  · intro h' tk tb hk
    have e : xs.take (xs.map fun x => (x.2.1, x.2.2)).length = xs := List.take_of_length_le (by rw [List.length_map]; exact Nat.le_refl _)
    rw [e] at tb
    refine ⟨rfl, ?_⟩
    have z := q h' tk tb.1 tb.2
    rw [e₁]
    exact z
end
end MD
end
/-! ### MD5 -/
section
set_option Elab.async false
set_option linter.all false
set_option maxRecDepth 100000
set_option maxHeartbeats 4000000
/-! The same in the layer: dict(list(d.items())), dict(list of pairs), list(d), tuple(d), isinstance. -/
namespace MD
open PySem PySem.Spec PyProof.Rows L2
/-- dict(list(d.items())): a copy -/
def tMCopy (K : PySem.W.Frag) (w : World) (te : TE) : TE := fun σ H Q => te σ H fun x H1 => ∃ a kvs, x = .ref a ∧ H1 a = some (dM w a kvs) ∧ KeysV K H1 kvs ∧ ∀ p, H1 p = none → Q (.ref p) (upd H1 p (dM w p kvs))
section
variable {X : Cx} {e : Expr} {te : TE} {apos cpos pos pos2 p p2 : Pos}
theorem pe_mcopy (hg : Gl X "dict") (hm : X.mg "dict" = none) (hg2 : Gl X "list") (hm2 : X.mg "list" = none) (he : PE X e te) (hc : X.calm = true) (hu : X.A.units + 64 < cLine)
    (hbase : attributeBase e "items" X.env (eval e X.env) = eval e X.env := by rfl) (hline : (apos.endLine == cpos.line) = true := by rfl)
    (hs : starEach [.Call (.Name "list" p2) [.Call (.Attribute e "items" apos) [] [] cpos] [] pos2] X.env = [(false, eval (.Call (.Name "list" p2) [.Call (.Attribute e "items" apos) [] [] cpos] [] pos2) X.env)] := by rfl)
    (hs2 : starEach [.Call (.Attribute e "items" apos) [] [] cpos] X.env = [(false, eval (.Call (.Attribute e "items" apos) [] [] cpos) X.env)] := by rfl) :
    PE X (.Call (.Name "dict" p) [.Call (.Name "list" p2) [.Call (.Attribute e "items" apos) [] [] cpos] [] pos2] [] pos) (tMCopy X.K X.w te) := by
  refine ⟨fun pins s σ H Q I h => ?_⟩
  refine wpAny_Call_Name_kw (ld_blt (u := .type "dict") I hg hm (by decide +kernel) ?_)
  refine PyProof.Rows.callWith_type1 (rest := []) ?_ hs (by rfl)
  rw [hs]
  refine Calls.spliced_cons (wpAny_Call_Name_kw (ld_blt (u := .type "list") I hg2 hm2 (by decide +kernel) ?_))
  refine PyProof.Rows.callWith_type1 (rest := []) ?_ hs2 (by rfl)
  rw [hs2]
  refine Calls.spliced_cons ?_
  refine wpAny_Call_method (T := "dict") (id := "dict.items") hbase rfl hline F.plainAttrs_dict F.slot_dict_items F.type_dict_items (thn (he.run pins s σ H _ I h) fun u s1 ⟨x, H1, I1, rx, a, kvs, ex, ed, ks, q⟩ => ?_)
  subst ex
  obtain rfl : u = Value.ref a := rx
  obtain ⟨hz, hsy, xs, rel, mm⟩ := atM I1 ed ks
  obtain ⟨o, es, ep, h1, h2, h3, h4, h5⟩ := id mm
  have hraw : s1.heap.DictRaw a es ep := ⟨o, h1, h2, h3⟩
  have nes : es.size ≤ sizeLine := by rw [ent_size h4, ← prs_len rel]; exact hz
  have hd := I1.ok.hd hc
  refine ⟨mm.typeIs, fun c e => by cases e; exact ⟨o, h1, h2.2.1⟩, ?_⟩
  have fin : ∀ g : Heap, (∀ b o, s1.heap.get? b = some o → g.get? b = some o) → g.get? s1.heap.objs.size = some { cls := .type "dict_items", data := .fields #[.ref a] } → g.objs.size = s1.heap.objs.size + 1 →
      wpAny (model X.prog X.w) X.A (spliced []) (fun r s' => wpAny (model X.prog X.w) X.A (call (.type "list") (Value.ref s1.heap.objs.size :: r)) (fun v s' => wpAny (model X.prog X.w) X.A (spliced []) (fun r s' => wpAny (model X.prog X.w) X.A (call (.type "dict") (v :: r)) (EP X pins σ Q) X.xe s') X.xe s') X.xe s') X.xe { s1 with heap := g } := fun g up hv hsz => by
    refine Calls.spliced_nil ?_
    refine PySem.W.dil_call (d := a) (es := es) (ep := ep) hd ⟨_, hv, rfl, rfl⟩ (hraw.at fun o e => up _ _ e) nes fun h' tk acc c as up2 hS hl G hacc => ?_
    refine Calls.spliced_nil ?_
    have up3 : ∀ b o, s1.heap.get? b = some o → h'.get? b = some o := fun b o e => up2 b o (up b o e)
    have len : as.length = xs.length := by rw [hl, ent_size h4]
    have ks2 : Keyd h' xs := h5.keep up3
    refine call_dict_rows (s := { s1 with heap := h', toks := tk }) (xs := xs) (items := acc) (Ts := fun j => as.getD j 0) hd (by omega) ⟨⟨_, _, hS, rfl, rfl, rfl⟩, ?_, ?_⟩ ks2 (by rw [← prs_len rel]; exact hz) fun h'' tk2 m2 up4 => ?_
    · rw [List.length_map, ← Array.length_toList, hacc, List.length_map, len]
    · intro j k v hj
      rw [List.getElem?_map] at hj
      obtain ⟨x, hx, ex⟩ := Option.map_eq_some_iff.mp hj
      cases ex
      have lt : j < as.length := by rw [len]; exact (List.getElem?_eq_some_iff.mp hx).1
      have haj : as[j]? = some (as.getD j 0) := by
        rw [List.getD_eq_getElem?_getD, List.getElem?_eq_getElem lt]
        rfl
      refine ⟨?_, .inl ?_⟩
      · rw [← Array.getElem?_toList, hacc, List.getElem?_map, haj]
        rfl
      · obtain ⟨hj2, e⟩ := G.pairs j _ haj
        have z := ent_at h4 j
        rw [Array.getElem?_eq_getElem hj2, hx, Option.map_some] at z
        have z2 := Option.some.inj z
        rw [z2] at e
        exact ⟨_, e, rfl, _, rfl⟩
    · have up5 : ∀ b o, s1.heap.get? b = some o → h''.get? b = some o := fun b o e => up4 b o (up3 b o e)
      have big : s1.heap.objs.size ≤ h'.objs.size := by
        have := Heap.lt_size (up2 _ _ hv)
        exact Nat.le_of_lt this
      have nS : H1 h'.objs.size = none := I1.hok.fresh big
      obtain ⟨o2, es2, ep2, g1, g2, g3, g4, g5⟩ := m2
      have I2 : Inv X pins σ H1 { s1 with heap := h'', toks := tk2 } := I1.kept up5
      refine ⟨.ref h'.objs.size, _, I2.take (h' := h'') (t' := tk2) (fun b ob _ e => e) (I1.fpOk big nS) (TabM.ok ⟨hz, ?_, xs, rel, o2, es2, ep2, g1, g2, g3, g4, g5.one⟩), rfl, q _ nS⟩
      exact beq_eq_false_iff_ne.mpr fun z => by
        have := I1.big
        rw [← z] at this
        exact absurd (Nat.lt_of_lt_of_le this big) (Nat.lt_irrefl _)
  show wpAny _ _ (callWith cpos (.builtin "dict.items") [.ref a] [] []) _ X.xe s1
  exact method_meetsIn F.slot_dict_items F.entry_dict_items rfl (PySem.evalArgs_none ⟨rfl, mm.typeIs, F.args_dict_items_1 _, _, meets_dict_items_raw a hsy, ⟨⟨es, ep, hraw⟩, fin _ (fun b o e => Heap.get?_push_of_some _ e) (Heap.get?_push_size _ rfl) (Heap.size_push ..)⟩⟩)
end
end MD
end
/-! ### MD6 -/
section
set_option Elab.async false
set_option linter.all false
set_option maxRecDepth 100000
set_option maxHeartbeats 4000000
/-! dict(list of pairs), list(d), tuple(d), isinstance. -/
namespace MD
open PySem PySem.Spec PyProof.Rows L2
/-- dict(pairs), no two keys alike -/
def rMDict (K : PySem.W.Frag) (w : World) : List V → Hp → VK → Prop := fun vs H Q => ∃ (a : Addr) (Ts : List Addr) (rows : List Row), vs = [.ref a] ∧ SqL K H a (Ts.map V.ref) ∧ Paired (fun T (r : Row) => SqT K H T [r.2.1, r.2.2]) Ts rows ∧ KeysV K H rows ∧ (rows.map (·.1)).Nodup ∧
  ∀ p, H p = none → Q (.ref p) (upd H p (dM w p rows))
def rMList (w : World) : List V → Hp → VK → Prop := fun vs H Q => ∃ (a : Addr) (kvs : List Row), vs = [.ref a] ∧ H a = some (dM w a kvs) ∧ ∀ p, H p = none → Q (.ref p) (upd H p (.lst (kvs.map (·.2.1))))
theorem rows_of {X : Cx} {pins : List (Addr × Obj)} {σ : L2.St} {H : Hp} {s : Shared} (I : Inv X pins σ H s) : ∀ {Ts : List Addr} {rows : List Row}, Paired (fun T (r : Row) => SqT X.K H T [r.2.1, r.2.2]) Ts rows →
    ∃ xs : List (NK × Value × Value), Prs rows xs ∧ Paired (fun T (x : NK × Value × Value) => s.heap.IsTuple T #[x.2.1, x.2.2]) Ts xs
  | _, _, .nil => ⟨[], .nil, .nil⟩
  | _, _, .cons (b := r) h t => by
    obtain ⟨xs, h1, h2⟩ := rows_of I t
    obtain ⟨its, rv, tp, _⟩ := I.tuple h
    obtain ⟨u1, u2, e, r1, r2⟩ := vals2 rv
    subst e
    exact ⟨(r.1, u1, u2) :: xs, .cons ⟨rfl, r1, r2⟩ h1, .cons tp h2⟩
theorem paired_len {α β : Type} {R : α → β → Prop} : ∀ {xs : List α} {ys : List β}, Paired R xs ys → xs.length = ys.length
  | _, _, .nil => rfl
  | _, _, .cons _ t => by rw [List.length_cons, List.length_cons, paired_len t]
theorem paired_get {α β : Type} {R : α → β → Prop} : ∀ {xs : List α} {ys : List β} {i : Nat} {y : β}, Paired R xs ys → ys[i]? = some y → ∃ x, xs[i]? = some x ∧ R x y
  | _, _, _, _, .nil, e => by simp at e
  | _, _, 0, _, .cons r _, e => by simp at e; subst e; exact ⟨_, rfl, r⟩
  | _, _, i + 1, y, .cons _ t, e => by
    obtain ⟨q, h1, h2⟩ := paired_get (i := i) (y := y) t (by simpa using e)
    exact ⟨q, by simpa using h1, h2⟩
section
variable {X : Cx}
theorem not_sys {X : Cx} {pins : List (Addr × Obj)} {σ : L2.St} {H : Hp} {s : Shared} (I : Inv X pins σ H s) {a : Addr} (h : s.heap.objs.size ≤ a) : (a == sysModules) = false := beq_eq_false_iff_ne.mpr fun z => by
  have := I.big
  rw [← z] at this
  exact absurd (Nat.lt_of_lt_of_le this h) (Nat.lt_irrefl _)
theorem call_mdict (hc : X.calm = true) (hu : X.A.units + 64 < cLine) : CallR X (.type "dict") (rMDict X.K X.w) := by
  intro pins s σ H vs us Q I r h
  obtain ⟨a, Ts, rows, rfl, hl, hp, ks, nd, q⟩ := h
  obtain ⟨u, rfl, ru⟩ := vals1 r
  obtain rfl : u = Value.ref a := ru
  obtain ⟨its, rv, pl, hz⟩ := I.list hl
  have its2 : its = Ts.map Value.ref := by
    have all : ∀ {Ts : List Addr} {its : List Value}, Vals (Ts.map V.ref) its → its = Ts.map Value.ref := by
      intro Ts
      induction Ts with
      | nil => intro its r; rw [List.map_nil] at r; cases r; rfl
      | cons c cs ih =>
        intro its r
        rw [List.map_cons] at r
        cases r with
        | cons h t => rw [ih t, List.map_cons]; congr 1
    exact all rv
  obtain ⟨xs, rel, tps⟩ := rows_of I hp
  obtain ⟨o, n, ho, hcl, hdi, hda⟩ := pl
  have len : Ts.length = xs.length := paired_len tps
  have lz : xs.length ≤ sizeLine := by rw [List.length_map] at hz; rw [← len]; exact hz
  refine call_dict_rows (xs := xs) (items := its.toArray) (Ts := fun j => Ts.getD j 0) (I.ok.hd hc) (by omega) ⟨⟨o, n, ho, hcl, hdi, hda⟩, ?_, ?_⟩ ⟨keysU I rel ks, by rw [← prs_keys rel]; exact nd⟩ lz fun h' tk m up => ?_
  · rw [List.size_toArray, its2, List.length_map, List.length_map, len]
  · intro j k v hj
    rw [List.getElem?_map] at hj
    obtain ⟨x, hx, ex⟩ := Option.map_eq_some_iff.mp hj
    cases ex
    obtain ⟨T, hT, ht⟩ := paired_get tps hx
    have e : Ts.getD j 0 = T := by rw [List.getD_eq_getElem?_getD, hT]; rfl
    dsimp only
    rw [e]
    refine ⟨?_, .inl ht⟩
    rw [List.getElem?_toArray, its2, List.getElem?_map, hT]
    rfl
  · obtain ⟨o2, es2, ep2, g1, g2, g3, g4, g5⟩ := m
    have nS : H s.heap.objs.size = none := I.hok.fresh (Nat.le_refl _)
    have I2 : Inv X pins σ H { s with heap := h', toks := tk } := I.kept up
    exact ⟨.ref s.heap.objs.size, _, I2.take (h' := h') (t' := tk) (fun b ob _ e => e) (I.fpOk (Nat.le_refl _) nS) (TabM.ok ⟨by rw [prs_len rel]; exact lz, not_sys I (Nat.le_refl _), xs, rel, o2, es2, ep2, g1, g2, g3, g4, g5.one⟩), rfl, q _ nS⟩
theorem call_mlist (hc : X.calm = true) : CallR X (.type "list") (rMList X.w) := by
  intro pins s σ H vs us Q I r h
  obtain ⟨a, kvs, rfl, ed, q⟩ := h
  obtain ⟨u, rfl, ru⟩ := vals1 r
  obtain rfl : u = Value.ref a := ru
  obtain ⟨hz, hsy, xs, rel, o, es, ep, h1, h2, h3, h4, h5⟩ := tab_of I ed
  have lz : es.size = kvs.length := by rw [ent_size h4, prs_len rel]
  refine PySem.W.kdl_call (KdlSrc.rawDict (prog := X.prog) (w := X.w) (es := es) (ep := ep) hsy) (I.ok.hd hc) ⟨o, h1, h2, h3⟩ (by rw [lz]; exact hz) fun h' tk acc c up hS hacc => ?_
  have nS : H s.heap.objs.size = none := I.hok.fresh (Nat.le_refl _)
  have I2 : Inv X pins σ H { s with heap := h', toks := tk } := I.kept up
  have vals : ∀ {kvs : List Row} {xs : List (NK × Value × Value)}, Prs kvs xs → Vals (kvs.map (·.2.1)) (xs.map (·.2.1)) := by
    intro kvs xs r
    induction r with
    | nil => exact .nil
    | cons r _ ih => exact .cons r.2.1 ih
  have eacc : acc.toList = xs.map (·.2.1) := by
    refine List.ext_getElem? fun j => ?_
    rw [Array.getElem?_toList, List.getElem?_map]
    cases hj : xs[j]? with
    | none =>
      have z := List.getElem?_eq_none_iff.mp hj
      have := hacc.1
      rw [Option.map_none, Array.getElem?_eq_none (by rw [this, ent_size h4]; exact z)]
    | some x =>
      have lt : j < acc.size := by rw [hacc.1, ent_size h4]; exact (List.getElem?_eq_some_iff.mp hj).1
      obtain ⟨hi, e⟩ := hacc.2 j _ (Array.getElem?_eq_getElem lt)
      have z := ent_at h4 j
      rw [Array.getElem?_eq_getElem hi, hj, Option.map_some] at z
      rw [Array.getElem?_eq_getElem lt, e, Option.some.inj z]
      rfl
  exact ⟨.ref s.heap.objs.size, _, I2.take (o := .lst (kvs.map (·.2.1))) (h' := h') (t' := tk) (fun b ob _ e => e) (I.fpOk (Nat.le_refl _) nS) ⟨by rw [List.length_map]; exact hz, acc.toList, c, by rw [eacc]; exact vals rel, hS⟩, rfl, q _ nS⟩
end
/-- isinstance(x, T): x such a dict, locked or not, or a value of another kind -/
def rIsiM (K : PySem.W.Frag) (w : World) : List V → Hp → VK → Prop := fun vs H Q => rIsi K vs H Q ∨ ∃ (a : Addr) (kvs : List Row) (n : String) (b : Bool), vs = [.ref a, .ty n] ∧ (H a = some (dM w a kvs) ∨ ∃ o, H a = some (.frz o (dM w a kvs))) ∧ PySem.W.kitOne K (.type "dict") (.type n) = some b ∧ Q (.bl b) H
theorem call_isiM {X : Cx} : CallR X (.builtin "isinstance") (rIsiM X.K X.w) := by
  intro pins s σ H vs us Q I r h
  rcases h with h | ⟨a, kvs, n, b, rfl, ha, e, q⟩
  · exact call_isi pins s σ H vs us Q I r h
  · obtain ⟨u1, u2, rfl, r1, r2⟩ := vals2 r
    obtain rfl : u1 = Value.ref a := r1
    obtain rfl : u2 = Value.type n := r2
    have ty : ∃ o, s.heap.get? a = some o ∧ o.cls = .type "dict" := by
      rcases ha with ha | ⟨o, ha⟩
      · obtain ⟨_, _, _, _, o, _, _, h1, h2, _⟩ := tab_of I ha
        exact ⟨o, h1, h2.1⟩
      · obtain ⟨_, h1, h2, _⟩ := frzM I ha
        exact ⟨o, h1, h2.1⟩
    exact PySem.W.kia_one PySem.W.kitx_dict I.kIn ty e (fun z => nomatch z) fun tk => ⟨.bl b, H, I.tok tk, rfl, q⟩
end MD
end
/-! ### SR0 -/
section
set_option Elab.async false
set_option linter.all false
set_option maxRecDepth 100000
set_option maxHeartbeats 4000000
/-! sorted(d, key=lambda pair: repr(pair)) of a dict of mixed keys. -/
namespace SR
open PySem PySem.Calls PyProof.Rows PySem.W
section
variable {P : Program} {w : World} {A : Around} {s : Shared} {f c' : Addr} {q : Str} {params : Arguments} {scope : Scope} {pm ctv : Value} {mg mb : Str → Option Value} {p1 p2 p3 : Pos}
abbrev sPair : Str := "pair"
abbrev sRepr : Str := "repr"
abbrev keyB (p1 p2 p3 : Pos) : Expr := .Call (.Name "repr" p1) [.Name "pair" p2] [] p3
/-- repr of data that is no dict -/
theorem repr_any {h₀ : Heap} {v : Value} {d : PyData} {as : List Addr} {Q : Value → Shared → Prop} {E : Value → Shared → Prop} (r : Reads h₀ v d as) (hk : ∀ b o, h₀.get? b = some o → s.heap.get? b = some o) (sh : d.showable = true) (nd : sysModules ∉ as) (gd : A.guards = some []) (hu : A.units + (d.depth + 1) < cLine) (hz : d.shown.length ≤ sizeLine)
    (q : ∀ h' u tk, (∀ b o, s.heap.get? b = some o → h'.get? b = some o) → Q (.str d.shown u) { s with heap := h', toks := tk }) : wpAny (model P w) A (call (.builtin "repr") [v]) Q E s := by
  cases r with
  | none => exact PySem.P.repr_of_none (by simpa [PyData.shown] using q s.heap _ _ fun _ _ e => e)
  | bool b => exact PySem.P.repr_of_bool (by simpa [PyData.shown] using q s.heap _ _ fun _ _ e => e)
  | int i t => exact PySem.P.repr_of_int (by simpa [PyData.showable] using sh) (by simpa [PyData.shown] using q s.heap _ _ fun _ _ e => e)
  | str x t => exact PySem.P.repr_of_str (by simpa [PyData.shown] using q s.heap _ _ fun _ _ e => e) (by simpa [PyData.shown] using hz)
  | list h1 h2 h3 h4 => exact repr_of_reads' (Reads.list h1 h2 h3 h4) sh (fun _ => nd) gd hu hk q hz
  | tuple h1 h2 h3 h4 => exact repr_of_reads' (Reads.tuple h1 h2 h3 h4) sh (fun _ => nd) gd hu hk q hz
  | dict h1 h2 h3 h4 h5 => exact repr_of_reads' (Reads.dict h1 h2 h3 h4 h5) sh (fun _ => nd) gd hu hk q hz
theorem key_code {h₀ : Heap} {v : Value} {d : PyData} {as : List Addr} (room : A.depth < recursionLimit) (hf : s.heap.get? f = some (kla_obj "<lambda>" q params (keyB p1 p2 p3) scope [] pm c' ctv)) (hc : s.heap.CodeRec (.ref c') q)
    (kind : scope.kind = .function) (co : scope.isCoroutine = false) (gen : scope.isGenerator = false) (loc : scope.names.lookup sPair = some NameKind.local) (gl : scope.names.lookup sRepr = some NameKind.globalImplicit)
    (hbind : ∀ v, bindArgs (kla_fn "<lambda>" q params (keyB p1 p2 p3) scope [] pm (.ref c') ctv) ⟨[v], []⟩ = pure [(sPair, v)]) (lim : s.heap.NoLimit) (ng : s.heap.Ns mainGlobals mg) (nb : s.heap.Ns builtinsNs mb) (hm : mg sRepr = none) (hb : mb sRepr = some (.builtin "repr"))
    (r : Reads h₀ v d as) (hk : ∀ b o, h₀.get? b = some o → s.heap.get? b = some o) (sh : d.showable = true) (nd : sysModules ∉ as) (gd : A.guards = some []) (hu : A.units + (d.depth + 80) < cLine) (hz : d.shown.length ≤ sizeLine) :
    codeAny (model P w) A (.call (.ref f) ⟨[v], []⟩) (fun r s' => ∃ v, r = .ok (.ret v) ∧ KeyPure (.str d.shown) s v s') s := by
  refine kla_callFunE room hf rfl co gen rfl hc ?_
  rw [hbind]
  refine wpAny_pure (wpAny_newFunctionEnv_cells kind (fun y hy => .inl ?_) fun env he s1 X => ?_)
  · rw [List.mem_singleton.mp hy]; exact loc
  subst he
  have N := X.toInCall
  obtain ⟨h1, tk, rfl, kp⟩ := X.done
  refine ⟨lim.keeps kp, kla_codeExpr ?_⟩
  have kO : ∀ env : Env, env.scope = scope → env.kindOf sPair = some .local := fun env e => by
    show env.scope.names.lookup sPair = _
    rw [e]; exact loc
  have ns := N.ns
  have name : ∀ {Q : Value → Shared → Prop} {E : Value → Shared → Prop} {B : Around} {tk' : Tok} {pos : Pos}, Q v { s with heap := h1, toks := tk' } →
      wpAny (model P w) B (eval (.Name sPair pos) (newEnv scope s.heap.objs.size mainGlobals (cellsFrom (s.heap.objs.size + 1) scope.names []) (q ++ ".<locals>.") (some f) (.ref c') none builtinsNs)) Q E { s with heap := h1, toks := tk' } := fun h =>
    wpAny_Name (wpAny_loadName_local kind (kO _ rfl) ns (by
      show bindL _ [(sPair, v)] (fun _ => none) sPair = _
      unfold bindL
      simp only [bindL, show (newEnv scope s.heap.objs.size mainGlobals (cellsFrom (s.heap.objs.size + 1) scope.names []) (q ++ ".<locals>.") (some f) (.ref c') none builtinsNs).kindOf sPair = some .local from kO _ rfl]
      simp) h) (by decide)
  refine wpAny_Call_Name_kw (Name_function_global kind (by exact gl) (loadGlobal_builtin (ng.keeps kp) hm (nb.keeps kp) hb ?_) (by decide))
  refine PyProof.Rows.callWith_builtin1 ?_ (by rfl) (by rfl)
  refine spliced_cons (name (spliced_nil ?_))
  refine repr_any (s := { s with heap := h1, toks := tk }) r (fun b o e => kp b o (hk b o e)) sh nd gd ?_ hz fun h' u tk2 up => ?_
  · show A.units + _ + (d.depth + 1) < cLine
    omega
  · exact ⟨_, rfl, h', tk2, rfl, fun b o e => up b o (kp b o e), .str _ _⟩
end
end SR
end
/-! ### NTb -/
section
set_option Elab.async false
set_option linter.all false
set_option maxRecDepth 100000
set_option maxHeartbeats 4000000
/-! Data outlives tables of code objects. -/
namespace K0
open PySem PySem.Spec PyProof.Rows L2 LamX
/-- the heap without its tables -/
def noTab (H : Hp) : Hp := fun b => match H b with
  | some (.tbl _) => none
  | o => o
theorem noTab_some {H : Hp} {b : Addr} {o : HO} (h : H b = some o) (n : ∀ ps, o ≠ .tbl ps) : noTab H b = some o := by
  unfold noTab
  rw [h]
  cases o with
  | tbl ps => exact absurd rfl (n ps)
  | _ => rfl
theorem noTab_of {H : Hp} {b : Addr} {o : HO} (h : noTab H b = some o) : H b = some o ∧ ∀ ps, o ≠ .tbl ps := by
  unfold noTab at h
  cases e : H b with
  | none => rw [e] at h; cases h
  | some u =>
    rw [e] at h
    cases u with
    | tbl ps => cases h
    | _ => cases h; exact ⟨rfl, fun ps z => by cases z⟩
theorem noTab_out {H : Hp} : Same (noTab H) H := fun b o h => (noTab_of h).1
theorem noTab_ext {H H1 : Hp} (e : ExtN H H1) : Same (noTab H) (noTab H1) := fun b o h => noTab_some (e b o (noTab_of h).1 (noTab_of h).2) (noTab_of h).2
theorem sql_noTab {K : PySem.W.Frag} {H : Hp} {a : Addr} {xs : List V} (h : SqL K H a xs) : SqL K (noTab H) a xs := by
  rcases h with (h | ⟨o, h⟩) | h
  · exact .inl (.inl (noTab_some h fun ps z => by cases z))
  · exact .inl (.inr ⟨o, noTab_some h fun ps z => by cases z⟩)
  · exact .inr h
theorem sqt_noTab {K : PySem.W.Frag} {H : Hp} {a : Addr} {xs : List V} (h : SqT K H a xs) : SqT K (noTab H) a xs := by
  rcases h with (h | ⟨o, h⟩) | h
  · exact .inl (.inl (noTab_some h fun ps z => by cases z))
  · exact .inl (.inr ⟨o, noTab_some h fun ps z => by cases z⟩)
  · exact .inr h
mutual
theorem Dv.noTab {K : PySem.W.Frag} {H : Hp} : ∀ (d : PyData) (v : V), Dv K H v d → Dv K (K0.noTab H) v d
  | .none, _, h => by cases h; exact .non
  | .bool b, _, h => by cases h; exact .bl b
  | .int i, _, h => by cases h; exact .int i
  | .str x, _, h => by cases h; exact .str x
  | .list ds, _, h => by cases h with | lst h1 h2 => exact .lst (sql_noTab h1) (DvAll.noTab ds _ h2)
  | .tuple ds, _, h => by cases h with | tup h1 h2 => exact .tup (sqt_noTab h1) (DvAll.noTab ds _ h2)
  | .dict ds, _, h => by cases h with | dic h1 h2 h3 => exact .dic (noTab_some h1 fun ps z => by cases z) h2 (DvAll.noTabKv ds _ h3)
theorem DvAll.noTab {K : PySem.W.Frag} {H : Hp} : ∀ (ds : List PyData) (vs : List V), DvAll K H vs ds → DvAll K (K0.noTab H) vs ds
  | [], _, h => by cases h; exact .nil
  | d :: ds, _, h => by cases h with | cons h1 h2 => exact .cons (Dv.noTab d _ h1) (DvAll.noTab ds _ h2)
theorem DvAll.noTabKv {K : PySem.W.Frag} {H : Hp} : ∀ (ds : List (PyData × PyData)) (vs : List V), DvAll K H vs (ds.map (·.2)) → DvAll K (K0.noTab H) vs (ds.map (·.2))
  | [], _, h => by cases h; exact .nil
  | (k, d) :: ds, _, h => by cases h with | cons h1 h2 => exact .cons (Dv.noTab d _ h1) (DvAll.noTabKv ds _ h2)
end
theorem Dv.extN {K : PySem.W.Frag} {H H1 : Hp} {v : V} {d : PyData} (h : Dv K H v d) (e : ExtN H H1) : Dv K H1 v d := Dv.same noTab_out d v (Dv.same (noTab_ext e) d v (Dv.noTab d v h))
end K0
end
/-! ### SR1 -/
section
set_option Elab.async false
set_option linter.all false
set_option maxRecDepth 100000
set_option maxHeartbeats 4000000
/-! The same in the layer. -/
namespace SR
open PySem PySem.Spec PyProof.Rows L2 LamX MD
open K0 (Dv Fit sysB)
/-- a row and its key as data -/
abbrev RowD := MD.Row × PyData
def tSortRepr (K : PySem.W.Frag) (w : World) (T : List (Addr × Str)) (te : TE) : TE := fun σ H Q => te σ H fun v H1 => ∃ (a : Addr) (rs : List RowD), v = .ref a ∧ H1 a = some (dM w a (rs.map (·.1))) ∧ (∀ r ∈ rs, Dv K H1 r.1.2.1 r.2 ∧ Fit r.2) ∧ Tabs T H1 ∧
  ∀ (H2 : Hp) (p : Addr) (ys : List RowD), ExtN H1 H2 → Tabs T H2 → ys.Perm rs → H2 p = none → Q (.ref p) (upd H2 p (.lst (ys.map (·.1.2.1))))
theorem each_vals {R : Value → RowD → Prop} (hR : ∀ v r, R v r → RelV r.1.2.1 v) : ∀ {out : List Value} {ys : List RowD}, PySem.W.EachIs R out ys → Vals (ys.map (·.1.2.1)) out
  | _, _, .nil => .nil
  | _, _, .cons h r => .cons (hR _ _ h) (each_vals hR r)
section
variable {X : Cx} {T : List (Addr × Str)} {c P : Addr} {e : Expr} {te : TE} {params : Arguments} {scope : Scope} {p p1 p2 p3 pos lpos kpos : Pos}
theorem pe_sortedRepr (hg : Gl X "sorted") (hm : X.mg "sorted" = none) (hl : X.mg "repr" = none) (he : PE X e te) (TB : TabB X.base X.mg c P) (hcode : X.env.code = .ref c) (hmT : (P, X.env.qual ++ "<lambda>") ∈ T) (hu : ∀ q ∈ T, q.1 = P → q.2 = X.env.qual ++ "<lambda>")
    (hr : Room 4 X.A) (hu2 : X.A.units + 200 < cLine) (gd : X.A.guards = some []) (b : sysB X.K = true) (hc : X.calm = true) (hdef : defaultsOf params X.env = ([], [])) (kind : scope.kind = .function) (co : scope.isCoroutine = false) (gen : scope.isGenerator = false) (hn : scope.names = [(sPair, NameKind.local), (sRepr, NameKind.globalImplicit)])
    (hbind : ∀ (q : Str) (pm cv ctv v : Value), bindArgs (PySem.W.kla_fn "<lambda>" q params (keyB p1 p2 p3) scope [] pm cv ctv) ⟨[v], []⟩ = pure [(sPair, v)])
    (hst : starEach [e] X.env = (false, eval e X.env) :: starEach [] X.env := by rfl) (hb1 : backTo pos (starEach [e] X.env) = (false, eval e X.env) :: backTo pos (starEach [] X.env) := by rfl) (hpl : (backTo pos (starEach [e] X.env)).any (·.1) = false := by rfl) :
    PE X (.Call (.Name "sorted" p) [e] [⟨some "key", .Lambda params (keyB p1 p2 p3) scope lpos, kpos⟩] pos) (tSortRepr X.K X.w T te) := by
  refine ⟨fun pins s σ H Q I h => ?_⟩
  refine wpAny_Call_Name_kw (ld_blt (u := .builtin "sorted") I hg hm (by decide +kernel) ?_)
  refine PyProof.Rows.callWith_kw (thn ((pa_cons he pa_nil hst).run pos pins s σ H (fun vs H1 => match vs with
    | [v] => ∃ (a : Addr) (rs : List RowD), v = .ref a ∧ H1 a = some (dM X.w a (rs.map (·.1))) ∧ (∀ r ∈ rs, Dv X.K H1 r.1.2.1 r.2 ∧ Fit r.2) ∧ Tabs T H1 ∧ ∀ (H2 : Hp) (p : Addr) (ys : List RowD), ExtN H1 H2 → Tabs T H2 → ys.Perm rs → H2 p = none → Q (.ref p) (upd H2 p (.lst (ys.map (·.1.2.1))))
    | _ => False) I h) fun us s1 ⟨vs, H1, I1, r1, q1⟩ => ?_) hb1 hpl (by rfl) (by rfl)
  match vs, q1, r1 with
  | [v], ⟨a, rs, ev, ha, hz, hT, q⟩, r1 =>
  subst ev
  obtain rfl := Vals.ref1 r1
  show wpAny _ _ (evalAll [do let v ← eval (.Lambda params (keyB p1 p2 p3) scope lpos) X.env; standAt pos; pure v]) _ _ _
  have hclo : cloFrom X.env.cells scope.names [] = [] := by rw [hn]; rfl
  refine wpAny_evalAll_cons (wpAny_bind (lam_make2 I1 TB hcode hmT hu hT hdef (fun y hy e => ?_) fun f c' pm ctv H2 s2 I2 eN T2 hf hfn hfr hco => wpAny_bind (wpAny_standAt (wpAny_pure (wpAny_evalAll_nil ?_)))))
  · rw [hn] at hy
    rcases List.mem_cons.mp hy with rfl | hy
    · cases e
    · rw [List.mem_singleton.mp hy] at e; cases e
  rw [hclo] at hf
  have ha2 : H2 a = some (dM X.w a (rs.map (·.1))) := eN a _ ha (fun ps e => nomatch e)
  show wpAny _ _ (call (.builtin "sorted") [.ref a] [("key", .ref f)]) _ _ _
  obtain ⟨hzl, hsy, xs, rel, o, es, ep, g1, g2, g3, g4, g5⟩ := tab_of I2 ha2
  obtain ⟨⟨oc, cvs, ct, hoc, hdc, hvc⟩, _, _⟩ := I2.hok c' _ hco
  obtain ⟨mb, hmb1, hmb2⟩ := I2.mod.blt
  have reads : ∀ (r : RowD) (v : Value), r ∈ rs → RelV r.1.2.1 v → ∃ as, Reads s2.heap v r.2 as ∧ sysModules ∉ as := fun r v m rv => Dv.reads I2 b r.2 _ _ ((hz r m).1.extN eN) rv
  have sz : es.size = rs.length := by rw [ent_size g4, ← prs_len rel, List.length_map]
  have rl : rs.length ≤ sizeLine := by rw [List.length_map] at hzl; exact hzl
  have each : ∀ (rs' : List RowD) (xs' : List (NK × Value × Value)), (∀ r ∈ rs', r ∈ rs) → Prs (rs'.map (·.1)) xs' → PySem.W.EachIs (fun v (r : RowD) => RelV r.1.2.1 v ∧ r ∈ rs) (xs'.map (·.2.1)) rs' := by
    intro rs'
    induction rs' with
    | nil => intro xs' _ h; cases h; exact .nil
    | cons r rs' ih =>
      intro xs' sub h
      rw [List.map_cons] at h
      cases h with
      | cons h1 h2 => exact .cons ⟨h1.2.1, sub r List.mem_cons_self⟩ (ih _ (fun y hy => sub y (List.mem_cons_of_mem _ hy)) h2)
  have ea := each rs xs (fun _ m => m) rel
  refine call_function_entry_kw kind_sorted plain_sorted entry_sorted (ksk_s1 _ _) ?_
  unfold Builtin.«sorted»
  refine wpAny_bind (m := checkCount "sorted" 1 1 _) (wpAny_pure ?_)
  refine wpAny_bind (PySem.W.kdu_collect (A := X.A.in1) (KdlSrc.rawDict (prog := X.prog) (w := X.w) (es := es) (ep := ep) hsy) (I2.ok.hd hc) ⟨o, g1, g2, g3⟩ (by rw [sz]; exact rl) fun h' tk acc hk hacc => ?_)
  have eacc : acc.toList = xs.map (·.2.1) := by
    refine List.ext_getElem? fun j => ?_
    rw [Array.getElem?_toList, List.getElem?_map]
    cases hj : xs[j]? with
    | none =>
      have z := List.getElem?_eq_none_iff.mp hj
      have := hacc.1
      rw [Option.map_none, Array.getElem?_eq_none (by rw [this, ent_size g4]; exact z)]
    | some x =>
      have lt : j < acc.size := by rw [hacc.1, ent_size g4]; exact (List.getElem?_eq_some_iff.mp hj).1
      obtain ⟨hi, e⟩ := hacc.2 j _ (Array.getElem?_eq_getElem lt)
      have z := ent_at g4 j
      rw [Array.getElem?_eq_getElem hi, hj, Option.map_some] at z
      rw [Array.getElem?_eq_getElem lt, e, Option.some.inj z]
      rfl
  have xl : xs.length = rs.length := by rw [← ent_size g4, sz]
  rw [eacc]
  refine wpAny_bind (wpAny_newList ?_ (by rw [List.length_map, xl]; exact rl))
  have hoL : (h'.push (seqObj "list" (xs.map (·.2.1)).toArray 0)).get? h'.objs.size = some (seqObj "list" (xs.map (·.2.1)).toArray 0) := Heap.get?_push_size _ rfl
  show wpAny _ _ _ _ _ { s2 with heap := h'.push (seqObj "list" (xs.map (·.2.1)).toArray 0), toks := tk }
  have up : ∀ {g : Heap}, PySem.W.KeepsBut h'.objs.size (h'.push (seqObj "list" (xs.map (·.2.1)).toArray 0)) g → ∀ b o, s2.heap.get? b = some o → g.get? b = some o := fun {g} kp b o q =>
    kp b o (Nat.ne_of_lt (Heap.lt_size (hk b o q))) (Heap.get?_push_of_some _ (hk b o q))
  refine wpAny_bind (wpAny_holding (wpAny_call_entry_kw slot_list_sort ⟨_, hoL, rfl⟩ entry_list_sort ?body (ksk_l1 _ _)))
  case body =>
    rw [ksk_t1]
    refine PySem.W.keyH_tree (s := { s2 with heap := h'.push (seqObj "list" (xs.map (·.2.1)).toArray 0), toks := tk }) (kz := rs.map fun r => PyData.str r.2.shown) hoL ?_ ?_ ?_ ?_ ?_ (PySem.W.keyH_turns (s := { s2 with heap := h'.push (seqObj "list" (xs.map (·.2.1)).toArray 0), toks := tk }) ea ?_) ?_
    · rw [List.length_map, List.length_map, xl]
    · rw [List.length_map, xl]; exact rl
    · intro d hd d' hd'
      obtain ⟨y, _, rfl⟩ := List.mem_map.mp hd
      obtain ⟨z, _, rfl⟩ := List.mem_map.mp hd'
      rfl
    · refine .inr fun d hd => ?_
      obtain ⟨y, _, rfl⟩ := List.mem_map.mp hd
      exact ⟨fun z => (nomatch z), fun xs z => (nomatch z)⟩
    · intro d hd
      obtain ⟨y, _, rfl⟩ := List.mem_map.mp hd
      show X.A.units + 1 + 1 + 0 < cLine
      omega
    · rintro v x ⟨rv, hx⟩ _ h tk2 kp
      obtain ⟨as, rd, nos⟩ := reads x v hx rv
      have ft := (hz x hx).2
      have dp := ft.depth
      have room : X.A.in1.in1.depth < recursionLimit := hr.depth
      refine wpAny_call (codeAny_mono (key_code (s := { s2 with heap := h, toks := tk2 }) (mg := X.mg) (mb := mb) room (up kp _ _ hf) ⟨c', oc, cvs, ct, rfl, up kp _ _ hoc, hdc, hvc⟩ kind co gen (by rw [hn]; rfl) (by rw [hn]; rfl) (fun v => hbind _ _ _ _ v) ?_ ?_ ?_ hl ?_ rd (fun b o e => up kp b o e) ft.able nos gd ?_ ft.size) fun r s' hq => ?_)
      · exact (I2.mod.nolimit.keeps I2.bk).keeps (fun b o e => up kp b o e)
      · exact (I2.mod.glob.keeps I2.bk).keeps (fun b o e => up kp b o e)
      · exact (hmb1.keeps I2.bk).keeps (fun b o e => up kp b o e)
      · exact (hmb2 _ (by decide)).trans (by decide +kernel)
      · show X.A.units + 1 + 1 + (x.2.depth + 80) < cLine
        omega
      · obtain ⟨v, rfl, hk2⟩ := hq
        exact hk2
    · intro h2 tk2 out cc kp hout ko
      have eo := PySem.W.keyedOut_each (fun r : RowD => PyData.str r.2.shown) ko ea
      have pm2 : (rs.mergeSort (PySem.W.dataLe false fun r : RowD => PyData.str r.2.shown)).Perm rs := List.mergeSort_perm _ _
      have so := each_vals (fun v r h => h.1) eo
      have hlen : ((rs.mergeSort (PySem.W.dataLe false fun r : RowD => PyData.str r.2.shown)).map (·.1.2.1)).length ≤ sizeLine := by
        rw [List.length_map, pm2.length_eq]
        exact rl
      have I3 : Inv X pins σ H2 { s2 with heap := h', toks := tk } := I2.kept hk
      have nS : H2 h'.objs.size = none := I3.hok.fresh (Nat.le_refl _)
      have I4 : Inv X pins σ (upd H2 h'.objs.size (.lst ((rs.mergeSort (PySem.W.dataLe false fun r : RowD => PyData.str r.2.shown)).map (·.1.2.1)))) { s2 with heap := h2, toks := tk2 } :=
        I3.laid (o := .lst ((rs.mergeSort (PySem.W.dataLe false fun r : RowD => PyData.str r.2.shown)).map (·.1.2.1))) (h' := h2) (t' := tk2) (fun b u e => kp b u (Nat.ne_of_lt (Heap.lt_size e)) (Heap.get?_push_of_some _ e)) (Nat.le_refl _) ⟨hlen, _, cc, so, hout⟩
      exact ⟨_, rfl, wpAny_pure ⟨_, rfl, .ref h'.objs.size, _, I4, rfl, q _ _ _ eN T2 pm2 nS⟩⟩
end
end SR
end
/-! ### DC -/
section
set_option Elab.async false
set_option linter.all false
set_option maxRecDepth 100000
set_option maxHeartbeats 4000000
/-! {k: v for target in iter}: a new dict of mixed keys. -/
namespace MD
open PySem PySem.Spec PyProof.Rows L2
/-- reading: one for, no test; U: what holds by the turn and a measure -/
def tMDc (K : PySem.W.Frag) (w : World) (wi : TI) (g : TG) (tk tv : TE) (vs : List Nat) : TE := fun σ H Q => wi σ H fun J Ha => ∀ D, Ha D = none → ∃ U : Nat → Nat → Hp → Prop, (∃ m, U 0 m (upd Ha D (dM w D []))) ∧ ∀ i m Hi, U i m Hi →
  (J.stop i Hi ∧ Q (.ref D) Hi) ∨ (J.go i Hi ∧ ∃ Nx : Hp → Prop, (∀ Hn, Nx Hn → ∃ m', m' < m ∧ U (i + 1) m' Hn) ∧ ∀ x Hx, J.yld i Hi x Hx → g x (wipe σ vs) Hx fun σt Ht => wipe σt vs = wipe σ vs ∧
    tk σt Ht fun y Hy => tv σt Hy fun z Hz => ∃ kvs k, Hz D = some (dM w D kvs) ∧ KeysV K Hz kvs ∧ KeyV K Hz y k ∧ k.depth ≤ 8 ∧ kvs.length < sizeLine ∧ Nx (upd Hz D (dM w D (put kvs k y z))))
/-- one entry more -/
theorem m_dictSet {X : Cx} {pins : List (Addr × Obj)} {σ : L2.St} {H : Hp} {s : Shared} {a : Addr} {k : NK} {kvs : List MD.Row} {u v : V} {u' v' : Value} {E : Value → Shared → Prop} {Q : Unit → Shared → Prop} (hu : X.A.units + 64 < cLine) (I : Inv X pins σ H s) (e : H a = some (dM X.w a kvs)) (ks : KeysV X.K H kvs) (n : KeyV X.K H u k) (dk : k.depth ≤ 8)
    (ru : RelV u u') (rv : RelV v v') (l : kvs.length < sizeLine) (h : ∀ s', Inv X pins σ (upd H a (dM X.w a (put kvs k u v))) s' → Q () s') : wpAny (model X.prog X.w) X.A (dictSet a u' v') Q E s := by
  obtain ⟨z, hs, xs, r, m⟩ := atM I e ks
  refine set_md (by omega) m (key_is I _ _ _ n ru) dk (by rw [← prs_len r]; exact z) fun h' ⟨o, es, ep, h1, h2, h3, h4, h5⟩ sb => h _ ?_
  exact d_write I (by rw [e]; exact True.intro) sb ⟨o, h1⟩ (TabM.ok ⟨Nat.le_trans put_len l, hs, _, prs_put r ru rv, o, es, ep, h1, h2, h3, h4, h5.one⟩)
theorem pe_mdc {X : Cx} {kx vx tg iter : Expr} {scope : Scope} {own : List (Str × Nat)} {pos : Pos} {wi : TI} {g : TG} {tk tv : TE} (calm : X.calm = true) (nod : X.N.Nodup) (hu : X.A.units + 64 < cLine) (walk : PI X tg iter wi) (blk : BlkOk X.N X.env.scope scope own)
    (tgt : ∀ (s : Shared) (H : Hp) (C : Addr) (cl : List (Str × Addr)) (fp : List Addr), PG (X.blk s H scope (compEnvC scope cl C X.env) fp) tg g)
    (key : ∀ (s : Shared) (H : Hp) (C : Addr) (cl : List (Str × Addr)) (fp : List Addr), PE (X.blk s H scope (compEnvC scope cl C X.env) fp) kx tk)
    (val : ∀ (s : Shared) (H : Hp) (C : Addr) (cl : List (Str × Addr)) (fp : List Addr), PE (X.blk s H scope (compEnvC scope cl C X.env) fp) vx tv) (fold : ∀ x, foldedSetIterable iter X.env x = pure x := by intro _; rfl) :
    PE X (.DictComp kx vx [⟨tg, iter, [], 0⟩] scope pos) (tMDc X.K X.w wi g tk tv (own.map (·.2))) := by
  refine ⟨fun pins s σ H Q inv rd => ?_⟩
  rw [arm_eval_DictComp]
  have cellsThere : ∀ y ∈ scope.names, y.2 = .free → ∃ c, X.env.cells.lookup y.1 = some c := fun y hy z => (blk.free y hy z).elim (fun q => inv.ok.has _ (.inl q)) fun q => inv.ok.has _ (.inr q)
  refine wpAny_comprehension_free (use := none) rfl fold (closure_ok cellsThere) blk.kind (fun y hy z => by rw [blk.uniq y hy, z]) (thn (walk.run pins s σ H _ inv rd) fun itv sa ha => thn ha fun u sb hb => ?_)
  obtain ⟨I, fp, tn, J, Hb, rfl, ib, T, at0, far, q⟩ := hb
  refine wpAny_newObj_type (newEnv_comp ?_)
  generalize eD : sb.heap.objs.size = D
  have noD : Hb D = none := ib.hok.fresh (Nat.le_of_eq eD)
  obtain ⟨U, ⟨m₀, u₀⟩, turn⟩ := q D noD
  generalize esc : ({ sb with heap := sb.heap.push { cls := .type "dict", data := .dict #[] } } : Shared) = sc
  have hpc : sc.heap = sb.heap.push { cls := .type "dict", data := .dict #[] } := by rw [← esc]
  have ic : Inv X pins σ (upd Hb D (dM X.w D [])) sc := by
    rw [← esc]
    refine ib.laid (o := dM X.w D []) (t' := sb.toks) (fun b o z => Heap.get?_push_of_some _ z) (Nat.le_of_eq eD) (TabM.ok ?_)
    rw [← eD]
    exact ⟨Nat.zero_le _, beq_eq_false_iff_ne.mpr (Ne.symm (Nat.ne_of_lt ib.big)), [], .nil, _, #[], 0, Heap.get?_push_size _ rfl, ⟨rfl, rfl, rfl⟩, rfl, rfl, List.nodup_nil⟩
  have young : ∀ b ∈ fp, b < sb.heap.objs.size := fun b hb => let ⟨_, z, _⟩ := T.obj _ _ at0 b hb; Heap.lt_size z
  have farc : ∀ b ∈ fp, FpOk X pins (upd Hb D (dM X.w D [])) b ∧ b < sc.heap.objs.size := fun b hb => by
    have lt := young b hb
    have ne : b ≠ D := by rw [← eD]; exact Nat.ne_of_lt lt
    exact ⟨⟨by rw [upd_ne ne]; exact (far b hb).1, (far b hb).2⟩, by rw [hpc, Heap.size_push]; exact Nat.lt_succ_of_lt lt⟩
  have at1 : tn 0 sc.heap := T.keep _ _ _ at0 fun b _ o z => by rw [hpc]; exact Heap.get?_push_of_some _ z
  have ie := block_start ic blk nod farc
  have ptg := tgt sc (upd Hb D (dM X.w D [])) sc.heap.objs.size (cellsFrom (sc.heap.objs.size + 1) scope.names (cloFrom X.env.cells scope.names [])) fp
  have pky := key sc (upd Hb D (dM X.w D [])) sc.heap.objs.size (cellsFrom (sc.heap.objs.size + 1) scope.names (cloFrom X.env.cells scope.names [])) fp
  have pvl := val sc (upd Hb D (dM X.w D [])) sc.heap.objs.size (cellsFrom (sc.heap.objs.size + 1) scope.names (cloFrom X.env.cells scope.names [])) fp
  show codeAny _ _ (.compStart (.DictComp kx vx [⟨tg, iter, [], 0⟩] scope pos) 0 (.ref I) (.ref D) (compEnvC scope (cellsFrom (sc.heap.objs.size + 1) scope.names (cloFrom X.env.cells scope.names [])) sc.heap.objs.size X.env)) _ { sc with heap := pushCells (sc.heap.push { cls := .type "dict", data := .dict #[] }) scope.names }
  generalize hce : compEnvC scope (cellsFrom (sc.heap.objs.size + 1) scope.names (cloFrom X.env.cells scope.names [])) sc.heap.objs.size X.env = en at ie ptg pky pvl ⊢
  have loc : en.locals = sc.heap.objs.size := by subst hce; rfl
  have free₀ : ∀ b ∈ fp, (upd Hb D (dM X.w D [])) b = none := fun b hb => (farc b hb).1.1
  generalize eHc : upd Hb D (dM X.w D []) = Hc at ic ie ptg pky pvl u₀ free₀ farc
  generalize esd : ({ sc with heap := pushCells (sc.heap.push { cls := .type "dict", data := .dict #[] }) scope.names } : Shared) = sd at ie ⊢
  have at2 : tn 0 sd.heap := T.keep _ _ _ at1 fun b _ o z => by rw [← esd]; exact pushCells_keeps _ _ _ _ (Heap.get?_push_of_some _ z)
  have apart : ∀ {σx : L2.St} {Hx : Hp} {sx : Shared}, Inv (X.blk sc Hc scope en fp) [] σx Hx sx → (∀ b ∈ fp, Hx b = none) → ∀ b ∈ fp, FpOk (X.blk sc Hc scope en fp) [] Hx b := fun {σx Hx sx} ix nx b hb =>
    ⟨nx b hb, (ix.ok.exf b hb).1, ix.ok.exfs b hb, .inl hb, fun y c z => (ix.ok.exf b hb).2 y c z, fun p hp => absurd (show p ∈ ([] : List (Addr × Obj)) ++ [] from hp) (by simp)⟩
  have run : codeAny (model X.prog X.w) X.A (.compLoop (.DictComp kx vx [⟨tg, iter, [], 0⟩] scope pos) 0 (.ref I) (.ref D) en) (compPost (model X.prog X.w) X.A X.xe none (EP X pins σ Q) (.ref D) sc.heap.objs.size) sd := by
    refine compLoop_anyD (fun m sx => ∃ i Hx, Inv (X.blk sc Hc scope en fp) [] (wipe σ (own.map (·.2))) Hx sx ∧ tn i sx.heap ∧ (∀ b ∈ fp, Hx b = none) ∧ U i m Hx) ?_ m₀ ⟨0, Hc, ie, at2, free₀, u₀⟩
    rintro m sx ⟨i, Hx, ix, atx, nx, ux⟩
    rcases turn i m Hx ux with ⟨stop, qend⟩ | ⟨go, Nx, hNx, step⟩
    · refine thnF (T.done (X.blk sc Hc scope en fp) rfl rfl rfl calm i [] sx _ Hx (fun _ _ => False) ix (apart ix nx) atx stop) fun r sy ⟨hr, iy⟩ => ?_
      subst hr
      have iz : Inv X pins σ Hx sy := ic.call' (ch := fp) iy.os iy.base iy.hok iy.bare fun b hb => ⟨(farc b hb).1.2.2.2.1, (farc b hb).1.2.1, (farc b hb).1.2.2.2.2.1, (farc b hb).1.2.2.2.2.2⟩
      have freeL : Hx sc.heap.objs.size = none := loc ▸ (show Hx en.locals = none from iy.free)
      obtain ⟨mm, ns, _⟩ := iy.loc
      have ns : sy.heap.Ns en.locals mm := ns
      rw [loc] at ns
      obtain ⟨f0, f1, f2, f3, f4, f5⟩ := ic.fpOk (Nat.le_refl _) freeL
      exact ⟨mm, ns, fun hz bz => ⟨.ref D, Hx, iz.turned (t' := sy.toks) (fun b o hb z => (bz.2 b hb).trans z) f0 f1 f3 f4 f5, rfl, qend⟩⟩
    · refine thnF (T.item (X.blk sc Hc scope en fp) rfl rfl rfl calm i [] sx _ Hx (fun _ _ => False) ix (apart ix nx) atx go) fun r sy ⟨u, hr, hy⟩ => ?_
      subst hr
      refine thnF hy fun _ sz ⟨x, Hy, iy, ry, yy, aty, ny⟩ => ?_
      refine thnF (ptg.run _ sz _ Hy x u _ (iy.pinned (apart iy ny) (T.obj _ _ aty)) ry (step x Hy yy)) fun _ s1 ⟨σ1, H1, i1, hw, q1⟩ => ?_
      refine thnF ((pts_nil (X := X.blk sc Hc scope en fp)).run _ s1 σ1 H1 (fun b Hq => b = true ∧ Hq = H1) i1 ⟨rfl, rfl⟩) fun b s2 ⟨H2, i2, eb, eH⟩ => ?_
      subst eb
      subst eH
      simp only [if_true]
      refine thnF (pky.run _ s2 σ1 H2 _ i2 q1) fun ku s3 ⟨yk, H3, i3, r3, q3⟩ => ?_
      refine thnF (pvl.run _ s3 σ1 H3 _ i3 q3) fun vu s4 ⟨yv, H4, i4, r4, kvs, k, hD4, ks4, n4, d4, l4, nx4⟩ => ?_
      refine m_dictSet (X := X.blk sc Hc scope en fp) hu i4 hD4 ks4 n4 d4 r3 r4 l4 fun s5 i5 => ?_
      obtain ⟨m', lt, u'⟩ := hNx _ nx4
      have pin : ∀ b ∈ fp, ∀ o, sz.heap.get? b = some o → s5.heap.get? b = some o ∧ (upd H4 D (dM X.w D (put kvs k yk yv))) b = none := fun b hb o z =>
        let w := i5.pin (b, o) (List.mem_append_right _ (List.mem_append_right _ (mem_pinsAt hb z)))
        ⟨w.1, w.2.1⟩
      refine ⟨m', lt, i + 1, _, (i5.unpinned (pins := [])).weak (by rw [← hw, wipe_length]) (fun j v z => ?_), T.keep _ _ _ aty fun b hb o z => (pin b hb o z).1, fun b hb => ?_, u'⟩
      · rw [← hw] at z
        exact (wipe_some z).1
      · obtain ⟨o, z, _⟩ := T.obj _ _ aty b hb
        exact (pin b hb o z).2
  exact codeAny_compStart_dict run (T.self X.A 0 _ _ _ at2 run)
end MD
end
/-! ### IO -/
section
set_option Elab.async false
set_option linter.all false
set_option maxRecDepth 100000
set_option maxHeartbeats 4000000
/-! in_order. -/
namespace K0
open PySem PySem.Spec PyProof.Rows L2 LamX
open MD (dM KeysV KeyV tMDc)
open SR (RowD)
/-- a walk's turns for such a comprehension -/
theorem mdturns {J : It} {n : Nat} {G : Hp → Prop} {Y : Nat → Hp → V → Hp → Prop} (wk : Walk J n G Y) {K : PySem.W.Frag} {w : World} {g : TG} {tk tv : TE} {vs : List Nat} {σ : L2.St} {H0 : Hp} {D : Addr} {Qd : Hp → Prop} (I : Nat → Hp → Prop) (start : I 0 H0) (good : ∀ i H, i ≤ n → I i H → G H)
    (one : ∀ i x H H1, i < n → I i H → Y i H x H1 → g x (wipe σ vs) H1 fun σ2 H2 => wipe σ2 vs = wipe σ vs ∧ tk σ2 H2 fun y H4 => tv σ2 H4 fun z H5 => ∃ kvs k, H5 D = some (dM w D kvs) ∧ KeysV K H5 kvs ∧ KeyV K H5 y k ∧ k.depth ≤ 8 ∧ kvs.length < sizeLine ∧ I (i + 1) (upd H5 D (dM w D (MD.put kvs k y z)))) (done : ∀ H, I n H → Qd H) :
    ∃ U : Nat → Nat → Hp → Prop, (∃ m, U 0 m H0) ∧ ∀ i m H, U i m H →
      (J.stop i H ∧ Qd H) ∨ (J.go i H ∧ ∃ Nx : Hp → Prop, (∀ H', Nx H' → ∃ m', m' < m ∧ U (i + 1) m' H') ∧ ∀ x H', J.yld i H x H' → g x (wipe σ vs) H' fun σ2 H2 => wipe σ2 vs = wipe σ vs ∧
        tk σ2 H2 fun y H4 => tv σ2 H4 fun z H5 => ∃ kvs k, H5 D = some (dM w D kvs) ∧ KeysV K H5 kvs ∧ KeyV K H5 y k ∧ k.depth ≤ 8 ∧ kvs.length < sizeLine ∧ Nx (upd H5 D (dM w D (MD.put kvs k y z)))) := by
  refine ⟨fun i m H => (i ≤ n ∧ m = n - i) ∧ I i H, ⟨n, ⟨Nat.zero_le _, by simp⟩, start⟩, fun i m H hW => ?_⟩
  obtain ⟨⟨hi, rfl⟩, inv⟩ := hW
  have gd := good i H hi inv
  rcases Nat.lt_or_ge i n with lt | ge
  · exact .inr ⟨wk.goes i H lt gd, I (i + 1), fun H' inv' => ⟨n - (i + 1), by omega, ⟨lt, rfl⟩, inv'⟩, fun x H' y => one i x H H' lt inv (wk.yields i H x H' lt gd y)⟩
  · obtain rfl : i = n := by omega
    exact .inl ⟨wk.stops H gd, done H inv⟩
theorem pe_mgetK {X : Cx} {K : PySem.W.Frag} {w : World} {o i : Expr} {pos : Pos} {td ty : TE} (eK : X.K = K) (ew : X.w = w) (hu : X.A.units + 64 < cLine) (ho : PE X o td) (hi : PE X i ty) (hs : NoSl i) : PE X (.Subscript o i pos) (MD.tMGet K w td ty) := by
  subst eK ew
  exact MD.pe_mget hu ho hi hs
theorem room200 {k : Nat} {A : Around} (h : Room k A) : A.units + 200 < cLine := by have := h.un; omega
mutual
theorem KeyV.noTab {K : PySem.W.Frag} {H : Hp} : ∀ (k : MD.NK) (v : V), KeyV K H v k → KeyV K (K0.noTab H) v k
  | .tup ks, _, h => by
    cases h with
    | atom q => exact .atom q
    | tup h1 h2 => exact .tup (sqt_noTab h1) (KeyVs.noTab ks _ h2)
  | .none, _, h => by cases h with | atom q => exact .atom q
  | .num _, _, h => by cases h with | atom q => exact .atom q
  | .text _, _, h => by cases h with | atom q => exact .atom q
theorem KeyVs.noTab {K : PySem.W.Frag} {H : Hp} : ∀ (ks : List MD.NK) (vs : List V), MD.KeyVs K H vs ks → MD.KeyVs K (K0.noTab H) vs ks
  | [], _, h => by cases h; exact .nil
  | k :: ks, _, h => by cases h with | cons h1 h2 => exact .cons (KeyV.noTab k _ h1) (KeyVs.noTab ks _ h2)
end
theorem KeyV.extN {K : PySem.W.Frag} {H H1 : Hp} {v : V} {k : MD.NK} (h : KeyV K H v k) (e : ExtN H H1) : KeyV K H1 v k := MD.KeyV.same noTab_out k v (MD.KeyV.same (noTab_ext e) k v (KeyV.noTab k v h))
theorem KeysV.extN {K : PySem.W.Frag} {H H1 : Hp} {kvs : List MD.Row} (h : KeysV K H kvs) (e : ExtN H H1) : KeysV K H1 kvs := fun p m => ⟨KeyV.extN (h p m).1 e, (h p m).2⟩
abbrev ioN : List Str := ["moves", "key"]
theorem scInOrder : FnScope ioN ["moves"] (defScope (top iInOrder)) := ⟨rfl, rfl, rfl, by decide +kernel, rfl, by decide +kernel, by decide +kernel⟩
abbrev ioQ : Str := "in_order.<locals>.<lambda>"
def spInOrder (K : PySem.W.Frag) (w : World) (T : List (Addr × Str)) : Sp := fun vs H Q _ => ∃ (a : Addr) (rs : List RowD), vs = [.ref a] ∧ H a = some (dM w a (rs.map (·.1))) ∧ KeysV K H (rs.map (·.1)) ∧ ((rs.map (·.1)).map (·.1)).Nodup ∧ rs.length ≤ 1000 ∧ (∀ r ∈ rs, Dv K H r.1.2.1 r.2 ∧ Fit r.2) ∧ Tabs T H ∧
  ∀ (H' : Hp) (b : Addr) (ys : List RowD), ExtN H H' → Tabs T H' → ys.Perm rs → (∀ c o, (∀ ps, o ≠ .tbl ps) → H c = some o → c ≠ b) → H' b = some (dM w b (ys.map (·.1))) → Q (.ref b) H'
section
variable {P : Program} {w : World} {K : PySem.W.Frag} {mg : Str → Option Value} {base : Heap} {f ct PT : Addr} {fd : FuncData}
theorem ok_inOrder {k : Nat} (F : FnP K "in_order" iInOrder f fd) (msorted : mg "sorted" = none) (mrepr : mg "repr" = none) (b : sysB K = true) (hcode : fd.code = .ref ct) (TB : TabB base mg ct PT) {T : List (Addr × Str)} (hmT : (PT, ioQ) ∈ T) (hu : ∀ x ∈ T, x.1 = PT → x.2 = ioQ) : FnG P w K mg base CX0 (k + 5) f fd ["moves"] (spInOrder K w T) := by
  refine fnG_ofC F scInOrder (fun vs H Q E h => ?_) (fun cdv hcd A outer s H vs Q E gd hr h => ?_)
  · obtain ⟨a, rs, rfl, _⟩ := h
    rfl
  · obtain ⟨a, rs, rfl, ha, ks, nd, few, dat, tabs, q⟩ := h
    obtain rfl : cdv = .ref ct := hcd.symm.trans hcode
    refine ⟨_, PSs.nox (pss_one (ps_ret (MD.pe_mdc (own := [("key", 1)]) (g := gName 1) (tk := tVar 1) rfl scInOrder.nd (hr.units) (pi_list (SR.pe_sortedRepr (T := T) (by rfl) msorted mrepr (pv 0) TB rfl hmT hu (Room.mono hr (by omega)) (room200 hr) gd b rfl (by rfl) rfl rfl rfl rfl (fun _ _ _ _ _ => by rfl)))
      (blkOk_by (N := ioN) (sc := defScope (top iInOrder)) (by decide +kernel)) (fun _ _ _ _ _ => pg_name (i := 1) scInOrder.nd rfl (Or.inl rfl)) (fun _ _ _ _ _ => pv 1) (fun _ _ _ _ _ => pe_mgetK (K := K) (w := w) rfl rfl hr.units (pv 0) (pv 1) (fun _ _ => rfl))))), ?_⟩
    refine ⟨_, rfl, a, rs, rfl, ha, dat, tabs, fun H2 p ys eN T2 pm np => ?_⟩
    have rn : ((ys.map (·.1)).map (·.1)).Nodup := ((pm.map (·.1)).map (·.1)).nodup_iff.mpr nd
    have a2 : H2 a = some (dM w a (rs.map (·.1))) := eN a _ ha (fun ps z => nomatch z)
    have pa : p ≠ a := fun z => by rw [z, a2] at np; cases np
    refine ⟨p, rfl, ⟨_, SqL.of upd_same⟩, fun D nD => mdturns (walk_list (a := p) (xs := ys.map (·.1.2.1))) (fun i H' => Same (upd H2 p (.lst (ys.map (·.1.2.1)))) H' ∧ H' D = some (dM w D ((ys.map (·.1)).take i))) ⟨same_upd nD, upd_same⟩ (fun i H' _ z => SqL.of (z.1 _ _ upd_same)) (fun i x H' H'' lt z y => ?_) (fun H' z => ?_)⟩
    · obtain ⟨s1, d1⟩ := z
      obtain ⟨rfl, hx⟩ := y
      rw [List.getElem?_map] at hx
      obtain ⟨r, hr2, rfl⟩ := Option.map_eq_some_iff.mp hx
      have up : Same H2 H'' := (same_upd np).trans s1
      have mr : r ∈ rs := pm.mem_iff.mp (List.mem_of_getElem? hr2)
      have mr1 : r.1 ∈ rs.map (·.1) := List.mem_map.mpr ⟨r, mr, rfl⟩
      obtain ⟨j, hj⟩ := List.mem_iff_getElem?.mp mr1
      have ks2 : KeysV K H'' (rs.map (·.1)) := (KeysV.extN ks eN).same up
      obtain ⟨kv, kd⟩ := ks2 r.1 mr1
      have lk : MD.look (rs.map (·.1)) r.1.1 = some r.1.2.2 := MD.look_some nd nd hj
      have hyr : (ys.map (·.1))[i]? = some r.1 := by rw [List.getElem?_map, hr2]; rfl
      refine ⟨rfl, _, rfl, _, rfl, _, rfl, a, r.1.1, _, r.1.2.2, rfl, up _ _ a2, ks2, kv, kd, lk, _, r.1.1, d1, fun q hq => ?_, kv, kd, ?_, fun c o e => ?_, ?_⟩
      · have hq2 : q ∈ rs.map (·.1) := (pm.map (·.1)).mem_iff.mp (List.mem_of_mem_take hq)
        exact ks2 q hq2
      · rw [List.length_take, List.length_map, pm.length_eq, sizeLine_eq]
        omega
      · rw [upd_ne (ne_of_none e nD)]
        exact s1 c o e
      · rw [MD.put_new rn hyr]
        exact upd_same
    · obtain ⟨s1, d1⟩ := z
      have up : Same H2 H' := (same_upd np).trans s1
      rw [List.length_map, List.take_of_length_le (by rw [List.length_map]; exact Nat.le_refl _)] at d1
      refine q H' D ys (eN.trans (ExtN.of up)) (T2.ext up) pm (fun c o n e z => ?_) d1
      rw [z] at e
      have e2 : upd H2 p (.lst (ys.map (·.1.2.1))) D = some o := same_upd np _ _ (eN D o e n)
      rw [nD] at e2
      cases e2
end
end K0
end
/-! ### ET -/
section
set_option Elab.async false
set_option linter.all false
set_option maxRecDepth 100000
set_option maxHeartbeats 4000000
/-! enumerate(t) of a tuple. -/
namespace ET
open PySem PySem.Spec PyProof.Rows L2
theorem new_enum {v : Value} {o : Obj} {S : Heap → Prop} (B : Begins v o S) :
    Meets (Builtin.«enumerate.__new__» ⟨[.type "enumerate", v], []⟩) (fun _ R s => S s.heap ∧ R (.ok (.ret (.ref (s.heap.push o).objs.size))) { s with heap := (s.heap.push o).push { cls := .type "enumerate", data := .fields #[.none, .bool false, .ref s.heap.objs.size, rawInt 0, .none, .none] } }) :=
  .of_wp fun prog w A R s z => by
    obtain ⟨hp, gs, dr, tk, os⟩ := s
    obtain ⟨z1, z2⟩ := z
    have hsub := sub_enumerate
    have it1 : ∀ {A' : Around} {E : Value → Shared → Prop} {Q : Value → Shared → Prop}, Q (.ref hp.objs.size) ⟨hp.push o, gs, dr, tk, os⟩ → wpAny (model prog w) A' (pyIter v) Q E ⟨hp, gs, dr, tk, os⟩ := fun q => B.iter prog w _ _ ⟨hp, gs, dr, tk, os⟩ _ z1 q
    wp_walk
    refine wpAny_stack_any fun st => wpAny_pure ?_
    split
    · rename_i c _ _ _ _ _
      cases (c == Value.type "enumerate")
      · wp_walk using it1
        exact ⟨_, rfl, z2⟩
      · wp_walk using it1
        exact ⟨_, rfl, z2⟩
    · wp_walk using it1
      exact ⟨_, rfl, z2⟩
theorem call_enumT {prog : Program} {w : World} {A : Around} {E : Value → Shared → Prop} {s : Shared} {t : Addr} {items : Array Value} {Q : Value → Shared → Prop} (ht : s.heap.IsTuple t items)
    (h : ∀ g, IsEnum g (s.heap.objs.size + 1) s.heap.objs.size 0 .none → g.IsTupleIter s.heap.objs.size t 0 → (∀ b o, s.heap.get? b = some o → g.get? b = some o) → Q (.ref (s.heap.objs.size + 1)) { s with heap := g }) :
    wpAny (model prog w) A (call (.type "enumerate") [.ref t]) Q E s := by
  refine callType_new F.called_enumerate (by decide) (F.typeCall_enumerate_1 _) (F.newCall_enumerate_1 _) (fun obj => F.args_object_init_2 obj _) F.entry_enumerate_new (new_enum (begins_tuple t items)) ⟨ht, ?_⟩
  have one : (s.heap.push { cls := .type "tuple_iterator", data := .fields #[.ref t, .int 0 0] }).objs.size = s.heap.objs.size + 1 := Heap.size_push ..
  have top := Heap.get?_push_size (s.heap.push { cls := .type "tuple_iterator", data := .fields #[.ref t, .int 0 0] }) (o := { cls := .type "enumerate", data := .fields #[.none, .bool false, .ref s.heap.objs.size, rawInt 0, .none, .none] }) rfl
  show _ ∧ _
  rw [one] at top ⊢
  exact ⟨⟨_, top, rfl⟩, h _ top ⟨_, Heap.get?_push_of_some _ (Heap.get?_push_size _ rfl), rfl, rfl⟩ fun b o x => Heap.get?_push_of_some _ (Heap.get?_push_of_some _ x)⟩
/-- pairs of the place and the item, each a new tuple -/
def Itet (K : PySem.W.Frag) (a : Addr) (n : Nat) : It :=
  ⟨fun i H => ∃ xs, SqT K H a xs ∧ xs.length = n ∧ i < xs.length, fun i H x H' => ∃ T y, x = .ref T ∧ H T = none ∧ H' = upd H T (.tup [.int (i : Nat), y]) ∧ ∀ xs, SqT K H a xs → xs[i]? = some y, fun i H => ∃ xs, SqT K H a xs ∧ xs.length = n ∧ xs.length ≤ i⟩
theorem turn_enumT {P : Program} {w : World} {K : PySem.W.Frag} {elts : List Expr} {kk : Nat} {tpos : Pos} (a e it : Addr) (n : Nat) :
    Turn P w K (.Tuple elts kk tpos) (Itet K a n) [e, it] e (fun i h => (∃ old, IsEnum h e it ((i : Nat) : Int) old) ∧ h.IsTupleIter it a i ∧ e ≠ it ∧ i ≤ n) where
  mem := by simp
  obj := fun i h st b hb => by
    obtain ⟨⟨old, he⟩, ⟨o, ho, hc, hd⟩, _⟩ := st
    rcases (show b = e ∨ b = it by simpa using hb) with z | z
    · rw [z]; exact ⟨_, he, fun v q => nomatch q⟩
    · rw [z]; exact ⟨o, ho, fun v q => by rw [hd] at q; exact nomatch q⟩
  keep := fun i h h' st k => let ⟨⟨old, he⟩, hi, ne⟩ := st; ⟨⟨old, k e (by simp) _ he⟩, hi.at fun o q => k it (by simp) o q, ne.1, ne.2⟩
  item := by
    intro X hP hw hK calm i pins s σ H E I far st go
    subst hP hw hK
    obtain ⟨⟨old, he⟩, hit, ne, lei⟩ := st
    obtain ⟨xs, hq, en, lt⟩ := go
    obtain ⟨x, hx⟩ : ∃ x, xs[i]? = some x := ⟨_, List.getElem?_eq_getElem lt⟩
    obtain ⟨its, rv, tp, hz⟩ := I.tuple hq
    obtain ⟨u, hu, ru⟩ := rv.get hx
    have hel : e < s.heap.objs.size := Heap.lt_size he
    have hil : it < s.heap.objs.size := by obtain ⟨_, q, _⟩ := hit; exact Heap.lt_size q
    have ta : a ≠ it := fun z => by
      obtain ⟨o1, e1, c1, d1⟩ := hit
      obtain ⟨o2, e2, c2, n2, d2⟩ := tp
      rw [z, e1] at e2
      cases e2
      rw [d1] at d2
      cases d2
    have ae : a ≠ e := fun z => by
      obtain ⟨o2, e2, c2, n2, d2⟩ := tp
      rw [z, he] at e2
      cases e2
      cases d2
    have D := Draws.tuple (prog := X.prog) (w := X.w) (A := X.A.in1) (I.ok.hd calm) it a ta its.toArray
    have lti : i < its.toArray.size := by rw [List.size_toArray]; exact (List.getElem?_eq_some_iff.mp hu).1
    refine wpAny_pyNext_enum_itemD D he ⟨hit, tp⟩ lti ne (by simp [ne, Ne.symm ae]) fun y h' tk py ho hst hT hsz hk => ?_
    have ey : y = u := by
      have py : its.toArray[i]? = some y := py
      rw [List.getElem?_toArray, hu] at py
      exact (Option.some.inj py).symm
    subst ey
    refine ⟨_, rfl, wpAny_letOwnedTupleGo_enum (s := { s with heap := h', toks := tk + 1 }) ho fun h'' he' sb => ?_⟩
    have hT2 : h''.get? s.heap.objs.size = some { cls := .type "tuple", data := .seq #[.int i tk, y] } := (sb.2 _ (Nat.ne_of_gt hel)).trans hT
    have new : ObjOk X.prog X.w (upd H s.heap.objs.size (.tup [.int (i : Nat), x])) h'' s.heap.objs.size (.tup [.int (i : Nat), x]) :=
      ⟨by show 2 ≤ sizeLine; decide, [.int i tk, y], .cons ⟨_, rfl⟩ (.cons ru .nil), ⟨_, hT2, rfl, _, rfl⟩⟩
    have I1 : Inv X pins σ (upd H s.heap.objs.size (.tup [.int (i : Nat), x])) { s with heap := h'', toks := tk + 1 } :=
      I.turnedNew (t' := tk + 1) (ch := [e, it]) (fun b ob hb q => (sb.2 b (fun z => hb (by simp [z]))).trans (hk b ob (fun z => hb (by simp [z])) (fun z => hb (by simp [z])) q)) far (Nat.le_refl _) new
    refine ⟨.ref s.heap.objs.size, _, I1, rfl, ⟨_, x, rfl, I.hok.fresh (Nat.le_refl _), rfl, fun ys hy => ?_⟩, ⟨⟨_, by rw [show ((i + 1 : Nat) : Int) = (i : Int) + 1 by omega]; exact he'⟩, hst.1.at fun o q => (sb.2 it (Ne.symm ne)).trans q, ne, by omega⟩, fun b hb => ?_⟩
    · rw [I.tuple_inj hy hq]; exact hx
    · have lb : b < s.heap.objs.size := by
        rcases (show b = e ∨ b = it by simpa using hb) with z | z
        · rw [z]; exact hel
        · rw [z]; exact hil
      rw [upd_ne (Nat.ne_of_lt lb)]
      exact (far b hb).1
  done := by
    intro X hP hw hK calm i pins s σ H E I far st stop
    subst hP hw hK
    obtain ⟨⟨old, he⟩, hit, ne, lei⟩ := st
    obtain ⟨xs, hq, en, hx⟩ := stop
    obtain ⟨its, rv, tp, hz⟩ := I.tuple hq
    obtain ⟨f0, f1, f2, f3, f4, f5⟩ := far it (by simp)
    have ll := rv.length
    have ta : a ≠ it := fun z => by
      obtain ⟨o1, e1, c1, d1⟩ := hit
      obtain ⟨o2, e2, c2, n2, d2⟩ := tp
      rw [z, e1] at e2
      cases e2
      rw [d1] at d2
      cases d2
    have D := Draws.tuple (prog := X.prog) (w := X.w) (A := X.A.in1) (I.ok.hd calm) it a ta its.toArray
    have ei : i = its.toArray.size := by rw [List.size_toArray]; omega
    exact wpAny_pyNext_enum_endD D he (by rw [← ei]; exact ⟨hit, tp⟩) fun h' eb => ⟨rfl, I.turned (t' := s.toks) (fun b o hb q => eb b o hb q) f0 f1 f3 f4 f5⟩
  self := fun A i s Q E st h => let ⟨⟨_, he⟩, _⟩ := st; wpAny_pyIter_enum he h
def iEnumT (K : PySem.W.Frag) (ta : TA) : TI := fun σ H R => ta σ H fun vs H1 => ∃ a xs, vs = [.ref a] ∧ SqT K H1 a xs ∧ R (Itet K a xs.length) H1
theorem pi_enumT {X : Cx} {e : Expr} {ta : TA} {p pos tpos : Pos} {elts : List Expr} {kk : Nat} (hg : Gl X "enumerate") (hm : X.mg "enumerate" = none) (ha : PA X [e] ta) (hs : starEach [e] X.env = [(false, eval e X.env)] := by rfl) :
    PI X (.Tuple elts kk tpos) (.Call (.Name "enumerate" p) [e] [] pos) (iEnumT X.K ta) := by
  refine ⟨fun pins s σ H R I h => ?_⟩
  refine wpAny_Call_Name_kw (ld_blt I hg hm boot_enumerate (PyProof.Rows.callWith_type1 (thn (ha.run pos pins s σ H _ I h) fun us s1 ⟨vs, H1, I1, r1, a, xs, ex, hq, q⟩ => ?_) hs rfl))
  subst ex
  obtain ⟨u, rfl, ru⟩ := vals1 r1
  obtain rfl : u = Value.ref a := ru
  obtain ⟨its, rv, tp, hz⟩ := I1.tuple hq
  refine call_enumT tp fun g he hit up => wpAny_pyIter_enum he ?_
  have I2 : Inv X pins σ H1 { s1 with heap := g } := I1.kept (t' := s1.toks) up
  refine ⟨s1.heap.objs.size + 1, [s1.heap.objs.size + 1, s1.heap.objs.size], _, _, H1, rfl, I2, turn_enumT a (s1.heap.objs.size + 1) s1.heap.objs.size xs.length, ⟨⟨.none, he⟩, hit, Nat.succ_ne_self _, Nat.zero_le _⟩, fun b hb => ?_, q⟩
  have big : s1.heap.objs.size ≤ b := by
    rcases (show b = s1.heap.objs.size + 1 ∨ b = s1.heap.objs.size by simpa using hb) with z | z
    · rw [z]; exact Nat.le_succ _
    · rw [z]; exact Nat.le_refl _
  exact I1.fpOk big (I1.hok.fresh big)
theorem walk_enumT {K : PySem.W.Frag} {a : Addr} {xs : List V} : Walk (Itet K a xs.length) xs.length (fun H => SqT K H a xs) (fun i H x H' => ∃ T y, x = .ref T ∧ H T = none ∧ H' = upd H T (.tup [.int (i : Nat), y]) ∧ xs[i]? = some y) :=
  ⟨fun i _ hi q => ⟨xs, q, rfl, hi⟩, fun _ q => ⟨xs, q, rfl, Nat.le_refl _⟩, fun _ _ _ _ _ q y => by
    obtain ⟨T, z, h1, h2, h3, h4⟩ := y
    exact ⟨T, z, h1, h2, h3, h4 xs q⟩⟩
end ET
end
/-! ### MD7 -/
section
set_option Elab.async false
set_option linter.all false
set_option maxRecDepth 100000
set_option maxHeartbeats 4000000
/-! d.setdefault(k, x). -/
namespace MD
open PySem
section
variable {prog : Program} {w : World} {A : Around} {E : Value → Shared → Prop} {s : Shared} {d : Addr} {xs : List (NK × Value × Value)} {k : NK} {u x : Value}
theorem setd_md (hu : A.units + 8 < cLine) (m : At w s.heap d xs) (hk : NestedIs s.heap k u) (dk : k.depth ≤ 8) (hz : xs.length ≤ sizeLine) {Q : Value → Shared → Prop} (old : ∀ v, look xs k = some v → Q v { s with toks := s.toks + k.draws })
    (new : look xs k = none → ∀ h', At w h' d (xs ++ [(k, u, x)]) → Heap.SameBut d s.heap h' → Q x { s with heap := h', toks := s.toks + k.draws }) : wpAny (model prog w) A (dictSetDefault d u x) Q E s := by
  obtain ⟨o, es, ep, ho, hx, hd, he, ks⟩ := m
  unfold dictSetDefault
  try with_reducible refine wpAny_holding ?_
  refine wpAny_bind (pyHash_key k u A s _ hk (by omega) (wpAny_bind (find (s := { s with toks := s.toks + k.draws }) hu ho hd he ks hk dk (fun hno => ?_) fun i y hi e => ?_)))
  · have nn : look xs k = none := look_none hno
    refine wpAny_bind (wpAny_rule (wpAny_bind (wpAny_updateDictKeys (hz := by have e := ent_size he; omega) (s := { s with toks := s.toks + k.draws }) ho hd (wpAny_pure (new nn _ ⟨_, _, ep + 1, Heap.get?_update_self _ ho (Obj.isFreed_of_dict (Obj.data_mapDictKeys hd _)), hx.mapDictKeys _, Obj.data_mapDictKeys hd _, ?_, ?_⟩ (Heap.SameBut.update ..))))))
    · simp [he, ent]
    · refine ⟨fun y hy => ?_, ?_⟩
      · rcases List.mem_append.mp hy with z | z
        · exact (ks.but ho hd (Heap.SameBut.update ..)).is y z
        · rw [List.mem_singleton.mp z]
          exact ⟨is_but hk ho hd (Heap.SameBut.update ..), dk⟩
      · have z := put_nodup (k := k) u x ks.one
        unfold put at z
        rw [nn] at z
        simpa using z
  · refine wpAny_bind (wpAny_dictEntries (s := { s with toks := s.toks + k.draws }) ho hd ?_)
    rw [ent_at he i, hi]
    have lk : look xs k = some y.2.2 := by rw [← e]; exact look_some ks.one ks.one hi
    exact wpAny_bind (wpAny_rule (wpAny_pure (old _ lk)))
theorem call_setd (hu : A.units + 16 < cLine) (hs : (d == sysModules) = false) (m : At w s.heap d xs) (hk : NestedIs s.heap k u) (dk : k.depth ≤ 8) (hz : xs.length ≤ sizeLine) {Q : Value → Shared → Prop} (old : ∀ v, look xs k = some v → Q v { s with toks := s.toks + k.draws })
    (new : look xs k = none → ∀ h', At w h' d (xs ++ [(k, u, x)]) → Heap.SameBut d s.heap h' → Q x { s with heap := h', toks := s.toks + k.draws }) : wpAny (model prog w) A (call (.builtin "dict.setdefault") [.ref d, u, x]) Q E s := by
  refine call_meetsIn F.slot_dict_setdefault m.typeIs F.entry_dict_setdefault (F.args_dict_setdefault_3 _ _ _) (S := fun A' R s' => A' = A ∧ s' = s ∧ (∀ v, look xs k = some v → R (.ok (.ret v)) { s with toks := s.toks + k.draws }) ∧ (look xs k = none → ∀ h', At w h' d (xs ++ [(k, u, x)]) → Heap.SameBut d s.heap h' → R (.ok (.ret x)) { s with heap := h', toks := s.toks + k.draws })) (fun A' R s' hS => ?_) ⟨rfl, rfl, old, new⟩
  obtain ⟨rfl, rfl, h1, h2⟩ := hS
  have ty := m.typeIs
  unfold Builtin.«dict.setdefault»
  refine wpAny_bind ?_
  unfold Builtin.Dict.keyAndDefault
  refine wpAny_bind (wpAny_notOrdered_dict ty ?_)
  show wpAny _ _ (pure (d, u, some x)) _ _ s'
  refine wpAny_pure ?_
  show wpAny _ _ (if (d == sysModules) = true then _ else (dictSetDefault d u x >>= _)) _ _ s'
  rw [if_neg (by rw [hs]; exact Bool.false_ne_true)]
  exact wpAny_bind (setd_md (by show A'.units + _ + 8 < _; omega) m hk dk hz (fun v hv => wpAny_pure (h1 v hv)) fun hn h' m' sb => wpAny_pure (h2 hn h' m' sb))
end
end MD
namespace MD
open PySem PySem.Spec PyProof.Rows L2
/-- d.setdefault(key, x) -/
def tMSetd (K : PySem.W.Frag) (w : World) (td ty tx : TE) : TE := fun σ H Q => td σ H fun x H1 => ∃ a, x = .ref a ∧ (∃ kv0, H1 a = some (dM w a kv0)) ∧ ty σ H1 fun y H2 => tx σ H2 fun z H3 => ∃ k kvs, H3 a = some (dM w a kvs) ∧ KeysV K H3 kvs ∧ KeyV K H3 y k ∧ k.depth ≤ 8 ∧ kvs.length < sizeLine ∧
  (∀ v, look kvs k = some v → Q v H3) ∧ (look kvs k = none → Q z (upd H3 a (dM w a (kvs ++ [(k, y, z)]))))
theorem pe_msetd {X : Cx} {o e f : Expr} {apos cpos : Pos} {td ty tx : TE} (hu : X.A.units + 64 < cLine) (ho : PE X o td) (he : PE X e ty) (hf : PE X f tx) (m : M2 X o "setdefault" apos e f cpos) : PE X (.Call (.Attribute o "setdefault" apos) [e, f] [] cpos) (tMSetd X.K X.w td ty tx) := by
  refine ⟨fun pins s σ H Q I h => ?_⟩
  refine wpAny_Call_method m.base m.few m.line PySem.F.plainAttrs_dict PySem.F.slot_dict_setdefault PySem.F.type_dict_setdefault (thn (ho.run pins s σ H _ I h) fun u s1 ⟨x, H1, I1, rx, a, ex, ⟨kv0, d⟩, q1⟩ => ?_)
  subst ex
  obtain rfl : u = Value.ref a := rx
  obtain ⟨_, _, _, _, o', es, ep, ho', hx', _⟩ := tab_of I1 d
  refine ⟨⟨o', ho', hx'.1⟩, fun c e => by cases e; exact ⟨o', ho', hx'.2.1⟩, ?_⟩
  rw [m.trees]
  refine Calls.callWith_builtin rfl (Calls.evalArgs_plain (Calls.spliced_cons (thn (he.run pins s1 σ H1 _ I1 q1) fun iv s2 ⟨y, H2, I2, ry, q2⟩ =>
    Calls.spliced_cons (thn (hf.run pins s2 σ H2 _ I2 q2) fun fv s3 ⟨z, H3, I3, rz, k, kvs, ed, ks, n, dk, lz, qo, qn⟩ => Calls.spliced_nil ?_))))
  obtain ⟨zl, hs, xs, r, mm⟩ := atM I3 ed ks
  have rl := prs_look (k := k) r
  refine call_setd (by omega) hs mm (key_is I3 _ _ _ n ry) dk (by rw [← prs_len r]; exact zl) (fun v hv => ?_) fun hn h' ⟨o2, es2, ep2, g1, g2, g3, g4, g5⟩ sb => ?_
  · cases e1 : look kvs k with
    | none => rw [e1] at rl; rw [RelO.none_of rl] at hv; cases hv
    | some y2 =>
      rw [e1] at rl
      obtain ⟨w', hw, rw'⟩ := RelO.some_of rl
      rw [hv] at hw
      cases hw
      exact ⟨y2, H3, I3.tok _, rw', qo y2 e1⟩
  · cases e1 : look kvs k with
    | some y2 =>
      rw [e1] at rl
      obtain ⟨w', hw, _⟩ := RelO.some_of rl
      rw [hn] at hw
      cases hw
    | none =>
      exact ⟨z, _, d_write I3 (by rw [ed]; exact True.intro) sb ⟨o2, g1⟩ (TabM.ok ⟨by rw [List.length_append]; exact lz, hs, _, prs_snoc ⟨rfl, ry, rz⟩ r, o2, es2, ep2, g1, g2, g3, g4, g5.one⟩), rz, qn e1⟩
end MD
end
/-! ### OG -/
section
set_option Elab.async false
set_option linter.all false
set_option maxRecDepth 100000
set_option maxHeartbeats 4000000
/-! origins_of. -/
namespace K0
open PySem PySem.Spec PyProof.Rows L2 LamX
open MD (dM KeysV KeyV)
abbrev ogN : List Str := ["look", "origins", "view", "moves", "other", "sign"]
theorem scOrigins : FnScope ogN ["look"] (defScope (top iOrigins)) := ⟨rfl, rfl, rfl, by decide +kernel, rfl, by decide +kernel, by decide +kernel⟩
/-- a row of a look -/
def LookAt (K : PySem.W.Frag) (w : World) (H : Hp) (v : V) : Prop := ∃ (T d : Addr) (o : Int) (rows : List MD.Row), v = .ref T ∧ SqT K H T [.ref d, .int o] ∧ H d = some (dM w d rows) ∧ KeysV K H rows ∧ ∀ r ∈ rows, ∃ n : Int, r.2.2 = .int n
def spOrigins (K : PySem.W.Frag) (w : World) : Sp := fun vs H Q _ => ∃ (p : Addr) (xs : List V), vs = [.ref p] ∧ SqT K H p xs ∧ xs.length ≤ 3 ∧ (∀ x ∈ xs, LookAt K w H x) ∧ ∀ H' q, Same H H' → Q (.ref q) H'
mutual
theorem KeyV.off {K : PySem.W.Frag} {H : Hp} {l : Addr} {u : HO} (h1 : ∀ xs, H l ≠ some (.tup xs)) (h2 : ∀ o xs, H l ≠ some (.frz o (.tup xs))) : ∀ (k : MD.NK) (v : V), KeyV K H v k → KeyV K (upd H l u) v k
  | .tup ks, _, h => by
    cases h with
    | atom q => exact .atom q
    | tup s hs =>
      refine .tup ?_ (KeyVs.off h1 h2 ks _ hs)
      rcases s with (s | ⟨o, s⟩) | s
      · exact .inl (.inl (by rw [upd_ne (fun z => h1 _ (z ▸ s))]; exact s))
      · exact .inl (.inr ⟨o, by rw [upd_ne (fun z => h2 _ _ (z ▸ s))]; exact s⟩)
      · exact .inr s
  | .none, _, h => by cases h with | atom q => exact .atom q
  | .num _, _, h => by cases h with | atom q => exact .atom q
  | .text _, _, h => by cases h with | atom q => exact .atom q
theorem KeyVs.off {K : PySem.W.Frag} {H : Hp} {l : Addr} {u : HO} (h1 : ∀ xs, H l ≠ some (.tup xs)) (h2 : ∀ o xs, H l ≠ some (.frz o (.tup xs))) : ∀ (ks : List MD.NK) (vs : List V), MD.KeyVs K H vs ks → MD.KeyVs K (upd H l u) vs ks
  | [], _, h => by cases h; exact .nil
  | k :: ks, _, h => by cases h with | cons q r => exact .cons (KeyV.off h1 h2 k _ q) (KeyVs.off h1 h2 ks _ r)
end
theorem KeysV.off {K : PySem.W.Frag} {H : Hp} {l : Addr} {u : HO} {kvs : List MD.Row} (h : KeysV K H kvs) (h1 : ∀ xs, H l ≠ some (.tup xs)) (h2 : ∀ o xs, H l ≠ some (.frz o (.tup xs))) : KeysV K (upd H l u) kvs := fun p m => ⟨KeyV.off h1 h2 _ _ (h p m).1, (h p m).2⟩
/-- the lists of places that are gathered -/
def Gath (K : PySem.W.Frag) (w : World) (H0 H : Hp) (D : Addr) (n : Nat) : Prop := Same H0 H ∧ H0 D = none ∧ ∃ kvs : List MD.Row, H D = some (dM w D kvs) ∧ kvs.length ≤ n ∧ KeysV K H kvs ∧ ∀ r ∈ kvs, ∃ (l : Addr) (ys : List V), r.2.2 = .ref l ∧ H0 l = none ∧ H l = some (.lst ys) ∧ ys.length ≤ n
theorem back_none {H H' : Hp} {a : Addr} (s : Same H H') (n : H' a = none) : H a = none := by
  cases z : H a with
  | none => rfl
  | some o => rw [s _ _ z] at n; cases n
theorem Gath.ext {K : PySem.W.Frag} {w : World} {H0 H H' : Hp} {D : Addr} {n m : Nat} (g : Gath K w H0 H D n) (s : Same H H') (le : n ≤ m) : Gath K w H0 H' D m := by
  obtain ⟨a, b, kvs, c, d, e, f⟩ := g
  refine ⟨a.trans s, b, kvs, s _ _ c, Nat.le_trans d le, e.same s, fun r hr => ?_⟩
  obtain ⟨l, ys, h1, h2, h3, h4⟩ := f r hr
  exact ⟨l, ys, h1, h2, s _ _ h3, Nat.le_trans h4 le⟩
theorem Gath.app {K : PySem.W.Frag} {w : World} {H0 H : Hp} {D l : Addr} {n : Nat} {ys : List V} {x : V} (g : Gath K w H0 H D n) (nl : H0 l = none) (hl : H l = some (.lst ys)) (le : ys.length ≤ n) : Gath K w H0 (upd H l (.lst (ys ++ [x]))) D (n + 1) := by
  obtain ⟨a, b, kvs, c, d, e, f⟩ := g
  have ne : D ≠ l := fun z => by rw [z, hl] at c; cases c
  refine ⟨fun q o z => by rw [upd_ne (ne_of_none z nl)]; exact a q o z, b, kvs, by rw [upd_ne ne]; exact c, Nat.le_succ_of_le d, KeysV.off e (fun xs z => by rw [hl] at z; cases z) (fun o xs z => by rw [hl] at z; cases z), fun r hr => ?_⟩
  obtain ⟨m, zs, h1, h2, h3, h4⟩ := f r hr
  by_cases q : m = l
  · subst q
    refine ⟨m, ys ++ [x], h1, h2, upd_same, ?_⟩
    rw [List.length_append]
    exact Nat.succ_le_succ le
  · exact ⟨m, zs, h1, h2, by rw [upd_ne q]; exact h3, Nat.le_succ_of_le h4⟩
theorem Gath.new {K : PySem.W.Frag} {w : World} {H0 H : Hp} {D l q : Addr} {n : Nat} {k : MD.NK} {kvs : List MD.Row} (g : Same H0 H ∧ H0 D = none) (c : H D = some (dM w D kvs)) (d : kvs.length ≤ n) (e : KeysV K H kvs) (f : ∀ r ∈ kvs, ∃ (l : Addr) (ys : List V), r.2.2 = .ref l ∧ H0 l = none ∧ H l = some (.lst ys) ∧ ys.length ≤ n)
    (kq : KeyV K H (.ref q) k) (dk : k.depth ≤ 8) (nl : H0 l = none) (hl : H l = some (.lst [])) : Gath K w H0 (upd H D (dM w D (kvs ++ [(k, .ref q, .ref l)]))) D (n + 1) := by
  have n1 : ∀ xs, H D ≠ some (.tup xs) := fun xs z => by rw [c] at z; cases z
  have n2 : ∀ o xs, H D ≠ some (.frz o (.tup xs)) := fun o xs z => by rw [c] at z; cases z
  refine ⟨fun b o z => by rw [upd_ne (ne_of_none z g.2)]; exact g.1 b o z, g.2, _, upd_same, by rw [List.length_append]; exact Nat.succ_le_succ d, fun r hr => ?_, fun r hr => ?_⟩
  · rcases List.mem_append.mp hr with z | z
    · exact KeysV.off e n1 n2 r z
    · rw [List.mem_singleton.mp z]
      exact ⟨KeyV.off n1 n2 _ _ kq, dk⟩
  · have off : ∀ {m : Addr} {zs : List V}, H m = some (.lst zs) → (upd H D (dM w D (kvs ++ [(k, .ref q, .ref l)]))) m = some (.lst zs) := fun {m zs} z => by
      rw [upd_ne (fun y => by rw [y, c] at z; cases z)]; exact z
    rcases List.mem_append.mp hr with z | z
    · obtain ⟨m, zs, h1, h2, h3, h4⟩ := f r z
      exact ⟨m, zs, h1, h2, off h3, Nat.le_succ_of_le h4⟩
    · rw [List.mem_singleton.mp z]
      exact ⟨l, [], rfl, nl, off hl, Nat.zero_le _⟩
theorem look_any {rows : List MD.Row} {k : MD.NK} {P : V → Prop} {d : V} (h : ∀ r ∈ rows, P r.2.2) (hd : P d) : P ((MD.look rows k).getD d) := by
  unfold MD.look
  cases e : rows.find? (fun x => decide (x.1 = k)) with
  | none => exact hd
  | some r => exact h r (List.mem_of_find?_eq_some e)
section
variable {P : Program} {w : World} {K : PySem.W.Frag} {mg : Str → Option Value} {base : Heap} {f : Addr} {fd : FuncData}
theorem ok_origins {k : Nat} (F : FnP K "origins_of" iOrigins f fd) (menum : mg "enumerate" = none) (ms : ∃ t, mg "SIGNS" = some (.str allSigns t)) : FnOk P w K mg base CX0 (k + 1) f fd ["look"] (spOrigins K w) := by
  refine F.ok scOrigins (fun vs H Q E h => ?_) (fun cdv A outer s H vs Q E hr h => ?_)
  · obtain ⟨p, xs, rfl, _⟩ := h
    rfl
  · obtain ⟨p, xs, rfl, hT, l3, ats, q⟩ := h
    obtain ⟨tk, ms⟩ := ms
    refine ⟨_, PSs.nox (pss_cons (ps_set (i := 1) scOrigins.nd rfl (.inl rfl) MD.pe_mnew)
      (C8.pss_cut (ps_for PassesOwn.never rfl (ET.pi_enumT (by rfl) menum (pa_cons (pv 0) pa_nil)) (pg_tup rfl (pgs_cons (pg_name (i := 2) scOrigins.nd rfl (.inl rfl)) (pgs_cons (pg_tup rfl (pgs_cons (pg_name (i := 3) scOrigins.nd rfl (.inl rfl)) (pgs_cons (pg_name (i := 4) scOrigins.nd rfl (.inl rfl)) pgs_nil))) pgs_nil)))
        (pss_one (ps_for PassesOwn.never rfl (pi_str (pe_glob (v := .str allSigns) (by rfl) ms ⟨tk, rfl⟩)) (pg_name (i := 5) scOrigins.nd rfl (.inl rfl))
          (pss_one (ps_expr (pe_bm PySem.F.plainAttrs_list PySem.F.slot_list_append PySem.F.type_list_append mt_append
            (MD.pe_msetd hr.units (pv 1) (pe_tup (pa_cons (pv 5) (pa_cons (MD.pe_mget2 hr.units (pv 3) (pv 5) (pv 4) ⟨rfl, rfl, rfl, rfl⟩) pa_nil))) (pe_lst pa_nil) ⟨rfl, rfl, rfl, rfl⟩) (pa_cons (pv 2) pa_nil)))))))
      (pss_one (ps_ret (pv 1))))), ?_⟩
    refine fun D nD => ?_
    refine ⟨fun σ' H' => ∃ x2 x3 x4 x5, σ' = [some (.ref p), some (.ref D), x2, x3, x4, x5] ∧ ∃ n, Gath K w H H' D n, ?_, ?_⟩
    · refine ⟨_, rfl, p, xs, rfl, ?_, for_it ET.walk_enumT (fun i σ' H' => ∃ x2 x3 x4 x5, σ' = [some (.ref p), some (.ref D), x2, x3, x4, x5] ∧ Gath K w H H' D (30 * i)) ⟨none, none, none, none, rfl, same_upd nD, nD, [], upd_same, Nat.zero_le _, fun _ m => absurd m List.not_mem_nil, fun _ m => absurd m List.not_mem_nil⟩ (fun i σ' H' _ z => ?_) (fun i x σ' H' H'' lt' z y => ?_) (fun σ' H' z => ?_)⟩
      · exact same_tup (same_upd nD) hT
      · obtain ⟨_, _, _, _, _, g⟩ := z
        exact same_tup g.1 hT
      · obtain ⟨x2, x3, x4, x5, rfl, g⟩ := z
        obtain ⟨T, y, rfl, nT, rfl, hx⟩ := y
        obtain ⟨T2, d, o, rows, rfl, hT2, hd, hks, hn⟩ := ats y (List.mem_of_getElem? hx)
        have g1 : Gath K w H (upd H' T (.tup [.int (i : Nat), .ref T2])) D (30 * i) := by
          obtain ⟨s1, nD1, kvs, e1, l1, ks1, v1⟩ := g
          have up := same_upd (o := .tup [.int (i : Nat), .ref T2]) nT
          refine ⟨s1.trans up, nD1, kvs, up _ _ e1, l1, ks1.same up, fun r m => ?_⟩
          obtain ⟨l, ys, a1, a2, a3, a4⟩ := v1 r m
          exact ⟨l, ys, a1, a2, up _ _ a3, a4⟩
        have s0 := g.1
        have s1 := g1.1
        refine ⟨T, _, rfl, .inl (.inl upd_same), rfl, _, _, rfl, _, _, rfl, T2, _, rfl, same_tup s1 hT2, rfl, _, _, rfl, _, _, rfl, rfl, rfl, ?_⟩
        refine ⟨allSigns, rfl, for_it walk_str (fun j σ' H' => ∃ x5, σ' = [some (.ref p), some (.ref D), some (.int (i : Nat)), some (.ref d), some (.int o), x5] ∧ Gath K w H H' D (30 * i + 2 * j)) ⟨x5, rfl, g1⟩ (fun _ _ _ _ _ => True.intro) (fun j x σ' H' H'' lt z y => ?_) (fun σ' H' z => ?_)⟩
        · obtain ⟨x5, rfl, s2, nD2, kvs, e2, l2, ks2, v2⟩ := z
          obtain ⟨rfl, c, hc, rfl⟩ := y
          have i3 : i < 3 := Nat.lt_of_lt_of_le lt' l3
          have j15 : j < 15 := by
            have : j < allSigns.cps.size := lt
            exact this
          have sl : sizeLine = 16777216 := sizeLine_eq
          refine ⟨_, rfl, D, rfl, ⟨kvs, e2⟩, ?_⟩
          obtain ⟨m, hm⟩ : ∃ m : Int, (MD.look rows (.text ⟨#[c]⟩)).getD (.int o) = .int m := look_any (P := fun v => ∃ m : Int, v = .int m) hn ⟨o, rfl⟩
          refine ⟨_, rfl, _, rfl, d, rfl, ⟨rows, s2 _ _ hd⟩, _, rfl, _, rfl, .text ⟨#[c]⟩, rows, s2 _ _ hd, hks.same s2, .atom rfl, (by show 0 ≤ 8; decide), ?_⟩
          rw [hm]
          refine ⟨by show 2 ≤ sizeLine; omega, fun q nq => ?_⟩
          refine ⟨by show 0 ≤ sizeLine; omega, fun l nl => ?_⟩
          have u1 : Same H'' (upd H'' q (.tup [.str ⟨#[c]⟩, .int m])) := same_upd nq
          have u2 : Same (upd H'' q (.tup [.str ⟨#[c]⟩, .int m])) (upd (upd H'' q (.tup [.str ⟨#[c]⟩, .int m])) l (.lst [])) := same_upd nl
          have u3 := u1.trans u2
          refine ⟨.tup [.text ⟨#[c]⟩, .num m], kvs, u3 _ _ e2, ks2.same u3, .tup (.inl (.inl (u2 _ _ upd_same))) (.cons (.atom rfl) (.cons (.atom rfl) .nil)), (by show 1 ≤ 8; decide), by omega, fun v hv => ?_, fun hv => ?_⟩
          · have g3 : Gath K w H (upd (upd H'' q (.tup [.str ⟨#[c]⟩, .int m])) l (.lst [])) D (30 * i + 2 * j) := Gath.ext ⟨s2, nD2, kvs, e2, l2, ks2, v2⟩ u3 (Nat.le_refl _)
            unfold MD.look at hv
            obtain ⟨r, hr2, rfl⟩ := Option.map_eq_some_iff.mp hv
            obtain ⟨l', ys, a1, a2, a3, a4⟩ := v2 r (List.mem_of_find?_eq_some hr2)
            rw [a1]
            refine ⟨.inl ⟨rfl, _, SqL.of (u3 _ _ a3)⟩, _, rfl, l', ys, .int (i : Nat), rfl, rfl, u3 _ _ a3, by omega, ⟨_, rfl, ?_⟩⟩
            exact (g3.app a2 (u3 _ _ a3) a4).ext (fun _ _ z => z) (by omega)
          · have nl0 : H l = none := back_none (s2.trans u1) nl
            have hl : (upd (upd H'' q (.tup [.str ⟨#[c]⟩, .int m])) l (.lst [])) l = some (.lst []) := upd_same
            have g4 := Gath.new (k := .tup [.text ⟨#[c]⟩, .num m]) (q := q) ⟨s2.trans u3, nD2⟩ (u3 _ _ e2) l2 (ks2.same u3) (fun r hr => by
              obtain ⟨l', ys, a1, a2, a3, a4⟩ := v2 r hr
              exact ⟨l', ys, a1, a2, u3 _ _ a3, a4⟩) (.tup (.inl (.inl (u2 _ _ upd_same))) (.cons (.atom rfl) (.cons (.atom rfl) .nil))) (by show 1 ≤ 8; decide) nl0 hl
            have lD : l ≠ D := fun z => by
              have := (s2.trans u1)
              rw [z] at nl
              rw [u1 _ _ e2] at nl
              cases nl
            have hl2 : (upd (upd (upd H'' q (.tup [.str ⟨#[c]⟩, .int m])) l (.lst [])) D (dM w D (kvs ++ [(.tup [.text ⟨#[c]⟩, .num m], .ref q, .ref l)]))) l = some (.lst []) := by rw [upd_ne lD]; exact hl
            refine ⟨.inl ⟨rfl, _, SqL.of hl2⟩, _, rfl, l, [], .int (i : Nat), rfl, rfl, hl2, by show 0 < sizeLine; omega, ⟨_, rfl, ?_⟩⟩
            exact (g4.app nl0 hl2 (Nat.zero_le _)).ext (fun _ _ z => z) (by omega)
        · obtain ⟨x5, rfl, g2⟩ := z
          exact ⟨_, _, _, _, rfl, g2.ext (fun _ _ z => z) (by
            have : allSigns.cps.size = 15 := rfl
            omega)⟩
      · obtain ⟨x2, x3, x4, x5, rfl, g⟩ := z
        exact ⟨_, _, _, _, rfl, _, g⟩
    · rintro σ' H' ⟨x2, x3, x4, x5, rfl, n, g⟩
      exact ⟨_, rfl, q H' D g.1⟩
end
end K0
end
/-! ### A2b -/
section
set_option Elab.async false
set_option linter.all false
set_option maxRecDepth 100000
set_option maxHeartbeats 4000000
/-! is_number, is_sign (k01's, other places of the top). -/
namespace K0
open PySem PySem.Spec PyProof.Rows L2
theorem scNum : FnScope ["value", "low", "high"] ["value", "low", "high"] (defScope (top iNum)) := ⟨rfl, rfl, rfl, by decide +kernel, rfl, by decide +kernel, by decide +kernel⟩
theorem scSign : FnScope ["value"] ["value"] (defScope (top iSign)) := ⟨rfl, rfl, rfl, by decide +kernel, rfl, by decide +kernel, by decide +kernel⟩
section
variable {P : Program} {w : World} {K : PySem.W.Frag} {mg : Str → Option Value} {base : Heap} {f : Addr} {fd : FuncData}
theorem ok_num {k : Nat} (F : FnP K "is_number" iNum f fd) (misi : mg "isinstance" = none) (mint : mg "int" = none) (mbool : mg "bool" = none) : FnOk P w K mg base CX0 (k + 1) f fd ["value", "low", "high"] (spNum K) := by
  refine F.ok scNum (fun vs H Q E h => ?_) (fun cdv A outer s H vs Q E hr h => ?_)
  · obtain ⟨v, d, lo, hi, rfl, _⟩ := h
    rfl
  · obtain ⟨v, d, lo, hi, rfl, hd, q⟩ := h
    refine ⟨_, PSs.nox (pss_one (ps_ret (pe_and (pe_callB call_isi (by rfl) misi boot_isinstance (pa_cons (pv 0) (pa_cons (pe_bltn (v := .ty "int") (by rfl) mint (by decide +kernel) rfl) pa_nil))) (pe_and (pe_not (pe_callB call_isi (by rfl) misi boot_isinstance (pa_cons (pv 0) (pa_cons (pe_bltn (v := .ty "bool") (by rfl) mbool (by decide +kernel) rfl) pa_nil))))
      (pe_one (pe_chain op_le op_le (pv 1) (pv 0) (pv 2))))))), ?_⟩
    refine ⟨_, rfl, v, _, _, _, _, rfl, .ty _, hd.ty, kit_int d, _, rfl, ite2 (fun e => ?_) (fun e => ?_)⟩
    · refine ⟨_, rfl, v, _, _, _, _, rfl, .ty _, hd.ty, kit_bool d, _, rfl, _, rfl, ite2 (fun e2 => ?_) (fun e2 => ?_)⟩
      · cases hd with
        | int i =>
          refine ⟨_, rfl, _, rfl, _, _, rfl, rfl, _, rfl, ite2 (fun e3 => ?_) (fun e3 => ?_)⟩
          · refine ⟨_, rfl, _, _, rfl, rfl, ?_⟩
            have y : isNumD lo hi (.int i) = decide (i ≤ hi) := by
              show (decide (lo ≤ i) && decide (i ≤ hi)) = _
              rw [e3, Bool.true_and]
            rw [y] at q
            exact q
          · have y : isNumD lo hi (.int i) = false := by
              show (decide (lo ≤ i) && decide (i ≤ hi)) = _
              rw [Bool.eq_false_iff.mpr e3, Bool.false_and]
            rw [y] at q
            exact q
        | bl b => exact absurd (show (false = true) from e2) Bool.false_ne_true
        | _ => cases e
      · cases hd with
        | bl b => exact q
        | _ => first | exact absurd rfl e2 | cases e
    · cases hd with
      | int i => exact absurd rfl e
      | _ => exact q
theorem ok_sign {k : Nat} (F : FnP K "is_sign" iSign f fd) (misi : mg "isinstance" = none) (mstr : mg "str" = none) (mlen : mg "len" = none) (ms : ∃ t, mg "SIGNS" = some (.str allSigns t)) : FnOk P w K mg base CX0 (k + 1) f fd ["value"] (spD K isSignD) := by
  refine F.ok scSign (fun vs H Q E h => ?_) (fun cdv A outer s H vs Q E hr h => ?_)
  · obtain ⟨v, d, rfl, _⟩ := h
    rfl
  · obtain ⟨v, d, rfl, hd, sz, q⟩ := h
    obtain ⟨t, ms⟩ := ms
    refine ⟨_, PSs.nox (pss_one (ps_ret (pe_and (pe_callB call_isi (by rfl) misi boot_isinstance (pa_cons (pv 0) (pa_cons (pe_bltn (v := .ty "str") (by rfl) mstr (by decide +kernel) rfl) pa_nil))) (pe_and (pe_cmpR op_eq (pe_callB call_len (by rfl) mlen PySem.boot_len (pa_cons (pv 0) pa_nil)) pe_int (nomark _))
      (pe_one (pe_cmpR op_inS (pv 0) (pe_glob (v := .str allSigns) (by rfl) ms ⟨t, rfl⟩) (by rfl))))))), ?_⟩
    refine ⟨_, rfl, v, _, _, _, _, rfl, .ty _, hd.ty, kit_str d, _, rfl, ite2 (fun e => ?_) (fun e => ?_)⟩
    · obtain ⟨z, rfl, rfl⟩ := is_str hd e
      refine ⟨_, rfl, _, z.length, rfl, ⟨Nat.le_of_lt (small5 sz), rfl⟩, rfl, _, rfl, ite2 (fun e2 => ?_) (fun e2 => ?_)⟩
      · have z1 : z.length = 1 := by
          have y := of_decide_eq_true e2
          injection y with y
          omega
        obtain ⟨c, rfl⟩ := one_cp z1
        refine ⟨_, rfl, c, allSigns, rfl, rfl, ?_⟩
        have y : isSignD (.str ⟨#[c]⟩) = decide (c ∈ allSigns.cps.toList) := by
          show (decide ((1 : Nat) = 1) && ([c].all fun c => allSigns.cps.contains c)) = _
          rw [← sg_mem]
          simp
        rw [← y]
        exact q H (Same.refl H)
      · have y : isSignD (.str z) = false := by
          have z1 : z.length ≠ 1 := fun x => e2 (decide_eq_true (by rw [x]; rfl))
          show (decide (z.length = 1) && sgAll z) = false
          rw [decide_eq_false z1, Bool.false_and]
        have q2 := q H (Same.refl H)
        rw [y] at q2
        exact q2
    · have q2 := q H (Same.refl H)
      rw [(not_str e).2] at q2
      exact q2
end
end K0
end
/-! ### DW -/
section
set_option Elab.async false
set_option linter.all false
set_option maxRecDepth 100000
set_option maxHeartbeats 4000000
/-! The parts of a cleaner by their data: states, rows of moves, what is a good part. -/
namespace K0
open PySem PySem.Spec PyProof.Rows L2
open MD (dM KeysV KeyV rIsiM call_isiM)
/-- isinstance(v, n) is b -/
def Ist (K : PySem.W.Frag) (w : World) (H : Hp) (v : V) (n : String) (b : Bool) : Prop :=
  (∃ d, Dv K H v d ∧ PySem.W.kitOne K (.type (dty d)) (.type n) = some b) ∨ (∃ a rows, v = .ref a ∧ H a = some (dM w a rows) ∧ PySem.W.kitOne K (.type "dict") (.type n) = some b) ∨
  (∃ a xs, v = .ref a ∧ SqT K H a xs ∧ PySem.W.kitOne K (.type "tuple") (.type n) = some b) ∨ (∃ a xs, v = .ref a ∧ SqL K H a xs ∧ PySem.W.kitOne K (.type "list") (.type n) = some b)
section
variable {K : PySem.W.Frag} {w : World} {H H' : Hp} {v : V} {n : String} {b : Bool}
theorem Ist.same (h : Ist K w H v n b) (e : Same H H') : Ist K w H' v n b := by
  rcases h with ⟨d, h, k⟩ | ⟨a, rows, rfl, h, k⟩ | ⟨a, xs, rfl, h, k⟩ | ⟨a, xs, rfl, h, k⟩
  · exact .inl ⟨d, h.same' e, k⟩
  · exact .inr (.inl ⟨a, rows, rfl, e _ _ h, k⟩)
  · exact .inr (.inr (.inl ⟨a, xs, rfl, same_tup e h, k⟩))
  · exact .inr (.inr (.inr ⟨a, xs, rfl, e.seq h, k⟩))
theorem sqt_ty {a : Addr} {xs : List V} (h1 : SqT K H a xs) : TyX K H (.ref a) (.type "tuple") := by
  rcases h1 with (h1 | ⟨o, h1⟩) | ⟨o, its, n, h1, c, _⟩
  · exact .base (.tup h1)
  · exact .fTuple h1
  · exact .kTuple h1 c
theorem sql_ty {a : Addr} {xs : List V} (h1 : SqL K H a xs) : TyX K H (.ref a) (.type "list") := by
  rcases h1 with (h1 | ⟨o, h1⟩) | ⟨o, its, n, h1, c, _⟩
  · exact .base (.lst h1)
  · exact .base (.frz h1)
  · exact .kList h1 c
theorem Ist.rd {Q : VK} (h : Ist K w H v n b) (q : Q (.bl b) H) : rIsiM K w [v, .ty n] H Q := by
  rcases h with ⟨d, h, k⟩ | ⟨a, rows, rfl, h, k⟩ | ⟨a, xs, rfl, h, k⟩ | ⟨a, xs, rfl, h, k⟩
  · exact .inl ⟨v, .ty n, _, _, b, rfl, .ty n, h.ty, k, q⟩
  · exact .inr ⟨a, rows, n, b, rfl, .inl h, k, q⟩
  · exact .inl ⟨_, .ty n, _, _, b, rfl, .ty n, sqt_ty h, k, q⟩
  · exact .inl ⟨_, .ty n, _, _, b, rfl, .ty n, sql_ty h, k, q⟩
theorem ist_dv {d : PyData} (h : Dv K H v d) (k : PySem.W.kitOne K (.type (dty d)) (.type n) = some b) : Ist K w H v n b := .inl ⟨d, h, k⟩
theorem ist_tup {a : Addr} {xs : List V} (h : SqT K H a xs) : Ist K w H (.ref a) "tuple" true := .inr (.inr (.inl ⟨a, xs, rfl, h, kit_ty (by decide +kernel)⟩))
theorem ist_tupd {a : Addr} {xs : List V} (h : SqT K H a xs) : Ist K w H (.ref a) "dict" false := .inr (.inr (.inl ⟨a, xs, rfl, h, kit_ty (by decide +kernel)⟩))
theorem ist_lst {a : Addr} {xs : List V} (h : SqL K H a xs) : Ist K w H (.ref a) "tuple" false := .inr (.inr (.inr ⟨a, xs, rfl, h, kit_ty (by decide +kernel)⟩))
theorem ist_lstd {a : Addr} {xs : List V} (h : SqL K H a xs) : Ist K w H (.ref a) "dict" false := .inr (.inr (.inr ⟨a, xs, rfl, h, kit_ty (by decide +kernel)⟩))
theorem ist_md {a : Addr} {rows : List MD.Row} (h : H a = some (dM w a rows)) : Ist K w H (.ref a) "dict" true := .inr (.inl ⟨a, rows, rfl, h, kit_ty (by decide +kernel)⟩)
theorem ist_mdt {a : Addr} {rows : List MD.Row} (h : H a = some (dM w a rows)) : Ist K w H (.ref a) "tuple" false := .inr (.inl ⟨a, rows, rfl, h, kit_ty (by decide +kernel)⟩)
end
/-- a row of moves with the data of its key and its value -/
abbrev RX := MD.Row × PyData × PyData
structure RowsX (K : PySem.W.Frag) (H : Hp) (rs : List RX) : Prop where
  ks : KeysV K H (rs.map (·.1))
  nd : ((rs.map (·.1)).map (·.1)).Nodup
  few : rs.length ≤ 1000
  dat : ∀ r ∈ rs, Dv K H r.1.2.1 r.2.1 ∧ Dv K H r.1.2.2 r.2.2
  small : ∀ r ∈ rs, r.2.1.bulk ≤ 1000 ∧ r.2.2.bulk ≤ 10000 ∧ Fit r.2.1
theorem RowsX.same {K : PySem.W.Frag} {H H' : Hp} {rs : List RX} (h : RowsX K H rs) (e : Same H H') : RowsX K H' rs :=
  ⟨h.ks.same e, h.nd, h.few, fun r m => ⟨(h.dat r m).1.same' e, (h.dat r m).2.same' e⟩, h.small⟩
inductive StD
  | bad
  | good (rs : List RX) (ys : List V) (ds : List PyData)
def StX (K : PySem.W.Frag) (w : World) (H : Hp) (n : Nat) (v : V) : StD → Prop
  | .bad => Ist K w H v "tuple" false ∨ ∃ a xs, v = .ref a ∧ SqT K H a xs ∧ (xs.length ≠ n ∨ ∃ x r, xs = x :: r ∧ Ist K w H x "dict" false)
  | .good rs ys ds => ∃ a m, v = .ref a ∧ SqT K H a (.ref m :: ys) ∧ DvAll K H ys ds ∧ ds.length + 1 = n ∧ H m = some (dM w m (rs.map (·.1))) ∧ RowsX K H rs ∧ ∀ d ∈ ds, d.bulk ≤ 1000
theorem StX.same {K : PySem.W.Frag} {w : World} {H H' : Hp} {n : Nat} {v : V} : ∀ {d : StD}, StX K w H n v d → Same H H' → StX K w H' n v d
  | .bad, h, e => by
    rcases h with h | ⟨a, xs, rfl, h, z | ⟨x, r, z, h2⟩⟩
    · exact .inl (h.same e)
    · exact .inr ⟨a, xs, rfl, same_tup e h, .inl z⟩
    · exact .inr ⟨a, xs, rfl, same_tup e h, .inr ⟨x, r, z, h2.same e⟩⟩
  | .good rs ys ds, h, e => by
    obtain ⟨a, m, rfl, h1, h2, h3, h4, h5, h6⟩ := h
    exact ⟨a, m, rfl, same_tup e h1, DvAll.same e _ _ h2, h3, e _ _ h4, h5.same e, h6⟩
inductive WhD
  | bad
  | sts (ss : List StD)
def WhX (K : PySem.W.Frag) (w : World) (H : Hp) (n : Nat) (v : V) : WhD → Prop
  | .bad => Ist K w H v "tuple" false
  | .sts ss => ∃ a xs, v = .ref a ∧ SqT K H a xs ∧ Paired (StX K w H n) xs ss ∧ xs.length ≤ 1000
theorem pairedI2 {α β : Type} {R S : α → β → Prop} (f : ∀ a b, R a b → S a b) : ∀ {xs : List α} {ys : List β}, Paired R xs ys → Paired S xs ys
  | _, _, .nil => .nil
  | _, _, .cons h t => .cons (f _ _ h) (pairedI2 f t)
theorem WhX.same {K : PySem.W.Frag} {w : World} {H H' : Hp} {n : Nat} {v : V} : ∀ {d : WhD}, WhX K w H n v d → Same H H' → WhX K w H' n v d
  | .bad, h, e => Ist.same h e
  | .sts ss, h, e => by
    obtain ⟨a, xs, rfl, h1, h2, h3⟩ := h
    exact ⟨a, xs, rfl, same_tup e h1, pairedI2 (fun _ _ z => z.same e) h2, h3⟩
/-! ### good parts -/
def isWrittenD : PyData → Bool
  | .str z => sgAll z && decide (z.length ≤ 2)
  | _ => false
def isViewD (n : Int) : PyData → Bool
  | .none => true
  | d => isNumD 0 (n - 1) d
def isSeenD (n : Int) : PyData → Bool
  | .tuple [s, v] => isSignD s && isViewD n v
  | _ => false
def isMoveD (m : Int) : PyData → Bool
  | .tuple [t, s] => isWrittenD t && isNumD 0 (m - 1) s
  | _ => false
def wStD (many views : Int) : StD → Bool
  | .good rs _ [o, l] => isNumD 0 (many - 1) o && isWrittenD l && rs.all fun r => isSeenD views r.2.1 && isMoveD many r.2.2
  | _ => false
def lStD (many : Int) : StD → Bool
  | .good rs _ [o] => isNumD 0 (many - 1) o && rs.all fun r => isSignD r.2.1 && isNumD 0 (many - 1) r.2.2
  | _ => false
def writerD (views : Int) : WhD → Bool
  | .sts ss => decide (0 < ss.length) && decide (ss.length ≤ 4) && ss.all (wStD ss.length views)
  | _ => false
def lookD : WhD → Bool
  | .sts ss => decide (0 < ss.length) && decide (ss.length ≤ 3) && ss.all (lStD ss.length)
  | _ => false
def firstsD (views many : Int) : PyData → Bool
  | .tuple ds => decide ((ds.length : Int) = views) && ds.all (isViewD many)
  | _ => false
def lenD : WhD → Int
  | .sts ss => ss.length
  | _ => 0
def partsD (wr lk : WhD) (fi : PyData) : Bool := lookD lk && writerD (lenD lk) wr && firstsD (lenD lk) (lenD wr) fi
end K0
end
/-! ### DP1 -/
section
set_option Elab.async false
set_option linter.all false
set_option maxRecDepth 100000
set_option maxHeartbeats 4000000
/-! is_written, is_seen_sign, is_move. -/
namespace K0
open PySem PySem.Spec PyProof.Rows L2
def Lim (K : PySem.W.Frag) (H : Hp) (L : Addr) : Prop := SqT K H L [.int 3, .int 4, .int 2]
theorem cF {b : Bool} (h : ¬ b = true) : b = false := by cases b <;> first | rfl | exact absurd rfl h
theorem nF {b : Bool} (h : (!b) = true) : b = false := by cases b <;> first | rfl | cases h
theorem nT {b : Bool} (h : ¬ (!b) = true) : b = true := by cases b <;> first | rfl | exact absurd rfl h
theorem is_tup {K : PySem.W.Frag} {H : Hp} {v : V} {d : PyData} (hd : Dv K H v d) (h : isTupD d = true) : ∃ a xs ds, v = .ref a ∧ d = .tuple ds ∧ SqT K H a xs ∧ DvAll K H xs ds := by
  cases hd with
  | tup h1 h2 => exact ⟨_, _, _, rfl, rfl, h1, h2⟩
  | _ => cases h
theorem two {α : Type} {ds : List α} (h : ds.length = 2) : ∃ s l, ds = [s, l] := by
  match ds, h with
  | [s, l], _ => exact ⟨s, l, rfl⟩
theorem not_two {ds : List PyData} {n m : Int} (h : ds.length ≠ 2) : isSeenD n (.tuple ds) = false ∧ isMoveD m (.tuple ds) = false := by
  match ds, h with
  | [], _ => exact ⟨rfl, rfl⟩
  | [_], _ => exact ⟨rfl, rfl⟩
  | [_, _], h => exact absurd rfl h
  | _ :: _ :: _ :: _, _ => exact ⟨rfl, rfl⟩
theorem not_tupD {d : PyData} {n m : Int} (h : isTupD d = false) : isSeenD n d = false ∧ isMoveD m d = false := by
  cases d <;> first | exact ⟨rfl, rfl⟩ | cases h
theorem int_ne {n m : Nat} (h : (!decide (V.int (n : Int) = V.int (m : Int))) = true) : n ≠ m := by
  rintro rfl
  simp at h
theorem int_eq {n m : Nat} (h : ¬ (!decide (V.int (n : Int) = V.int (m : Int))) = true) : n = m := by
  by_cases z : n = m
  · exact z
  · refine absurd ?_ h
    have z2 : ¬ (V.int (n : Int) = V.int (m : Int)) := fun y => by
      injection y with y
      omega
    rw [decide_eq_false z2]
    rfl
theorem isView_nn {d : PyData} {n : Int} {K : PySem.W.Frag} {H : Hp} {v : V} (h : Dv K H v d) (hv : v ≠ .non) : isViewD n d = isNumD 0 (n - 1) d := by
  cases h <;> first | rfl | exact absurd rfl hv
theorem scWritten : FnScope ["value", "limits"] ["value", "limits"] (defScope (top iWritten)) := ⟨rfl, rfl, rfl, by decide +kernel, rfl, by decide +kernel, by decide +kernel⟩
theorem scSeen : FnScope ["value", "views", "sign", "view"] ["value", "views"] (defScope (top iSeen)) := ⟨rfl, rfl, rfl, by decide +kernel, rfl, by decide +kernel, by decide +kernel⟩
theorem scMove : FnScope ["value", "many", "limits", "text", "state"] ["value", "many", "limits"] (defScope (top iIsMove)) := ⟨rfl, rfl, rfl, by decide +kernel, rfl, by decide +kernel, by decide +kernel⟩
def spWritten (K : PySem.W.Frag) : Sp := fun vs H Q _ => ∃ (v : V) (d : PyData) (L : Addr), vs = [v, .ref L] ∧ Lim K H L ∧ Dv K H v d ∧ d.bulk ≤ 100000 ∧ ∀ H', Same H H' → Q (.bl (isWrittenD d)) H'
def spSeen (K : PySem.W.Frag) : Sp := fun vs H Q _ => ∃ (v : V) (d : PyData) (n : Int), vs = [v, .int n] ∧ Dv K H v d ∧ d.bulk ≤ 100000 ∧ ∀ H', Same H H' → Q (.bl (isSeenD n d)) H'
def spMove (K : PySem.W.Frag) : Sp := fun vs H Q _ => ∃ (v : V) (d : PyData) (m : Int) (L : Addr), vs = [v, .int m, .ref L] ∧ Lim K H L ∧ Dv K H v d ∧ d.bulk ≤ 100000 ∧ ∀ H', Same H H' → Q (.bl (isMoveD m d)) H'
section
variable {P : Program} {w : World} {K : PySem.W.Frag} {mg : Str → Option Value} {base : Heap} {f fT fS fN fW : Addr} {fd fdT fdS fdN fdW : FuncData}
theorem ok_written {k : Nat} (F : FnP K "is_written" iWritten f fd) (mlen : mg "len" = none)
    (FT : FnOk P w K mg base CX0 (k + 1) fT fdT ["value"] (spD K isTextD)) (gT : mg "is_text" = some (.ref fT)) (kT : PySem.W.keepIn K (.ref fT) = true) (bT : Binds K fdT ["value"] []) :
    FnOk P w K mg base CX0 (k + 2) f fd ["value", "limits"] (spWritten K) := by
  refine F.ok scWritten (fun vs H Q E h => ?_) (fun cdv A outer s H vs Q E hr h => ?_)
  · obtain ⟨v, d, L, rfl, _⟩ := h
    rfl
  · obtain ⟨v, d, L, rfl, hL, hd, sz, q⟩ := h
    refine ⟨_, PSs.nox (pss_one (ps_ret (pe_and (pe_call FT hr (by rfl) gT kT bT .nil pass0 (pa_cons (pv 0) pa_nil)) (pe_one (pe_or (pe_cmp (pc_isN (pv 1)) rfl)
      (pe_one (pe_cmpR op_le (pe_callB call_len (by rfl) mlen PySem.boot_len (pa_cons (pv 0) pa_nil)) (pe_ix ix_tup (pv 1) pe_int (fun _ _ => rfl)) (nomark _)))))))), ?_⟩
    refine ⟨_, rfl, v, d, rfl, hd, sz, fun H1 s1 => ⟨_, rfl, ite2 (fun e => ?_) (fun e => ?_)⟩⟩
    · have q1 := q H1 s1
      cases hd with
      | str z =>
        have e : sgAll z = true := e
        rw [show isWrittenD (.str z) = decide (z.length ≤ 2) by show (sgAll z && _) = _; rw [e, Bool.true_and]] at q1
        refine ⟨_, rfl, _, rfl, ite2 (fun e2 => by cases of_decide_eq_true e2) (fun e2 => ?_)⟩
        refine ⟨_, rfl, _, z.length, rfl, ⟨Nat.le_of_lt (small5 sz), rfl⟩, _, rfl, L, _, 2, .int 2, rfl, rfl, same_tup s1 hL, rfl, _, _, rfl, rfl, ?_⟩
        rw [show decide (z.length ≤ 2) = decide ((z.length : Int) ≤ 2) from decide_eq_decide.mpr (by omega)] at q1
        exact q1
      | _ => cases e
    · have q1 := q H1 s1
      rw [show isWrittenD d = false by
        cases d with
        | str z => show (sgAll z && _) = _; rw [show sgAll z = false from cF e, Bool.false_and]
        | _ => rfl] at q1
      exact q1
theorem ok_seen {k : Nat} (F : FnP K "is_seen_sign" iSeen f fd) (misi : mg "isinstance" = none) (mtup : mg "tuple" = none) (mlen : mg "len" = none)
    (FS : FnOk P w K mg base CX0 (k + 1) fS fdS ["value"] (spD K isSignD)) (gS : mg "is_sign" = some (.ref fS)) (kS : PySem.W.keepIn K (.ref fS) = true) (bS : Binds K fdS ["value"] [])
    (FN : FnOk P w K mg base CX0 (k + 1) fN fdN ["value", "low", "high"] (spNum K)) (gN : mg "is_number" = some (.ref fN)) (kN : PySem.W.keepIn K (.ref fN) = true) (bN : Binds K fdN ["value", "low", "high"] []) :
    FnOk P w K mg base CX0 (k + 2) f fd ["value", "views"] (spSeen K) := by
  refine F.ok scSeen (fun vs H Q E h => ?_) (fun cdv A outer s H vs Q E hr h => ?_)
  · obtain ⟨v, d, n, rfl, _⟩ := h
    rfl
  · obtain ⟨v, d, n, rfl, hd, sz, q⟩ := h
    refine ⟨_, PSs.nox (pss_cons (ps_if (PW.pt (pw_or (pt_not (pt_val (pe_callB call_isi (by rfl) misi boot_isinstance (pa_cons (pv 0) (pa_cons (pe_bltn (v := .ty "tuple") (by rfl) mtup (by decide +kernel) rfl) pa_nil)))))
          (pw_or1 (pt_cmpR op_ne (pe_callB call_len_seq (by rfl) mlen PySem.boot_len (pa_cons (pv 0) pa_nil)) pe_int (nomark _))))) (pss_one (ps_ret pe_bl)) pss_nil)
      (pss_cons (ps_asg (pv 0) (pg_tup rfl (pgs_cons (pg_name (i := 2) scSeen.nd rfl (.inl rfl)) (pgs_cons (pg_name (i := 3) scSeen.nd rfl (.inl rfl)) pgs_nil))))
      (pss_one (ps_ret (pe_and (pe_call FS hr (by rfl) gS kS bS .nil pass0 (pa_cons (pv 2) pa_nil)) (pe_one (pe_or (pe_cmp (pc_isN (pv 3)) rfl)
        (pe_one (pe_call FN hr (by rfl) gN kN bN .nil pass0 (pa_cons (pv 3) (pa_cons pe_int (pa_cons (pe_op op_sub (pv 1) pe_int) pa_nil)))))))))))), ?_⟩
    refine ⟨_, rfl, v, _, _, _, _, rfl, .ty _, hd.ty, kit_tup d, _, rfl, ite2 (fun e => ?_) (fun e => ?_)⟩
    · have q2 := q H (Same.refl H)
      rw [(not_tupD (m := 0) (nF e)).1] at q2
      exact q2
    obtain ⟨a, xs, ds, rfl, rfl, hT, hA⟩ := is_tup hd (nT e)
    have sz2 : PyData.bulkAll ds ≤ 100000 := sz
    have xl := hA.length
    refine ⟨_, rfl, a, xs, rfl, .inr hT, rfl, _, rfl, ite2 (fun e3 => ?_) (fun e3 => ?_)⟩
    · have q2 := q H (Same.refl H)
      rw [(not_two (m := 0) (xl ▸ int_ne (m := 2) e3)).1] at q2
      exact q2
    obtain ⟨d1, d2, rfl⟩ := two (xl ▸ int_eq (m := 2) e3)
    cases hA with
    | cons h1 hA =>
    cases hA with
    | cons h2 hA =>
    cases hA
    rename_i v1 v2
    rw [PyData.bulkAll, PyData.bulkAll] at sz2
    refine ⟨_, rfl, a, _, rfl, hT, rfl, v1, _, rfl, v2, _, rfl, rfl, ?_⟩
    refine ⟨_, rfl, v1, d1, rfl, h1, by omega, fun H1 s1 => ⟨_, rfl, ite2 (fun e4 => ?_) (fun e4 => ?_)⟩⟩
    · have q1 := q H1 s1
      rw [show isSeenD n (.tuple [d1, d2]) = isViewD n d2 by show (isSignD d1 && _) = _; rw [e4, Bool.true_and]] at q1
      refine ⟨_, rfl, _, rfl, ite2 (fun e5 => ?_) (fun e5 => ?_)⟩
      · have e5 : v2 = .non := of_decide_eq_true e5
        subst e5
        cases h2
        exact q1
      · have e5 : v2 ≠ .non := fun y => e5 (decide_eq_true y)
        rw [isView_nn h2 e5] at q1
        exact ⟨_, rfl, _, rfl, _, _, rfl, rfl, v2, d2, 0, n - 1, rfl, h2.same' s1, q1⟩
    · have q1 := q H1 s1
      rw [show isSeenD n (.tuple [d1, d2]) = false by show (isSignD d1 && _) = _; rw [cF e4, Bool.false_and]] at q1
      exact q1
theorem ok_move {k : Nat} (F : FnP K "is_move" iIsMove f fd) (misi : mg "isinstance" = none) (mtup : mg "tuple" = none) (mlen : mg "len" = none)
    (FW : FnOk P w K mg base CX0 (k + 2) fW fdW ["value", "limits"] (spWritten K)) (gW : mg "is_written" = some (.ref fW)) (kW : PySem.W.keepIn K (.ref fW) = true) (bW : Binds K fdW ["value", "limits"] [])
    (FN : FnOk P w K mg base CX0 (k + 2) fN fdN ["value", "low", "high"] (spNum K)) (gN : mg "is_number" = some (.ref fN)) (kN : PySem.W.keepIn K (.ref fN) = true) (bN : Binds K fdN ["value", "low", "high"] []) :
    FnOk P w K mg base CX0 (k + 3) f fd ["value", "many", "limits"] (spMove K) := by
  refine F.ok scMove (fun vs H Q E h => ?_) (fun cdv A outer s H vs Q E hr h => ?_)
  · obtain ⟨v, d, n, L, rfl, _⟩ := h
    rfl
  · obtain ⟨v, d, n, L, rfl, hL, hd, sz, q⟩ := h
    refine ⟨_, PSs.nox (pss_cons (ps_if (PW.pt (pw_or (pt_not (pt_val (pe_callB call_isi (by rfl) misi boot_isinstance (pa_cons (pv 0) (pa_cons (pe_bltn (v := .ty "tuple") (by rfl) mtup (by decide +kernel) rfl) pa_nil)))))
          (pw_or1 (pt_cmpR op_ne (pe_callB call_len_seq (by rfl) mlen PySem.boot_len (pa_cons (pv 0) pa_nil)) pe_int (nomark _))))) (pss_one (ps_ret pe_bl)) pss_nil)
      (pss_cons (ps_asg (pv 0) (pg_tup rfl (pgs_cons (pg_name (i := 3) scMove.nd rfl (.inl rfl)) (pgs_cons (pg_name (i := 4) scMove.nd rfl (.inl rfl)) pgs_nil))))
      (pss_one (ps_ret (pe_and (pe_call FW hr (by rfl) gW kW bW .nil pass0 (pa_cons (pv 3) (pa_cons (pv 2) pa_nil))) (pe_one (pe_call FN hr (by rfl) gN kN bN .nil pass0 (pa_cons (pv 4) (pa_cons pe_int (pa_cons (pe_op op_sub (pv 1) pe_int) pa_nil)))))))))), ?_⟩
    refine ⟨_, rfl, v, _, _, _, _, rfl, .ty _, hd.ty, kit_tup d, _, rfl, ite2 (fun e => ?_) (fun e => ?_)⟩
    · have q2 := q H (Same.refl H)
      rw [(not_tupD (n := 0) (nF e)).2] at q2
      exact q2
    obtain ⟨a, xs, ds, rfl, rfl, hT, hA⟩ := is_tup hd (nT e)
    have sz2 : PyData.bulkAll ds ≤ 100000 := sz
    have xl := hA.length
    refine ⟨_, rfl, a, xs, rfl, .inr hT, rfl, _, rfl, ite2 (fun e3 => ?_) (fun e3 => ?_)⟩
    · have q2 := q H (Same.refl H)
      rw [(not_two (n := 0) (xl ▸ int_ne (m := 2) e3)).2] at q2
      exact q2
    obtain ⟨d1, d2, rfl⟩ := two (xl ▸ int_eq (m := 2) e3)
    cases hA with
    | cons h1 hA =>
    cases hA with
    | cons h2 hA =>
    cases hA
    rename_i v1 v2
    rw [PyData.bulkAll, PyData.bulkAll] at sz2
    refine ⟨_, rfl, a, _, rfl, hT, rfl, v1, _, rfl, v2, _, rfl, rfl, ?_⟩
    refine ⟨_, rfl, _, rfl, v1, d1, L, rfl, hL, h1, by omega, fun H1 s1 => ⟨_, rfl, ite2 (fun e4 => ?_) (fun e4 => ?_)⟩⟩
    · have q1 := q H1 s1
      rw [show isMoveD n (.tuple [d1, d2]) = isNumD 0 (n - 1) d2 by show (isWrittenD d1 && _) = _; rw [e4, Bool.true_and]] at q1
      exact ⟨_, rfl, _, rfl, _, _, rfl, rfl, v2, d2, 0, n - 1, rfl, h2.same' s1, q1⟩
    · have q1 := q H1 s1
      rw [show isMoveD n (.tuple [d1, d2]) = false by show (isWrittenD d1 && _) = _; rw [cF e4, Bool.false_and]] at q1
      exact q1
end
end K0
end
/-! ### LWD -/
section
set_option Elab.async false
set_option linter.all false
set_option maxRecDepth 100000
set_option maxHeartbeats 4000000
/-! _law_word of a tuple of signs. -/
namespace K0
open PySem PySem.Spec PyProof.Rows L2
theorem sg_glued : ∀ (ws : List Str), (∀ z ∈ ws, sgAll z = true) → sgAll (Builtin.Str.glued ("" : Str) ws) = true := by
  have key : ∀ (r : List Str) (acc : Array Nat), (acc.toList.all fun c => allSigns.cps.contains c) = true → (∀ z ∈ r, sgAll z = true) → ((r.foldl (fun acc p => acc ++ ("" : Str).cps ++ p.cps) acc).toList.all fun c => allSigns.cps.contains c) = true := by
    intro r
    induction r with
    | nil => intro acc h _; exact h
    | cons y r ih =>
      intro acc h hz
      rw [List.foldl_cons]
      refine ih _ ?_ fun z m => hz z (List.mem_cons_of_mem _ m)
      rw [Array.toList_append, Array.toList_append, List.all_append, List.all_append, h]
      have := hz y List.mem_cons_self
      unfold sgAll at this
      rw [this]
      rfl
  intro ws h
  cases ws with
  | nil => decide +kernel
  | cons x r => exact key r x.cps (h x List.mem_cons_self) fun z m => h z (List.mem_cons_of_mem _ m)
theorem sg_one {c : Nat} (h : c ∈ allSigns.cps.toList) : sgAll (oneS c) = true := by
  show ([c].all fun c => allSigns.cps.contains c) = true
  rw [List.all_cons, sg_mem, decide_eq_true h]
  rfl
abbrev lwN : List Str := ["dice", "signs", "upto", "size", "turn"]
theorem scLWord : FnScope lwN ["dice", "signs", "upto"] (defScope (top iLWord)) := ⟨rfl, rfl, rfl, by decide +kernel, rfl, by decide +kernel, by decide +kernel⟩
def spLWord (K : PySem.W.Frag) : Sp := fun vs H Q _ => ∃ (p sg : Addr) (a b c : Int) (cs : List Nat), vs = [.ref p, .ref sg, .int 2] ∧ H p = some (dk a b c) ∧ SqT K (hid p H) sg (cs.map oneV) ∧ cs ≠ [] ∧ cs.length ≤ 15 ∧ (∀ c ∈ cs, c ∈ allSigns.cps.toList) ∧
  ∀ H' z, Keep p H H' → sgAll z = true → z.length ≤ 2 → Q (.str z) H'
theorem hid_keep {p : Addr} {H H' : Hp} (k : Keep p H H') : Same (hid p H) (hid p H') := hid_same k.1
section
variable {P : Program} {w : World} {K : PySem.W.Frag} {mg : Str → Option Value} {base : Heap} {f fO : Addr} {fd fdO : FuncData}
theorem ok_lword {k : Nat} (F : FnP K "_law_word" iLWord f fd) (FO : FnOk P w K mg base CX0 (k + 2) fO fdO ["dice", "items"] (spOne K)) (gO : mg "_law_one_of" = some (.ref fO)) (kO : PySem.W.keepIn K (.ref fO) = true) (bO : Binds K fdO ["dice", "items"] [])
    (mmin : mg "min" = none) (mrange : mg "range" = none) : FnOk P w K mg base CX0 (k + 3) f fd ["dice", "signs", "upto"] (spLWord K) := by
  refine F.ok scLWord (fun vs H Q E h => ?_) (fun cdv A outer s H vs Q E hr h => ?_)
  · obtain ⟨p, sg, a, b, c, cs, rfl, _⟩ := h
    rfl
  · obtain ⟨p, sg, a, b, c, cs, rfl, hp, hT, ne, cl, mem, q⟩ := h
    refine ⟨_, PSs.nox (pss_cons (ps_set (i := 3) scLWord.nd rfl (.inl rfl) (pe_callB (call_min2 rfl) (by rfl) mmin boot_min (pa_cons (pv 2) (pa_cons
        (pe_call FO hr (by rfl) gO kO bO .nil pass0 (pa_cons (pv 0) (pa_cons (pe_lst (pa_cons pe_int (pa_cons pe_int (pa_cons pe_int (pa_cons pe_int (pa_cons pe_int (pa_cons pe_int (pa_cons pe_int (pa_cons pe_int (pa_cons pe_int pa_nil)))))))))) pa_nil))) pa_nil))))
      (pss_one (ps_ret (pe_join pe_str (pe_lc (own := [("turn", 4)]) (g := gName 4) (tt := tYes) rfl scLWord.nd (pi_range1 (by rfl) mrange (pa_cons (pv 3) pa_nil)) (blkOk_by (N := lwN) (sc := defScope (top iLWord)) (by decide +kernel))
        (fun _ _ _ _ _ => pg_name (i := 4) scLWord.nd rfl (Or.inl rfl)) (fun _ _ _ _ _ => pts_nil) (fun _ _ _ _ _ => pe_call FO hr (by rfl) gO kO bO .nil pass0 (pa_cons (pv 0) (pa_cons (pv 1) pa_nil)))))))), ?_⟩
    refine ⟨_, rfl, _, rfl, by show 9 ≤ sizeLine; decide, fun l hl => ?_⟩
    have npl : p ≠ l := ne_of_none hp hl
    refine ⟨p, a, b, c, _, _, rfl, by rw [upd_ne npl]; exact hp, .inl ⟨l, rfl, .inl (.of upd_same)⟩, List.cons_ne_nil _ _, by show 9 ≤ sizeLine; decide, fun a' b' c' => .inl ⟨l, rfl, .inl (.of (by rw [upd_ne npl.symm, upd_same]))⟩, fun a1 b1 c1 i x hx => ?_⟩
    have hv : ∃ n : Int, x = .int n ∧ 0 ≤ n ∧ n ≤ 6 := by
      have hm := List.mem_of_getElem? hx
      simp only [List.mem_cons, List.not_mem_nil, or_false] at hm
      rcases hm with rfl | rfl | rfl | rfl | rfl | rfl | rfl | rfl | rfl <;> exact ⟨_, rfl, by decide, by decide⟩
    obtain ⟨n, rfl, n0, n6⟩ := hv
    have k1 : Keep p H (upd (upd H l (.lst [.int 0, .int 1, .int 1, .int 1, .int 2, .int 2, .int 3, .int 4, .int 6])) p (dk a1 b1 c1)) := (Keep.new hp hl).trans (.dice a1 b1 c1)
    refine ⟨_, _, rfl, ?_⟩
    generalize hsz : (if n < 2 then n else 2) = sz
    have hsz2 : 0 ≤ sz ∧ sz ≤ 2 := by
      rw [← hsz]
      split <;> omega
    refine ⟨⟨_, rfl⟩, _, rfl, sz, rfl, by omega, by omega, fun D hD => ?_⟩
    refine lc_range (lo := 0) (n := sz.toNat) (fun i H' => Keep p H H' ∧ ∃ ws : List Str, ws.length = i ∧ (ws.map (·.length)).sum = i ∧ (∀ z ∈ ws, sgAll z = true) ∧ H' D = some (.lst (ws.map V.str))) ⟨k1.new2 hD, [], rfl, rfl, (fun z m => nomatch m), upd_same⟩ (fun i H' hi hP => ?_) (fun H' hP => ?_)
    · obtain ⟨kk, ws, hw, hsum, hsg, hDD⟩ := hP
      obtain ⟨a2, b2, c2, hp2⟩ := kk.2
      have hTs : ∀ a b c : Int, SqT K (upd H' p (dk a b c)) sg (cs.map oneV) := fun a b c => same_tup hid_out (same_tup (hid_keep (kk.trans (.dice a b c))) hT)
      have hT2 : SqT K H' sg (cs.map oneV) := same_tup hid_out (same_tup (hid_keep kk) hT)
      refine ⟨rfl, _, rfl, _, rfl, p, a2, b2, c2, _, _, rfl, hp2, .inl ⟨sg, rfl, .inr hT2⟩, by simpa using ne, by rw [List.length_map]; exact small5 (by omega) |> Nat.le_of_lt, fun a b c => .inl ⟨sg, rfl, .inr (hTs a b c)⟩, fun a3 b3 c3 j x hx => ?_⟩
      rw [List.getElem?_map] at hx
      cases hc : cs[j]? with
      | none => rw [hc] at hx; cases hx
      | some cc =>
        rw [hc] at hx
        cases hx
        have nDp : D ≠ p := fun e => by
          rw [e, hp2] at hDD
          have z : HO.lst _ = HO.lst _ := Option.some.inj hDD
          injection z with z
          have z2 := congrArg (·.map fun v => match v with | V.int _ => true | _ => false) z
          cases ws <;> simp at z2
        refine ⟨ws.map V.str, by rw [upd_ne nDp]; exact hDD, ?_, ?_⟩
        · rw [List.length_map, hw]
          exact small1000 (by omega)
        · refine ⟨?_, ws ++ [oneS cc], by rw [List.length_append, hw]; rfl, by rw [List.map_append, List.sum_append, hsum]; rfl, fun z m => ?_, by rw [upd_same, List.map_append]; rfl⟩
          · exact ⟨fun b o hb e => by rw [upd_ne (ne_of_none (k1.1 b o hb e) hD), upd_ne hb]; exact kk.1 b o hb e, a3, b3, c3, by rw [upd_ne nDp.symm, upd_same]⟩
          · rcases List.mem_append.mp m with m | m
            · exact hsg z m
            · rw [List.mem_singleton.mp m]
              exact sg_one (mem cc (List.mem_of_getElem? hc))
    · obtain ⟨kk, ws, hw, hsum, hsg, hDD⟩ := hP
      refine ⟨_, D, ws, rfl, rfl, .inl (.of hDD), by rw [hsum]; show _ + ws.length * 0 ≤ _; omega, q H' _ kk (sg_glued ws hsg) ?_⟩
      have e := PySem.size_glued ("" : Str) ws
      show (Builtin.Str.glued ("" : Str) ws).length ≤ 2
      rw [e, hsum]
      show _ + (ws.length - 1) * 0 ≤ 2
      omega
end
end K0
end
/-! ### LRG -/
section
set_option Elab.async false
set_option linter.all false
set_option maxRecDepth 100000
set_option maxHeartbeats 4000000
/-! range(n) as a value, list(range(n)), n 1 or 2. -/
namespace K0
open PySem PySem.Spec PyProof.Rows L2
def r12 (n : Int) : List V := if n = 1 then [.int 0] else [.int 0, .int 1]
section
variable {X : Cx}
theorem cr_range1 : CallR X (.type "range") (fun vs H Q => ∃ i, vs = [V.int i] ∧ ∀ p, H p = none → Q (.ref p) (upd H p (.rng 0 i))) := by
  intro pins s σ H vs us Q I r h
  obtain ⟨i, rfl, q⟩ := h
  obtain ⟨u, rfl, t, rfl⟩ := vals1 r
  refine call_range_1 ⟨.ref s.heap.objs.size, upd H s.heap.objs.size (.rng 0 i), I.laid (t' := s.toks + 1 + 1) (fun b o e => Heap.get?_push_of_some _ e) (Nat.le_refl _) ?_, rfl, q _ (I.hok.fresh (Nat.le_refl _))⟩
  exact ⟨s.toks, t, s.toks + 1, Heap.get?_push_size _ rfl⟩
theorem call_list_r12 (hc : X.calm = true) : CallR X (.type "list") (fun xs H Q => ∃ p n, xs = [.ref p] ∧ H p = some (.rng 0 n) ∧ (n = 1 ∨ n = 2) ∧ ∀ l, H l = none → Q (.ref l) (upd H l (.lst (r12 n)))) := by
  intro pins s σ H xs us Q I r h
  obtain ⟨p, n, rfl, hp, hn, q⟩ := h
  obtain ⟨u, rfl, ru⟩ := vals1 r
  obtain rfl : u = Value.ref p := ru
  obtain ⟨t, u2, v, hr⟩ := I.hok p _ hp
  have vals : ∀ {acc : Array Value}, ItemsOf (fun i v => ∃ t, v = Value.int (0 + i * 1) t) acc n.toNat → Vals (r12 n) acc.toList := by
    intro acc h
    obtain ⟨l⟩ := acc
    obtain ⟨h1, h2⟩ := h
    rcases hn with rfl | rfl
    · match l, h1 with
      | [x], _ =>
        obtain ⟨t, e⟩ := h2 0 x rfl
        subst e
        exact .cons ⟨t, rfl⟩ .nil
    · match l, h1 with
      | [x, y], _ =>
        obtain ⟨t, e⟩ := h2 0 x rfl
        obtain ⟨t2, e2⟩ := h2 1 y rfl
        subst e
        subst e2
        exact .cons ⟨t, rfl⟩ (.cons ⟨t2, rfl⟩ .nil)
  have sm : Builtin.Range.small 0 n 1 = true := by rcases hn with rfl | rfl <;> decide +kernel
  have sz : Builtin.Range.rangeSize 0 n 1 = n.toNat := by rcases hn with rfl | rfl <;> decide +kernel
  refine call_list_range (n := n.toNat) (I.ok.hd hc) hr sm sz (by rcases hn with rfl | rfl <;> decide) fun h' tk acc c kp e it => ?_
  refine ⟨.ref s.heap.objs.size, _, I.laid (t' := tk) kp (Nat.le_refl _) (show ObjOk X.prog X.w _ h' _ (.lst (r12 n)) from ⟨?_, acc.toList, c, vals it, by simpa using e⟩), rfl, q _ (I.hok.fresh (Nat.le_refl _))⟩
  rcases hn with rfl | rfl <;> decide
end
end K0
end
/-! ### DP2 -/
section
set_option Elab.async false
set_option linter.all false
set_option maxRecDepth 100000
set_option maxHeartbeats 4000000
/-! is_look_state, is_writer_state. -/
namespace K0
open PySem PySem.Spec PyProof.Rows L2
open MD (dM KeysV KeyV rIsiM call_isiM Itmi Itmk pi_mitems pi_mkeys)
theorem walk_mitems {w : World} {d : Addr} {o : Obj} {kvs : List MD.Row} : Walk (Itmi w d o kvs) kvs.length (fun H => H d = some (.frz o (dM w d kvs))) (fun i H x H' => ∃ T p, kvs[i]? = some p ∧ x = .ref T ∧ H T = none ∧ H' = upd H T (.tup [p.2.1, p.2.2])) :=
  ⟨fun i _ lt g => ⟨g, lt⟩, fun _ g => ⟨g, Nat.le_refl _⟩, fun i H v H' _ g y => y⟩
theorem walk_mkeys {w : World} {d : Addr} {o : Obj} {kvs : List MD.Row} : Walk (Itmk w d o kvs) kvs.length (fun H => H d = some (.frz o (dM w d kvs))) (fun i H x H' => H' = H ∧ ∃ p, kvs[i]? = some p ∧ x = p.2.1) :=
  ⟨fun i _ lt g => ⟨g, lt⟩, fun _ g => ⟨g, Nat.le_refl _⟩, fun i H v H' _ g y => y⟩
theorem same_unlock {H H' : Hp} {m : Addr} {f u : HO} (s : Same (upd H m f) H') (e : H m = some u) : Same H (upd H' m u) := fun y o z => by
  by_cases q : y = m
  · subst q
    rw [e] at z
    cases z
    exact upd_same
  · rw [upd_ne q]
    exact s _ _ (by rw [upd_ne q]; exact z)
/-- what does not reach the locked dict stays -/
theorem dv_lock {K : PySem.W.Frag} {w : World} {H : Hp} {m : Addr} {rows : List MD.Row} {f : HO} (e : H m = some (dM w m rows)) : (∀ (d : PyData) (v : V), Dv K H v d → Dv K (upd H m f) v d) := by
  have hid : Same (hid m H) (upd H m f) := fun b o z => by
    by_cases q : b = m
    · subst q
      unfold K0.hid at z
      rw [if_pos rfl] at z
      cases z
    · rw [upd_ne q]
      rw [hid_ne q] at z
      exact z
  have sq : ∀ {a : Addr} {xs : List V}, SqT K H a xs → SqT K (upd H m f) a xs := fun {a} {xs} h => by
    rcases h with (h | ⟨o, h⟩) | h
    · have : a ≠ m := fun z => by rw [z, e] at h; cases h
      exact .inl (.inl (by rw [upd_ne this]; exact h))
    · have : a ≠ m := fun z => by rw [z, e] at h; cases h
      exact .inl (.inr ⟨o, by rw [upd_ne this]; exact h⟩)
    · exact .inr h
  have sl : ∀ {a : Addr} {xs : List V}, SqL K H a xs → SqL K (upd H m f) a xs := fun {a} {xs} h => by
    rcases h with (h | ⟨o, h⟩) | h
    · have : a ≠ m := fun z => by rw [z, e] at h; cases h
      exact .inl (.inl (by rw [upd_ne this]; exact h))
    · have : a ≠ m := fun z => by rw [z, e] at h; cases h
      exact .inl (.inr ⟨o, by rw [upd_ne this]; exact h⟩)
    · exact .inr h
  intro d v h
  refine Dv.rec (K := K) (H := H) (motive_1 := fun v d _ => Dv K (upd H m f) v d) (motive_2 := fun vs ds _ => DvAll K (upd H m f) vs ds) ?_ ?_ ?_ ?_ ?_ ?_ ?_ ?_ ?_ h
  · exact .non
  · exact fun b => .bl b
  · exact fun i => .int i
  · exact fun x => .str x
  · exact fun h1 _ h2 => .lst (sl h1) h2
  · exact fun h1 _ h2 => .tup (sq h1) h2
  · exact fun {a} {kvs} {ds} h1 h2 _ h3 => .dic (by rw [upd_ne (fun z => by rw [z, e] at h1; cases h1)]; exact h1) h2 h3
  · exact .nil
  · exact fun _ _ h1 h2 => .cons h1 h2
theorem lim_lock {K : PySem.W.Frag} {w : World} {H : Hp} {m : Addr} {rows : List MD.Row} {f : HO} {L : Addr} (e : H m = some (dM w m rows)) (h : Lim K H L) : Lim K (upd H m f) L := by
  rcases h with (h | ⟨o, h⟩) | h
  · have : L ≠ m := fun z => by rw [z, e] at h; cases h
    exact .inl (.inl (by rw [upd_ne this]; exact h))
  · have : L ≠ m := fun z => by rw [z, e] at h; cases h
    exact .inl (.inr ⟨o, by rw [upd_ne this]; exact h⟩)
  · exact .inr h
theorem bl_take {bs : List Bool} {m : Nat} {b : Bool} (h : bs[m]? = some b) : (bs.take (m + 1)).map V.bl = (bs.take m).map V.bl ++ [V.bl b] := by
  rw [List.take_add_one, h, List.map_append]
  rfl
theorem scLookSt : FnScope ["value", "many", "moves", "other", "sign", "state"] ["value", "many"] (defScope (top iLookSt)) := ⟨rfl, rfl, rfl, by decide +kernel, rfl, by decide +kernel, by decide +kernel⟩
theorem scWriterSt : FnScope ["value", "many", "views", "limits", "moves", "other", "last", "key", "move"] ["value", "many", "views", "limits"] (defScope (top iWriterSt)) := ⟨rfl, rfl, rfl, by decide +kernel, rfl, by decide +kernel, by decide +kernel⟩
def spLSt (K : PySem.W.Frag) (w : World) : Sp := fun vs H Q _ => ∃ (v : V) (d : StD) (m : Int), vs = [v, .int m] ∧ StX K w H 2 v d ∧ ∀ H', Same H H' → Q (.bl (lStD m d)) H'
def spWSt (K : PySem.W.Frag) (w : World) : Sp := fun vs H Q _ => ∃ (v : V) (d : StD) (m n : Int) (L : Addr), vs = [v, .int m, .int n, .ref L] ∧ Lim K H L ∧ StX K w H 3 v d ∧ ∀ H', Same H H' → Q (.bl (wStD m n d)) H'
section
variable {P : Program} {w : World} {K : PySem.W.Frag} {mg : Str → Option Value} {base : Heap} {f fT fS fN fW fM : Addr} {fd fdT fdS fdN fdW fdM : FuncData}
theorem ok_lookSt {k : Nat} (F : FnP K "is_look_state" iLookSt f fd) (misi : mg "isinstance" = none) (mtup : mg "tuple" = none) (mlen : mg "len" = none) (mdict : mg "dict" = none) (mall : mg "all" = none)
    (FS : FnOk P w K mg base CX0 (k + 1) fS fdS ["value"] (spD K isSignD)) (gS : mg "is_sign" = some (.ref fS)) (kS : PySem.W.keepIn K (.ref fS) = true) (bS : Binds K fdS ["value"] [])
    (FN : FnOk P w K mg base CX0 (k + 1) fN fdN ["value", "low", "high"] (spNum K)) (gN : mg "is_number" = some (.ref fN)) (kN : PySem.W.keepIn K (.ref fN) = true) (bN : Binds K fdN ["value", "low", "high"] []) :
    FnOk P w K mg base CX0 (k + 2) f fd ["value", "many"] (spLSt K w) := by
  refine F.ok scLookSt (fun vs H Q E h => ?_) (fun cdv A outer s H vs Q E hr h => ?_)
  · obtain ⟨v, d, n, rfl, _⟩ := h
    rfl
  · obtain ⟨v, d, n, rfl, hd, q⟩ := h
    refine ⟨_, PSs.nox (pss_cons (ps_if (PW.pt (pw_or (pt_not (pt_val (pe_callB call_isiM (by rfl) misi boot_isinstance (pa_cons (pv 0) (pa_cons (pe_bltn (v := .ty "tuple") (by rfl) mtup (by decide +kernel) rfl) pa_nil)))))
          (pw_or1 (pt_cmpR op_ne (pe_callB call_len_seq (by rfl) mlen PySem.boot_len (pa_cons (pv 0) pa_nil)) pe_int (nomark _))))) (pss_one (ps_ret pe_bl)) pss_nil)
      (pss_cons (ps_asg (pv 0) (pg_tup rfl (pgs_cons (pg_name (i := 2) scLookSt.nd rfl (.inl rfl)) (pgs_cons (pg_name (i := 3) scLookSt.nd rfl (.inl rfl)) pgs_nil))))
      (pss_cons (ps_if (PW.pt (pw_or (pt_not (pt_val (pe_callB call_isiM (by rfl) misi boot_isinstance (pa_cons (pv 2) (pa_cons (pe_bltn (v := .ty "dict") (by rfl) mdict (by decide +kernel) rfl) pa_nil)))))
          (pw_or1 (pt_not (pt_val (pe_call FN hr (by rfl) gN kN bN .nil pass0 (pa_cons (pv 3) (pa_cons pe_int (pa_cons (pe_op op_sub (pv 1) pe_int) pa_nil))))))))) (pss_one (ps_ret pe_bl)) pss_nil)
      (pss_one (ps_ret (pe_lock (pe_callB (cr_all rfl) (by rfl) mall (by decide +kernel) (pa_cons (pe_lc (own := [("sign", 4), ("state", 5)]) (g := gTup K 2 (gCons (gName 4) (gCons (gName 5) gNil))) (tt := tYes) rfl scLookSt.nd (pi_mitems (pv 2)) (blkOk_by (N := ["value", "many", "moves", "other", "sign", "state"]) (sc := defScope (top iLookSt)) (by decide +kernel))
        (fun _ _ _ _ _ => pg_tup rfl (pgs_cons (pg_name (i := 4) scLookSt.nd rfl (Or.inl rfl)) (pgs_cons (pg_name (i := 5) scLookSt.nd rfl (Or.inl rfl)) pgs_nil))) (fun _ _ _ _ _ => pts_nil)
        (fun _ _ _ _ _ => pe_and (pe_call FS hr (by rfl) gS kS bS .nil pass0 (pa_cons (pv 4) pa_nil)) (pe_one (pe_call FN hr (by rfl) gN kN bN .nil pass0 (pa_cons (pv 5) (pa_cons pe_int (pa_cons (pe_op op_sub (pv 1) pe_int) pa_nil))))))) pa_nil)))))))), ?_⟩
    cases d with
    | bad =>
      have q2 := q H (Same.refl H)
      rcases hd with hd | ⟨a, xs, rfl, hT, hd⟩
      · exact ⟨_, rfl, hd.rd ⟨_, rfl, q2⟩⟩
      · refine ⟨_, rfl, (ist_tup hT).rd ⟨_, rfl, _, rfl, a, xs, rfl, .inr hT, rfl, _, rfl, ite2 (fun e3 => q2) (fun e3 => ?_)⟩⟩
        have l2 : xs.length = 2 := int_eq (m := 2) e3
        obtain ⟨x, r, rfl, hx⟩ := hd.resolve_left fun z => z l2
        obtain ⟨y, rfl⟩ : ∃ y, r = [y] := by
          match r, l2 with
          | [y], _ => exact ⟨y, rfl⟩
        exact ⟨_, rfl, a, _, rfl, hT, rfl, x, _, rfl, y, _, rfl, rfl, _, rfl, hx.rd ⟨_, rfl, q2⟩⟩
    | good rs ys ds =>
      obtain ⟨a, m, rfl, hT, hA, l1, hm, hR, sm⟩ := hd
      obtain ⟨o, rfl⟩ : ∃ o, ds = [o] := by
        match ds, l1 with
        | [o], _ => exact ⟨o, rfl⟩
      cases hA with
      | cons h1 hA =>
      cases hA
      rename_i vo
      refine ⟨_, rfl, (ist_tup hT).rd ⟨_, rfl, _, rfl, a, _, rfl, .inr hT, rfl, _, rfl, ?_⟩⟩
      refine ⟨_, rfl, a, _, rfl, hT, rfl, .ref m, _, rfl, vo, _, rfl, rfl, _, rfl, (ist_md hm).rd ⟨_, rfl, ?_⟩⟩
      refine ⟨_, rfl, _, rfl, _, _, rfl, rfl, vo, o, 0, n - 1, rfl, h1, _, rfl, ite2 (fun e => ?_) (fun e => ?_)⟩
      · have q2 := q H (Same.refl H)
        rw [show lStD n (.good rs [vo] [o]) = false by show (isNumD 0 (n - 1) o && _) = _; rw [nF e, Bool.false_and]] at q2
        exact q2
      have q2 := fun H' z => q H' z
      rw [show lStD n (.good rs [vo] [o]) = (rs.map fun r => isSignD r.2.1 && isNumD 0 (n - 1) r.2.2).all id by show (isNumD 0 (n - 1) o && _) = _; rw [nT e, Bool.true_and, List.all_map]; rfl] at q2
      refine ⟨m, _, hm, trivial, fun od => ⟨_, rfl, m, od, _, rfl, upd_same, fun D nD => ?_⟩⟩
      obtain ⟨bs, hbs⟩ : ∃ bs, bs = rs.map fun r => isSignD r.2.1 && isNumD 0 (n - 1) r.2.2 := ⟨_, rfl⟩
      rw [← hbs] at q2
      have bl : bs.length = rs.length := by rw [hbs, List.length_map]
      have few := hR.few
      refine lc_it (walk_mitems (kvs := rs.map (·.1))) (fun i H' => Same (upd H m (.frz od (dM w m (rs.map (·.1))))) H' ∧ H' D = some (.lst ((bs.take i).map V.bl))) ⟨same_upd nD, upd_same⟩ (fun i H' _ hP => hP.1 _ _ upd_same) (fun i x H' H'' hi hP hY => ?_) (fun H' hP => ?_)
      · obtain ⟨s1, hD⟩ := hP
        obtain ⟨T, p, hp, rfl, nT', rfl⟩ := hY
        rw [List.getElem?_map] at hp
        obtain ⟨r, hr2, rfl⟩ := Option.map_eq_some_iff.mp hp
        have mr := List.mem_of_getElem? hr2
        obtain ⟨dk, dv⟩ := hR.dat r mr
        obtain ⟨sk, sv, _⟩ := hR.small r mr
        have s2 := s1.trans (same_upd nT' (o := .tup [r.1.2.1, r.1.2.2]))
        have dk2 := (dv_lock (f := .frz od (dM w m (rs.map (·.1)))) hm _ _ dk).same' s2
        have dv2 := (dv_lock (f := .frz od (dM w m (rs.map (·.1)))) hm _ _ dv).same' s2
        have bi : bs[i]? = some (isSignD r.2.1 && isNumD 0 (n - 1) r.2.2) := by rw [hbs, List.getElem?_map, hr2]; rfl
        have fin : ∀ H3, Same (upd H' T (.tup [r.1.2.1, r.1.2.2])) H3 → ∃ xs, H3 D = some (.lst xs) ∧ xs.length < sizeLine ∧ (fun i H' => Same (upd H m (.frz od (dM w m (rs.map (·.1))))) H' ∧ H' D = some (.lst ((bs.take i).map V.bl))) (i + 1) (upd H3 D (.lst (xs ++ [V.bl (isSignD r.2.1 && isNumD 0 (n - 1) r.2.2)]))) := fun H3 s3 =>
          ⟨_, s3 _ _ (same_upd nT' _ _ hD), by rw [List.length_map, List.length_take]; exact small5 (by omega), fun y o u => by rw [upd_ne (ne_of_none u nD)]; exact s3 _ _ (s2 _ _ u), by rw [upd_same, bl_take bi]⟩
        refine ⟨T, _, rfl, .of upd_same, rfl, _, _, rfl, _, _, rfl, rfl, rfl, _, rfl, _, r.2.1, rfl, dk2, by omega, fun H3 s3 => ⟨_, rfl, ite2 (fun e4 => ?_) (fun e4 => ?_)⟩⟩
        · refine ⟨_, rfl, _, rfl, _, _, rfl, rfl, _, r.2.2, 0, n - 1, rfl, dv2.same' s3, ?_⟩
          have z := fin H3 s3
          rw [e4, Bool.true_and] at z
          exact z
        · have z := fin H3 s3
          rw [cF e4, Bool.false_and] at z
          exact z
      · obtain ⟨s1, hD⟩ := hP
        rw [List.length_map, ← bl, List.take_length] at hD
        refine ⟨D, _, rfl, .of hD, s1 _ _ upd_same, ?_⟩
        exact q2 _ (same_unlock s1 hm)
theorem ok_writerSt {k : Nat} (F : FnP K "is_writer_state" iWriterSt f fd) (misi : mg "isinstance" = none) (mtup : mg "tuple" = none) (mlen : mg "len" = none) (mdict : mg "dict" = none) (mall : mg "all" = none)
    (FW : FnOk P w K mg base CX0 (k + 3) fW fdW ["value", "limits"] (spWritten K)) (gW : mg "is_written" = some (.ref fW)) (kW : PySem.W.keepIn K (.ref fW) = true) (bW : Binds K fdW ["value", "limits"] [])
    (FS : FnOk P w K mg base CX0 (k + 3) fS fdS ["value", "views"] (spSeen K)) (gS : mg "is_seen_sign" = some (.ref fS)) (kS : PySem.W.keepIn K (.ref fS) = true) (bS : Binds K fdS ["value", "views"] [])
    (FM : FnOk P w K mg base CX0 (k + 3) fM fdM ["value", "many", "limits"] (spMove K)) (gM : mg "is_move" = some (.ref fM)) (kM : PySem.W.keepIn K (.ref fM) = true) (bM : Binds K fdM ["value", "many", "limits"] [])
    (FN : FnOk P w K mg base CX0 (k + 3) fN fdN ["value", "low", "high"] (spNum K)) (gN : mg "is_number" = some (.ref fN)) (kN : PySem.W.keepIn K (.ref fN) = true) (bN : Binds K fdN ["value", "low", "high"] []) :
    FnOk P w K mg base CX0 (k + 4) f fd ["value", "many", "views", "limits"] (spWSt K w) := by
  refine F.ok scWriterSt (fun vs H Q E h => ?_) (fun cdv A outer s H vs Q E hr h => ?_)
  · obtain ⟨v, d, n, m, L, rfl, _⟩ := h
    rfl
  · obtain ⟨v, d, n, vw, L, rfl, hL, hd, q⟩ := h
    refine ⟨_, PSs.nox (pss_cons (ps_if (PW.pt (pw_or (pt_not (pt_val (pe_callB call_isiM (by rfl) misi boot_isinstance (pa_cons (pv 0) (pa_cons (pe_bltn (v := .ty "tuple") (by rfl) mtup (by decide +kernel) rfl) pa_nil)))))
          (pw_or1 (pt_cmpR op_ne (pe_callB call_len_seq (by rfl) mlen PySem.boot_len (pa_cons (pv 0) pa_nil)) pe_int (nomark _))))) (pss_one (ps_ret pe_bl)) pss_nil)
      (pss_cons (ps_asg (pv 0) (pg_tup rfl (pgs_cons (pg_name (i := 4) scWriterSt.nd rfl (.inl rfl)) (pgs_cons (pg_name (i := 5) scWriterSt.nd rfl (.inl rfl)) (pgs_cons (pg_name (i := 6) scWriterSt.nd rfl (.inl rfl)) pgs_nil)))))
      (pss_cons (ps_if (PW.pt (pw_or (pt_not (pt_val (pe_callB call_isiM (by rfl) misi boot_isinstance (pa_cons (pv 4) (pa_cons (pe_bltn (v := .ty "dict") (by rfl) mdict (by decide +kernel) rfl) pa_nil)))))
          (pw_or (pt_not (pt_val (pe_call FN hr (by rfl) gN kN bN .nil pass0 (pa_cons (pv 5) (pa_cons pe_int (pa_cons (pe_op op_sub (pv 1) pe_int) pa_nil))))))
          (pw_or1 (pt_not (pt_val (pe_call FW hr (by rfl) gW kW bW .nil pass0 (pa_cons (pv 6) (pa_cons (pv 3) pa_nil))))))))) (pss_one (ps_ret pe_bl)) pss_nil)
      (pss_one (ps_ret (pe_lock (pe_callB (cr_all rfl) (by rfl) mall (by decide +kernel) (pa_cons (pe_lc (own := [("key", 7), ("move", 8)]) (g := gTup K 2 (gCons (gName 7) (gCons (gName 8) gNil))) (tt := tYes) rfl scWriterSt.nd (pi_mitems (pv 4)) (blkOk_by (N := ["value", "many", "views", "limits", "moves", "other", "last", "key", "move"]) (sc := defScope (top iWriterSt)) (by decide +kernel))
        (fun _ _ _ _ _ => pg_tup rfl (pgs_cons (pg_name (i := 7) scWriterSt.nd rfl (Or.inl rfl)) (pgs_cons (pg_name (i := 8) scWriterSt.nd rfl (Or.inl rfl)) pgs_nil))) (fun _ _ _ _ _ => pts_nil)
        (fun _ _ _ _ _ => pe_and (pe_call FS hr (by rfl) gS kS bS .nil pass0 (pa_cons (pv 7) (pa_cons (pv 2) pa_nil))) (pe_one (pe_call FM hr (by rfl) gM kM bM .nil pass0 (pa_cons (pv 8) (pa_cons (pv 1) (pa_cons (pv 3) pa_nil))))))) pa_nil)))))))), ?_⟩
    cases d with
    | bad =>
      have q2 := q H (Same.refl H)
      rcases hd with hd | ⟨a, xs, rfl, hT, hd⟩
      · exact ⟨_, rfl, hd.rd ⟨_, rfl, q2⟩⟩
      · refine ⟨_, rfl, (ist_tup hT).rd ⟨_, rfl, _, rfl, a, xs, rfl, .inr hT, rfl, _, rfl, ite2 (fun e3 => q2) (fun e3 => ?_)⟩⟩
        have l2 : xs.length = 3 := int_eq (m := 3) e3
        obtain ⟨x, r, rfl, hx⟩ := hd.resolve_left fun z => z l2
        obtain ⟨y, z, rfl⟩ : ∃ y z, r = [y, z] := by
          match r, l2 with
          | [y, z], _ => exact ⟨y, z, rfl⟩
        exact ⟨_, rfl, a, _, rfl, hT, rfl, x, _, rfl, y, _, rfl, z, _, rfl, rfl, _, rfl, hx.rd ⟨_, rfl, q2⟩⟩
    | good rs ys ds =>
      obtain ⟨a, m, rfl, hT, hA, l1, hm, hR, sm⟩ := hd
      obtain ⟨o, l, rfl⟩ : ∃ o l, ds = [o, l] := by
        match ds, l1 with
        | [o, l], _ => exact ⟨o, l, rfl⟩
      cases hA with
      | cons h1 hA =>
      cases hA with
      | cons h2 hA =>
      cases hA
      rename_i vo vl
      refine ⟨_, rfl, (ist_tup hT).rd ⟨_, rfl, _, rfl, a, _, rfl, .inr hT, rfl, _, rfl, ?_⟩⟩
      refine ⟨_, rfl, a, _, rfl, hT, rfl, .ref m, _, rfl, vo, _, rfl, vl, _, rfl, rfl, _, rfl, (ist_md hm).rd ⟨_, rfl, ?_⟩⟩
      refine ⟨_, rfl, _, rfl, _, _, rfl, rfl, vo, o, 0, n - 1, rfl, h1, _, rfl, ite2 (fun e => ?_) (fun e => ?_)⟩
      · have q2 := q H (Same.refl H)
        rw [show wStD n vw (.good rs [vo, vl] [o, l]) = false by show (isNumD 0 (n - 1) o && _ && _) = _; rw [nF e, Bool.false_and, Bool.false_and]] at q2
        exact q2
      refine ⟨_, rfl, _, rfl, vl, l, L, rfl, hL, h2, by have := sm l (by simp); omega, fun H1 s1 => ⟨_, rfl, ite2 (fun e2 => ?_) (fun e2 => ?_)⟩⟩
      · have q2 := q H1 s1
        rw [show wStD n vw (.good rs [vo, vl] [o, l]) = false by show (isNumD 0 (n - 1) o && isWrittenD l && _) = _; rw [nF e2, Bool.and_false, Bool.false_and]] at q2
        exact q2
      have q2 := fun H' z => q H' z
      rw [show wStD n vw (.good rs [vo, vl] [o, l]) = (rs.map fun r => isSeenD vw r.2.1 && isMoveD n r.2.2).all id by show (isNumD 0 (n - 1) o && isWrittenD l && _) = _; rw [nT e, nT e2, Bool.true_and, Bool.true_and, List.all_map]; rfl] at q2
      have hR1 := hR.same s1
      have hm1 := s1 _ _ hm
      refine ⟨m, _, hm1, trivial, fun od => ⟨_, rfl, m, od, _, rfl, upd_same, fun D nD => ?_⟩⟩
      obtain ⟨bs, hbs⟩ : ∃ bs, bs = rs.map fun r => isSeenD vw r.2.1 && isMoveD n r.2.2 := ⟨_, rfl⟩
      rw [← hbs] at q2
      have bl : bs.length = rs.length := by rw [hbs, List.length_map]
      have few := hR.few
      have hL2 := lim_lock (f := .frz od (dM w m (rs.map (·.1)))) hm1 (same_tup s1 hL)
      refine lc_it (walk_mitems (kvs := rs.map (·.1))) (fun i H' => Same (upd H1 m (.frz od (dM w m (rs.map (·.1))))) H' ∧ H' D = some (.lst ((bs.take i).map V.bl))) ⟨same_upd nD, upd_same⟩ (fun i H' _ hP => hP.1 _ _ upd_same) (fun i x H' H'' hi hP hY => ?_) (fun H' hP => ?_)
      · obtain ⟨s2, hD⟩ := hP
        obtain ⟨T, p, hp, rfl, nT', rfl⟩ := hY
        rw [List.getElem?_map] at hp
        obtain ⟨r, hr2, rfl⟩ := Option.map_eq_some_iff.mp hp
        have mr := List.mem_of_getElem? hr2
        obtain ⟨dk, dv⟩ := hR1.dat r mr
        obtain ⟨sk, sv, _⟩ := hR.small r mr
        have s3 := s2.trans (same_upd nT' (o := .tup [r.1.2.1, r.1.2.2]))
        have dk2 := (dv_lock (f := .frz od (dM w m (rs.map (·.1)))) hm1 _ _ dk).same' s3
        have dv2 := (dv_lock (f := .frz od (dM w m (rs.map (·.1)))) hm1 _ _ dv).same' s3
        have bi : bs[i]? = some (isSeenD vw r.2.1 && isMoveD n r.2.2) := by rw [hbs, List.getElem?_map, hr2]; rfl
        have fin : ∀ H3, Same (upd H' T (.tup [r.1.2.1, r.1.2.2])) H3 → ∃ xs, H3 D = some (.lst xs) ∧ xs.length < sizeLine ∧ (fun i H' => Same (upd H1 m (.frz od (dM w m (rs.map (·.1))))) H' ∧ H' D = some (.lst ((bs.take i).map V.bl))) (i + 1) (upd H3 D (.lst (xs ++ [V.bl (isSeenD vw r.2.1 && isMoveD n r.2.2)]))) := fun H3 s3' =>
          ⟨_, s3' _ _ (same_upd nT' _ _ hD), by rw [List.length_map, List.length_take]; exact small5 (by omega), fun y o u => by rw [upd_ne (ne_of_none u nD)]; exact s3' _ _ (s3 _ _ u), by rw [upd_same, bl_take bi]⟩
        refine ⟨T, _, rfl, .of upd_same, rfl, _, _, rfl, _, _, rfl, rfl, rfl, _, rfl, _, rfl, _, r.2.1, vw, rfl, dk2, by omega, fun H3 s4 => ⟨_, rfl, ite2 (fun e4 => ?_) (fun e4 => ?_)⟩⟩
        · refine ⟨_, rfl, _, rfl, _, rfl, _, r.2.2, n, L, rfl, same_tup (s3.trans s4) hL2, dv2.same' s4, by omega, fun H4 s5 => ?_⟩
          have z := fin H4 (s4.trans s5)
          rw [e4, Bool.true_and] at z
          exact z
        · have z := fin H3 s4
          rw [cF e4, Bool.false_and] at z
          exact z
      · obtain ⟨s2, hD⟩ := hP
        rw [List.length_map, ← bl, List.take_length] at hD
        refine ⟨D, _, rfl, .of hD, s2 _ _ upd_same, ?_⟩
        exact q2 _ (s1.trans (same_unlock s2 hm1))
end
end K0
end
/-! ### DP3 -/
section
set_option Elab.async false
set_option linter.all false
set_option maxRecDepth 100000
set_option maxHeartbeats 4000000
/-! is_look, is_writer, are_firsts, are_parts. -/
namespace K0
open PySem PySem.Spec PyProof.Rows L2
open MD (dM KeysV KeyV rIsiM call_isiM)
theorem pairedX {α β : Type} {R : α → β → Prop} : ∀ {xs : List α} {ys : List β} {i : Nat} {x : α}, Paired R xs ys → xs[i]? = some x → ∃ y, ys[i]? = some y ∧ R x y
  | _, _, _, _, .nil, e => by simp at e
  | _, _, 0, x, .cons (a := a) (b := b) h t, e => by
    have e : some a = some x := by simpa using e
    cases e
    exact ⟨b, rfl, h⟩
  | _, _, i + 1, x, .cons (a := a) (b := b) h t, e => by
    obtain ⟨y, hy, r⟩ := pairedX (i := i) (x := x) t (by simpa using e)
    exact ⟨y, by simpa using hy, r⟩
theorem scIsLook : FnScope ["value", "limits", "state"] ["value", "limits"] (defScope (top iIsLook)) := ⟨rfl, rfl, rfl, by decide +kernel, rfl, by decide +kernel, by decide +kernel⟩
theorem scIsWriter : FnScope ["value", "views", "limits", "state"] ["value", "views", "limits"] (defScope (top iIsWriter)) := ⟨rfl, rfl, rfl, by decide +kernel, rfl, by decide +kernel, by decide +kernel⟩
theorem scFirsts : FnScope ["value", "views", "many", "state"] ["value", "views", "many"] (defScope (top iFirsts)) := ⟨rfl, rfl, rfl, by decide +kernel, rfl, by decide +kernel, by decide +kernel⟩
theorem scAreParts : FnScope ["writer", "look", "firsts", "limits"] ["writer", "look", "firsts", "limits"] (defScope (top iAreParts)) := ⟨rfl, rfl, rfl, by decide +kernel, rfl, by decide +kernel, by decide +kernel⟩
def spLook (K : PySem.W.Frag) (w : World) : Sp := fun vs H Q _ => ∃ (v : V) (d : WhD) (L : Addr), vs = [v, .ref L] ∧ Lim K H L ∧ WhX K w H 2 v d ∧ ∀ H', Same H H' → Q (.bl (lookD d)) H'
def spWriter (K : PySem.W.Frag) (w : World) : Sp := fun vs H Q _ => ∃ (v : V) (d : WhD) (n : Int) (L : Addr), vs = [v, .int n, .ref L] ∧ Lim K H L ∧ WhX K w H 3 v d ∧ ∀ H', Same H H' → Q (.bl (writerD n d)) H'
def spFirsts (K : PySem.W.Frag) : Sp := fun vs H Q _ => ∃ (v : V) (d : PyData) (n m : Int), vs = [v, .int n, .int m] ∧ Dv K H v d ∧ d.bulk ≤ 100000 ∧ ∀ H', Same H H' → Q (.bl (firstsD n m d)) H'
def spParts (K : PySem.W.Frag) (w : World) : Sp := fun vs H Q _ => ∃ (v1 v2 v3 : V) (dw dl : WhD) (df : PyData) (L : Addr), vs = [v1, v2, v3, .ref L] ∧ Lim K H L ∧ WhX K w H 3 v1 dw ∧ WhX K w H 2 v2 dl ∧ Dv K H v3 df ∧ df.bulk ≤ 100000 ∧ ∀ H', Same H H' → Q (.bl (partsD dw dl df)) H'
theorem all_if {α : Type} (f : α → Bool) (xs : List α) : (xs.map f).all id = xs.all f := by
  rw [List.all_map]
  rfl
section
variable {P : Program} {w : World} {K : PySem.W.Frag} {mg : Str → Option Value} {base : Heap} {f fT fS fN fW fM : Addr} {fd fdT fdS fdN fdW fdM : FuncData}
theorem ok_isLook {k : Nat} (F : FnP K "is_look" iIsLook f fd) (misi : mg "isinstance" = none) (mtup : mg "tuple" = none) (mlen : mg "len" = none) (mall : mg "all" = none)
    (FS : FnOk P w K mg base CX0 (k + 2) fS fdS ["value", "many"] (spLSt K w)) (gS : mg "is_look_state" = some (.ref fS)) (kS : PySem.W.keepIn K (.ref fS) = true) (bS : Binds K fdS ["value", "many"] []) :
    FnOk P w K mg base CX0 (k + 3) f fd ["value", "limits"] (spLook K w) := by
  refine F.ok scIsLook (fun vs H Q E h => ?_) (fun cdv A outer s H vs Q E hr h => ?_)
  · obtain ⟨v, d, L, rfl, _⟩ := h
    rfl
  · obtain ⟨v, d, L, rfl, hL, hd, q⟩ := h
    refine ⟨_, PSs.nox (pss_cons (ps_if (PW.pt (pw_or (pt_not (pt_val (pe_callB call_isiM (by rfl) misi boot_isinstance (pa_cons (pv 0) (pa_cons (pe_bltn (v := .ty "tuple") (by rfl) mtup (by decide +kernel) rfl) pa_nil)))))
          (pw_or (pt_not (pt_truth (pv 0) (by intro _; rfl)))
          (pw_or1 (PW.pt (pw_and (pt_cmp (pc_notN (pv 1))) (pw_and1 (pt_cmpR op_gt (pe_callB call_len_seq (by rfl) mlen PySem.boot_len (pa_cons (pv 0) pa_nil)) (pe_ix ix_tup (pv 1) pe_int (fun _ _ => rfl)) (nomark _))))))))) (pss_one (ps_ret pe_bl)) pss_nil)
      (pss_one (ps_ret (pe_callB (cr_all rfl) (by rfl) mall (by decide +kernel) (pa_cons (pe_lc (own := [("state", 2)]) (g := gName 2) (tt := tYes) rfl scIsLook.nd (pi_tup (pv 0)) (blkOk_by (N := ["value", "limits", "state"]) (sc := defScope (top iIsLook)) (by decide +kernel))
        (fun _ _ _ _ _ => pg_name (i := 2) scIsLook.nd rfl (Or.inl rfl)) (fun _ _ _ _ _ => pts_nil)
        (fun _ _ _ _ _ => pe_call FS hr (by rfl) gS kS bS .nil pass0 (pa_cons (pv 2) (pa_cons (pe_callB (call_lenK (K := K) rfl) (by rfl) mlen PySem.boot_len (pa_cons (pv 0) pa_nil)) pa_nil)))) pa_nil))))), ?_⟩
    cases d with
    | bad => exact ⟨_, rfl, Ist.rd hd ⟨_, rfl, q H (Same.refl H)⟩⟩
    | sts ss =>
      obtain ⟨a, xs, rfl, hT, hP, fewx⟩ := hd
      have pl := MD.paired_len hP
      have q0 := q H (Same.refl H)
      have ed : lookD (.sts ss) = (decide (0 < ss.length) && decide (ss.length ≤ 3) && ss.all (lStD ss.length)) := rfl
      refine ⟨_, rfl, (ist_tup hT).rd ⟨_, rfl, _, rfl, _, .inr (.inl ⟨xs, hT, rfl⟩), ite2 (fun e => ?_) (fun e => ?_)⟩⟩
      · rw [ed, show ss.length = 0 by cases xs with | nil => exact pl.symm | cons _ _ => cases e] at q0
        exact q0
      have pos : 0 < ss.length := by
        cases xs with
        | nil => exact absurd rfl e
        | cons _ _ => rw [← pl]; exact Nat.succ_pos _
      refine ⟨_, rfl, _, rfl, ?_⟩
      refine ⟨_, rfl, a, xs, rfl, .inr hT, _, rfl, L, _, 0, .int 3, rfl, rfl, hL, rfl, _, _, rfl, rfl, _, rfl, ite2 (fun e2 => ?_) (fun e2 => ?_)⟩
      · have e2 : (3 : Int) < xs.length := of_decide_eq_true e2
        rw [ed, decide_eq_false (show ¬ ss.length ≤ 3 by omega), Bool.and_false, Bool.false_and] at q0
        exact q0
      have e2 : ¬ (3 : Int) < xs.length := fun z => e2 (decide_eq_true z)
      have q2 := fun H' z => q H' z
      rw [ed, decide_eq_true pos, decide_eq_true (show ss.length ≤ 3 by omega), Bool.true_and, Bool.true_and, ← all_if] at q2
      obtain ⟨bs, hbs⟩ : ∃ bs, bs = ss.map (lStD ss.length) := ⟨_, rfl⟩
      rw [← hbs] at q2
      have bl : bs.length = ss.length := by rw [hbs, List.length_map]
      refine ⟨_, rfl, a, rfl, ⟨xs, hT⟩, fun D nD => lc_it (walk_tup (xs := xs)) (fun m H' => Same H H' ∧ H' D = some (.lst ((bs.take m).map V.bl))) ⟨same_upd nD, upd_same⟩ (fun _ H' _ hP => same_tup hP.1 hT) (fun i x H' H'' hm hP' hY => ?_) (fun H' hP' => ?_)⟩
      · obtain ⟨s1, hD⟩ := hP'
        obtain ⟨rfl, hx⟩ := hY
        obtain ⟨d1, h1, v1⟩ := pairedX hP hx
        refine ⟨rfl, _, rfl, _, rfl, a, xs, rfl, .inr (same_tup s1 hT), x, d1, xs.length, rfl, v1.same s1, fun H3 s3 => ⟨_, s3 _ _ hD, by rw [List.length_map, List.length_take]; exact small5 (by omega), fun y o u => by rw [upd_ne (ne_of_none u nD)]; exact s3 _ _ (s1 _ _ u), ?_⟩⟩
        rw [upd_same, pl, bl_take (b := lStD ss.length d1) (by rw [hbs, List.getElem?_map, h1]; rfl)]
      · obtain ⟨s1, hD⟩ := hP'
        rw [pl, ← bl, List.take_length] at hD
        exact ⟨D, _, rfl, .of hD, q2 H' s1⟩
theorem ok_isWriter {k : Nat} (F : FnP K "is_writer" iIsWriter f fd) (misi : mg "isinstance" = none) (mtup : mg "tuple" = none) (mlen : mg "len" = none) (mall : mg "all" = none)
    (FS : FnOk P w K mg base CX0 (k + 2) fS fdS ["value", "many", "views", "limits"] (spWSt K w)) (gS : mg "is_writer_state" = some (.ref fS)) (kS : PySem.W.keepIn K (.ref fS) = true) (bS : Binds K fdS ["value", "many", "views", "limits"] []) :
    FnOk P w K mg base CX0 (k + 3) f fd ["value", "views", "limits"] (spWriter K w) := by
  refine F.ok scIsWriter (fun vs H Q E h => ?_) (fun cdv A outer s H vs Q E hr h => ?_)
  · obtain ⟨v, d, n, L, rfl, _⟩ := h
    rfl
  · obtain ⟨v, d, n, L, rfl, hL, hd, q⟩ := h
    refine ⟨_, PSs.nox (pss_cons (ps_if (PW.pt (pw_or (pt_not (pt_val (pe_callB call_isiM (by rfl) misi boot_isinstance (pa_cons (pv 0) (pa_cons (pe_bltn (v := .ty "tuple") (by rfl) mtup (by decide +kernel) rfl) pa_nil)))))
          (pw_or (pt_not (pt_truth (pv 0) (by intro _; rfl)))
          (pw_or1 (PW.pt (pw_and (pt_cmp (pc_notN (pv 2))) (pw_and1 (pt_cmpR op_gt (pe_callB call_len_seq (by rfl) mlen PySem.boot_len (pa_cons (pv 0) pa_nil)) (pe_ix ix_tup (pv 2) pe_int (fun _ _ => rfl)) (nomark _))))))))) (pss_one (ps_ret pe_bl)) pss_nil)
      (pss_one (ps_ret (pe_callB (cr_all rfl) (by rfl) mall (by decide +kernel) (pa_cons (pe_lc (own := [("state", 3)]) (g := gName 3) (tt := tYes) rfl scIsWriter.nd (pi_tup (pv 0)) (blkOk_by (N := ["value", "views", "limits", "state"]) (sc := defScope (top iIsWriter)) (by decide +kernel))
        (fun _ _ _ _ _ => pg_name (i := 3) scIsWriter.nd rfl (Or.inl rfl)) (fun _ _ _ _ _ => pts_nil)
        (fun _ _ _ _ _ => pe_call FS hr (by rfl) gS kS bS .nil pass0 (pa_cons (pv 3) (pa_cons (pe_callB (call_lenK (K := K) rfl) (by rfl) mlen PySem.boot_len (pa_cons (pv 0) pa_nil)) (pa_cons (pv 1) (pa_cons (pv 2) pa_nil)))))) pa_nil))))), ?_⟩
    cases d with
    | bad => exact ⟨_, rfl, Ist.rd hd ⟨_, rfl, q H (Same.refl H)⟩⟩
    | sts ss =>
      obtain ⟨a, xs, rfl, hT, hP, fewx⟩ := hd
      have pl := MD.paired_len hP
      have q0 := q H (Same.refl H)
      have ed : writerD n (.sts ss) = (decide (0 < ss.length) && decide (ss.length ≤ 4) && ss.all (wStD ss.length n)) := rfl
      refine ⟨_, rfl, (ist_tup hT).rd ⟨_, rfl, _, rfl, _, .inr (.inl ⟨xs, hT, rfl⟩), ite2 (fun e => ?_) (fun e => ?_)⟩⟩
      · rw [ed, show ss.length = 0 by cases xs with | nil => exact pl.symm | cons _ _ => cases e] at q0
        exact q0
      have pos : 0 < ss.length := by
        cases xs with
        | nil => exact absurd rfl e
        | cons _ _ => rw [← pl]; exact Nat.succ_pos _
      refine ⟨_, rfl, _, rfl, ?_⟩
      refine ⟨_, rfl, a, xs, rfl, .inr hT, _, rfl, L, _, 1, .int 4, rfl, rfl, hL, rfl, _, _, rfl, rfl, _, rfl, ite2 (fun e2 => ?_) (fun e2 => ?_)⟩
      · have e2 : (4 : Int) < xs.length := of_decide_eq_true e2
        rw [ed, decide_eq_false (show ¬ ss.length ≤ 4 by omega), Bool.and_false, Bool.false_and] at q0
        exact q0
      have e2 : ¬ (4 : Int) < xs.length := fun z => e2 (decide_eq_true z)
      have q2 := fun H' z => q H' z
      rw [ed, decide_eq_true pos, decide_eq_true (show ss.length ≤ 4 by omega), Bool.true_and, Bool.true_and, ← all_if] at q2
      obtain ⟨bs, hbs⟩ : ∃ bs, bs = ss.map (wStD ss.length n) := ⟨_, rfl⟩
      rw [← hbs] at q2
      have bl : bs.length = ss.length := by rw [hbs, List.length_map]
      refine ⟨_, rfl, a, rfl, ⟨xs, hT⟩, fun D nD => lc_it (walk_tup (xs := xs)) (fun m H' => Same H H' ∧ H' D = some (.lst ((bs.take m).map V.bl))) ⟨same_upd nD, upd_same⟩ (fun _ H' _ hP => same_tup hP.1 hT) (fun i x H' H'' hm hP' hY => ?_) (fun H' hP' => ?_)⟩
      · obtain ⟨s1, hD⟩ := hP'
        obtain ⟨rfl, hx⟩ := hY
        obtain ⟨d1, h1, v1⟩ := pairedX hP hx
        refine ⟨rfl, _, rfl, _, rfl, a, xs, rfl, .inr (same_tup s1 hT), _, rfl, _, rfl, x, d1, xs.length, n, L, rfl, same_tup s1 hL, v1.same s1, fun H3 s3 => ⟨_, s3 _ _ hD, by rw [List.length_map, List.length_take]; exact small5 (by omega), fun y o u => by rw [upd_ne (ne_of_none u nD)]; exact s3 _ _ (s1 _ _ u), ?_⟩⟩
        rw [upd_same, pl, bl_take (b := wStD ss.length n d1) (by rw [hbs, List.getElem?_map, h1]; rfl)]
      · obtain ⟨s1, hD⟩ := hP'
        rw [pl, ← bl, List.take_length] at hD
        exact ⟨D, _, rfl, .of hD, q2 H' s1⟩
theorem ok_firsts {k : Nat} (F : FnP K "are_firsts" iFirsts f fd) (misi : mg "isinstance" = none) (mtup : mg "tuple" = none) (mlen : mg "len" = none) (mall : mg "all" = none)
    (FN : FnOk P w K mg base CX0 (k + 1) fN fdN ["value", "low", "high"] (spNum K)) (gN : mg "is_number" = some (.ref fN)) (kN : PySem.W.keepIn K (.ref fN) = true) (bN : Binds K fdN ["value", "low", "high"] []) :
    FnOk P w K mg base CX0 (k + 2) f fd ["value", "views", "many"] (spFirsts K) := by
  refine F.ok scFirsts (fun vs H Q E h => ?_) (fun cdv A outer s H vs Q E hr h => ?_)
  · obtain ⟨v, d, n, m, rfl, _⟩ := h
    rfl
  · obtain ⟨v, d, n, m, rfl, hd, sz, q⟩ := h
    refine ⟨_, PSs.nox (pss_cons (ps_if (PW.pt (pw_or (pt_not (pt_val (pe_callB call_isi (by rfl) misi boot_isinstance (pa_cons (pv 0) (pa_cons (pe_bltn (v := .ty "tuple") (by rfl) mtup (by decide +kernel) rfl) pa_nil)))))
          (pw_or1 (pt_cmpR op_ne (pe_callB call_len_seq (by rfl) mlen PySem.boot_len (pa_cons (pv 0) pa_nil)) (pv 1) (nomark _))))) (pss_one (ps_ret pe_bl)) pss_nil)
      (pss_one (ps_ret (pe_callB (cr_all rfl) (by rfl) mall (by decide +kernel) (pa_cons (pe_lc (own := [("state", 3)]) (g := gName 3) (tt := tYes) rfl scFirsts.nd (pi_tup (pv 0)) (blkOk_by (N := ["value", "views", "many", "state"]) (sc := defScope (top iFirsts)) (by decide +kernel))
        (fun _ _ _ _ _ => pg_name (i := 3) scFirsts.nd rfl (Or.inl rfl)) (fun _ _ _ _ _ => pts_nil)
        (fun _ _ _ _ _ => pe_or (pe_cmp (pc_isN (pv 3)) rfl) (pe_one (pe_call FN hr (by rfl) gN kN bN .nil pass0 (pa_cons (pv 3) (pa_cons pe_int (pa_cons (pe_op op_sub (pv 2) pe_int) pa_nil))))))) pa_nil))))), ?_⟩
    have q0 := q H (Same.refl H)
    refine ⟨_, rfl, v, _, _, _, _, rfl, .ty _, hd.ty, kit_tup d, _, rfl, ite2 (fun e => ?_) (fun e => ?_)⟩
    · rw [show firstsD n m d = false by cases d <;> first | rfl | cases e] at q0
      exact q0
    obtain ⟨a, xs, ds, rfl, rfl, hT, hA⟩ := is_tup hd (nT e)
    have sz2 : PyData.bulkAll ds ≤ 100000 := sz
    have xl := hA.length
    have ed : firstsD n m (.tuple ds) = (decide ((ds.length : Int) = n) && ds.all (isViewD m)) := rfl
    have bulk_len : ∀ es : List PyData, es.length ≤ PyData.bulkAll es := fun es => by
      induction es with
      | nil => exact Nat.zero_le _
      | cons e es ih => rw [PyData.bulkAll, List.length_cons]; omega
    have dl := bulk_len ds
    refine ⟨_, rfl, a, xs, rfl, .inr hT, _, rfl, rfl, _, rfl, ite2 (fun e3 => ?_) (fun e3 => ?_)⟩
    · have z : ¬ ((ds.length : Int) = n) := by
        rintro rfl
        rw [xl] at e3
        simp at e3
      rw [ed, decide_eq_false z, Bool.false_and] at q0
      exact q0
    have ln : (ds.length : Int) = n := by
      by_cases z : (ds.length : Int) = n
      · exact z
      · refine absurd ?_ e3
        have z2 : ¬ (V.int ((xs.length : Nat) : Int) = V.int n) := fun y => by
          injection y with y
          omega
        rw [decide_eq_false z2]
        rfl
    have q2 := fun H' z => q H' z
    rw [ed, decide_eq_true ln, Bool.true_and, ← all_if] at q2
    obtain ⟨bs, hbs⟩ : ∃ bs, bs = ds.map (isViewD m) := ⟨_, rfl⟩
    rw [← hbs] at q2
    have bl : bs.length = ds.length := by rw [hbs, List.length_map]
    refine ⟨_, rfl, a, rfl, ⟨xs, hT⟩, fun D nD => lc_it (walk_tup (xs := xs)) (fun i H' => Same H H' ∧ H' D = some (.lst ((bs.take i).map V.bl))) ⟨same_upd nD, upd_same⟩ (fun _ H' _ hP => same_tup hP.1 hT) (fun i x H' H'' hm hP' hY => ?_) (fun H' hP' => ?_)⟩
    · obtain ⟨s1, hD⟩ := hP'
      obtain ⟨rfl, hx⟩ := hY
      obtain ⟨d1, h1, v1⟩ := hA.get hx
      have bi : bs[i]? = some (isViewD m d1) := by rw [hbs, List.getElem?_map, h1]; rfl
      have fin : ∃ xs, H'' D = some (.lst xs) ∧ xs.length < sizeLine ∧ (fun i H' => Same H H' ∧ H' D = some (.lst ((bs.take i).map V.bl))) (i + 1) (upd H'' D (.lst (xs ++ [V.bl (isViewD m d1)]))) :=
        ⟨_, hD, by rw [List.length_map, List.length_take]; exact small5 (by omega), fun y o u => by rw [upd_ne (ne_of_none u nD)]; exact s1 _ _ u, by rw [upd_same, bl_take bi]⟩
      refine ⟨rfl, _, rfl, _, rfl, ite2 (fun e5 => ?_) (fun e5 => ?_)⟩
      · have e5 : x = .non := of_decide_eq_true e5
        subst e5
        cases v1
        exact fin
      · have e5 : x ≠ .non := fun y => e5 (decide_eq_true y)
        rw [isView_nn v1 e5] at fin
        exact ⟨_, rfl, _, rfl, _, _, rfl, rfl, x, d1, 0, m - 1, rfl, v1.same' s1, fin⟩
    · obtain ⟨s1, hD⟩ := hP'
      rw [xl, ← bl, List.take_length] at hD
      exact ⟨D, _, rfl, .of hD, q2 H' s1⟩
theorem ok_areParts {k : Nat} (F : FnP K "are_parts" iAreParts f fd) (mlen : mg "len" = none)
    (FL : FnOk P w K mg base CX0 (k + 6) fS fdS ["value", "limits"] (spLook K w)) (gL : mg "is_look" = some (.ref fS)) (kL : PySem.W.keepIn K (.ref fS) = true) (bL : Binds K fdS ["value", "limits"] [])
    (FW : FnOk P w K mg base CX0 (k + 6) fW fdW ["value", "views", "limits"] (spWriter K w)) (gW : mg "is_writer" = some (.ref fW)) (kW : PySem.W.keepIn K (.ref fW) = true) (bW : Binds K fdW ["value", "views", "limits"] [])
    (FF : FnOk P w K mg base CX0 (k + 6) fM fdM ["value", "views", "many"] (spFirsts K)) (gF : mg "are_firsts" = some (.ref fM)) (kF : PySem.W.keepIn K (.ref fM) = true) (bF : Binds K fdM ["value", "views", "many"] []) :
    FnOk P w K mg base CX0 (k + 7) f fd ["writer", "look", "firsts", "limits"] (spParts K w) := by
  refine F.ok scAreParts (fun vs H Q E h => ?_) (fun cdv A outer s H vs Q E hr h => ?_)
  · obtain ⟨v1, v2, v3, dw, dl, df, L, rfl, _⟩ := h
    rfl
  · obtain ⟨v1, v2, v3, dw, dl, df, L, rfl, hL, h1, h2, h3, sz, q⟩ := h
    refine ⟨_, PSs.nox (pss_cons (ps_if (PW.pt (pw_or (pt_not (pt_val (pe_call FL hr (by rfl) gL kL bL .nil pass0 (pa_cons (pv 1) (pa_cons (pv 3) pa_nil)))))
          (pw_or1 (pt_not (pt_val (pe_call FW hr (by rfl) gW kW bW .nil pass0 (pa_cons (pv 0) (pa_cons (pe_callB call_len_seq (by rfl) mlen PySem.boot_len (pa_cons (pv 1) pa_nil)) (pa_cons (pv 3) pa_nil))))))))) (pss_one (ps_ret pe_bl)) pss_nil)
      (pss_one (ps_ret (pe_call FF hr (by rfl) gF kF bF .nil pass0 (pa_cons (pv 2) (pa_cons (pe_callB call_len_seq (by rfl) mlen PySem.boot_len (pa_cons (pv 1) pa_nil)) (pa_cons (pe_callB call_len_seq (by rfl) mlen PySem.boot_len (pa_cons (pv 0) pa_nil)) pa_nil))))))), ?_⟩
    have ed : partsD dw dl df = (lookD dl && writerD (lenD dl) dw && firstsD (lenD dl) (lenD dw) df) := rfl
    rw [ed] at q
    refine ⟨_, rfl, _, rfl, v2, dl, L, rfl, hL, h2, fun H1 s1 => ⟨_, rfl, ite2 (fun e => ?_) (fun e => ?_)⟩⟩
    · rw [nF e, Bool.false_and, Bool.false_and] at q
      exact q H1 s1
    have el := nT e
    rw [el, Bool.true_and] at q
    obtain ⟨ls, rfl⟩ : ∃ ls, dl = .sts ls := by
      cases dl with
      | bad => cases el
      | sts ls => exact ⟨ls, rfl⟩
    obtain ⟨a, xs, rfl, hT, hP, fewx⟩ := h2.same s1
    have pl := MD.paired_len hP
    have el2 : lenD (.sts ls) = (xs.length : Nat) := by rw [pl]; rfl
    rw [el2] at q
    refine ⟨_, rfl, _, rfl, a, xs, rfl, .inr hT, _, rfl, v1, dw, xs.length, L, rfl, same_tup s1 hL, h1.same s1, fun H2 s2 => ⟨_, rfl, ite2 (fun e2 => ?_) (fun e2 => ?_)⟩⟩
    · rw [nF e2, Bool.false_and] at q
      exact q H2 (s1.trans s2)
    have ew := nT e2
    rw [ew, Bool.true_and] at q
    obtain ⟨ws, rfl⟩ : ∃ ws, dw = .sts ws := by
      cases dw with
      | bad => cases ew
      | sts ls => exact ⟨ls, rfl⟩
    obtain ⟨b, ys, rfl, hT2, hP2, fewy⟩ := h1.same (s1.trans s2)
    have pl2 := MD.paired_len hP2
    rw [show lenD (.sts ws) = (ys.length : Nat) by rw [pl2]; rfl] at q
    exact ⟨_, rfl, _, rfl, a, xs, rfl, .inr (same_tup s2 hT), _, rfl, b, ys, rfl, .inr hT2, v3, df, xs.length, ys.length, rfl, h3.same' (s1.trans s2), sz, fun H3 s3 => q H3 ((s1.trans s2).trans s3)⟩
end
end K0
end
/-! ### WC0 -/
section
set_option Elab.async false
set_option linter.all false
set_option maxRecDepth 100000
set_option maxHeartbeats 4000000
/-! Draws: the dice's contracts in terms of Keep; heaps with some places hidden. -/
namespace K0
open PySem PySem.Spec PyProof.Rows L2
open MD (dM KeysV KeyV)
theorem keep_dice {p : Addr} {H H' : Hp} (k : Keep p H H') : Dice p H' := k.2
theorem Dice.keep {p : Addr} {H : Hp} (d : Dice p H) : Keep p H H := ⟨fun _ _ _ e => e, d⟩
theorem roll_at {p : Addr} {H : Hp} {t : Int} {Q : VK} {E : XK} (d : Dice p H) (h1 : 1 ≤ t) (h2 : t ≤ 1000) (q : ∀ r, 0 ≤ r → r < t → ∀ H', Keep p H H' → Q (.int r) H') : spRoll [.ref p, .int t] H Q E := by
  obtain ⟨a, b, c, e⟩ := d
  obtain ⟨n, rfl⟩ : ∃ n : Nat, t = n := ⟨t.toNat, by omega⟩
  exact ⟨p, a, b, c, n, rfl, e, len_div (by omega) (by rw [sizeLine_eq]; omega), fun a' b' c' r h0 hr => q r h0 hr _ (.dice a' b' c')⟩
theorem one_at {K : PySem.W.Frag} {p : Addr} {H : Hp} {v : V} {xs : List V} {Q : VK} {E : XK} (d : Dice p H) (hs : Its K (hid p H) v xs) (ne : xs ≠ []) (sz : xs.length ≤ 1000) (q : ∀ x ∈ xs, ∀ H', Keep p H H' → Q x H') : spOne K [.ref p, v] H Q E := by
  obtain ⟨a, b, c, e⟩ := d
  have mv : ∀ H', Keep p H H' → Its K H' v xs := fun H' k => by
    have s := (hid_keep k).trans hid_out
    rcases hs with ⟨l, rfl, h | h⟩ | ⟨z, rfl, h1, h2⟩
    · exact .inl ⟨l, rfl, .inl (s.seq h)⟩
    · exact .inl ⟨l, rfl, .inr (same_tup s h)⟩
    · exact .inr ⟨z, rfl, h1, h2⟩
  exact ⟨p, a, b, c, v, xs, rfl, e, mv H (Keep.refl e), ne, by rw [sizeLine_eq]; omega, fun a' b' c' => mv _ (.dice a' b' c'), fun a' b' c' i x hx => q x (List.mem_of_getElem? hx) _ (.dice a' b' c')⟩
theorem one_new {K : PySem.W.Frag} {p l : Addr} {H : Hp} {xs : List V} {Q : VK} {E : XK} (d : Dice p H) (nl : H l = none) (ne : xs ≠ []) (sz : xs.length ≤ 1000) (q : ∀ x ∈ xs, ∀ H', Keep p H H' → Q x H') : spOne K [.ref p, .ref l] (upd H l (.lst xs)) Q E := by
  obtain ⟨a, b, c, e⟩ := d
  have k := Keep.new (o := .lst xs) e nl
  refine one_at k.2 (.inl ⟨l, rfl, .inl (.of ?_)⟩) ne sz fun x m H' k2 => q x m H' (k.trans k2)
  rw [hid_ne (ne_of_none e nl).symm, upd_same]
/-- some places hidden -/
def hids (S : List Addr) (H : Hp) : Hp := fun b => if b ∈ S then none else H b
def KeepS (S : List Addr) (H H' : Hp) : Prop := ∀ b o, b ∉ S → H b = some o → H' b = some o
theorem hids_of {S : List Addr} {H : Hp} {b : Addr} (h : b ∉ S) : hids S H b = H b := if_neg h
theorem hids_some {S : List Addr} {H : Hp} {b : Addr} {o : HO} (h : hids S H b = some o) : b ∉ S ∧ H b = some o := by
  unfold hids at h
  split at h
  · cases h
  · exact ⟨by assumption, h⟩
theorem KeepS.hids {S : List Addr} {H H' : Hp} (k : KeepS S H H') : Same (K0.hids S H) (K0.hids S H') := fun b o h => by
  obtain ⟨h1, h2⟩ := hids_some h
  rw [hids_of h1]
  exact k b o h1 h2
theorem hids_out {S : List Addr} {H : Hp} : Same (hids S H) H := fun b o h => (hids_some h).2
theorem hids_sub {S S' : List Addr} {H : Hp} (h : ∀ b ∈ S, b ∈ S') : Same (hids S' H) (hids S H) := fun b o e => by
  obtain ⟨h1, h2⟩ := hids_some e
  rw [hids_of fun m => h1 (h b m)]
  exact h2
theorem hid_hids {p : Addr} {H : Hp} : Same (hids [p] H) (hid p H) := fun b o e => by
  obtain ⟨h1, h2⟩ := hids_some e
  rw [hid_ne fun z => h1 (by rw [z]; exact List.mem_singleton.mpr rfl)]
  exact h2
theorem hids_hid {p : Addr} {H : Hp} : Same (hid p H) (hids [p] H) := fun b o e => by
  have h : b ≠ p := fun z => by
    unfold hid at e
    rw [if_pos z] at e
    cases e
  rw [hid_ne h] at e
  rw [hids_of fun m => h (List.mem_singleton.mp m)]
  exact e
theorem KeepS.refl (S : List Addr) (H : Hp) : KeepS S H H := fun _ _ _ e => e
theorem KeepS.trans {S : List Addr} {H H1 H2 : Hp} (a : KeepS S H H1) (b : KeepS S H1 H2) : KeepS S H H2 := fun c o h e => b c o h (a c o h e)
theorem KeepS.more {S S' : List Addr} {H H' : Hp} (k : KeepS S H H') (h : ∀ b ∈ S, b ∈ S') : KeepS S' H H' := fun b o n e => k b o (fun m => n (h b m)) e
theorem Keep.s {p : Addr} {S : List Addr} {H H' : Hp} (k : Keep p H H') (h : p ∈ S) : KeepS S H H' := fun b o n e => k.1 b o (fun z => n (by rw [z]; exact h)) e
theorem KeepS.same {S : List Addr} {H H' : Hp} (h : Same H H') : KeepS S H H' := fun b o _ e => h b o e
theorem KeepS.mut {S : List Addr} {H : Hp} {m : Addr} {o : HO} (h : m ∈ S) : KeepS S H (upd H m o) := fun b u n e => by rw [upd_ne fun z => n (by rw [z]; exact h)]; exact e
theorem KeepS.new {S : List Addr} {H H' : Hp} {m : Addr} (k : KeepS (m :: S) H H') (n : H m = none) : KeepS S H H' := fun b o h e => k b o (fun z => (List.mem_cons.mp z).elim (fun z => by rw [z, n] at e; cases e) h) e
theorem KeepS.keep {p : Addr} {H H' : Hp} (k : KeepS [p] H H') (d : Dice p H') : Keep p H H' := ⟨fun b o n e => k b o (fun m => n (List.mem_singleton.mp m)) e, d⟩
end K0
end
/-! ### FZ -/
section
set_option Elab.async false
set_option linter.all false
set_option maxRecDepth 100000
set_option maxHeartbeats 4000000
/-! What tables of code and instances don't reach: values of data, parts of cleaners. -/
namespace K0
open PySem PySem.Spec PyProof.Rows L2 LamX
open MD (dM KeysV KeyV)
/-- all but the tables and the instance at x stay -/
def Ex (x : Addr) (H H' : Hp) : Prop := ∀ b o, b ≠ x → H b = some o → (∀ ps, o ≠ .tbl ps) → H' b = some o
def datO : HO → Option HO
  | .ins _ _ _ => none
  | .tbl _ => none
  | o => some o
def dat (H : Hp) : Hp := fun b => (H b).bind datO
theorem dat_of {H : Hp} {b : Addr} {o : HO} (e : H b = some o) : dat H b = datO o := by
  unfold dat
  rw [e]
  rfl
theorem dat_some {H : Hp} {b : Addr} {o : HO} (h : dat H b = some o) : H b = some o ∧ (∀ c d f, o ≠ .ins c d f) ∧ ∀ ps, o ≠ .tbl ps := by
  rcases e : H b with _ | u
  · unfold dat at h; rw [e] at h; cases h
  · rw [dat_of e] at h
    cases u with
    | ins c d f => cases h
    | tbl ps => cases h
    | _ => cases h; exact ⟨rfl, (fun _ _ _ z => by cases z), (fun _ z => by cases z)⟩
theorem dat_out {H : Hp} : Same (dat H) H := fun b o h => (dat_some h).1
theorem dat_ext {H H' : Hp} (k : ExtN H H') : Same (dat H) H' := fun b o h => k b o (dat_some h).1 (dat_some h).2.2
theorem dat_ex {x C dx : Addr} {fs : List (Str × V)} {H H' : Hp} (e : H x = some (.ins C dx fs)) (k : Ex x H H') : Same (dat H) H' := fun b o h => k b o (fun z => by
  have h1 := dat_some h
  rw [z, e] at h1
  exact h1.2.1 _ _ _ (Option.some.inj h1.1).symm) (dat_some h).1 (dat_some h).2.2
theorem Ex.trans {x : Addr} {H H1 H2 : Hp} (a : Ex x H H1) (b : Ex x H1 H2) : Ex x H H2 := fun c o n h t => b c o n (a c o n h t) t
theorem Ex.of {x : Addr} {H H' : Hp} (a : ExtN H H') : Ex x H H' := fun c o _ h t => a c o h t
theorem Ex.put {x : Addr} {H : Hp} {o : HO} : Ex x H (upd H x o) := fun c u n h _ => by rw [upd_ne n]; exact h
theorem sqt_dat {K : PySem.W.Frag} {H : Hp} {a : Addr} {xs : List V} (h : SqT K H a xs) : SqT K (dat H) a xs := by
  rcases h with (h | ⟨o, h⟩) | h
  · exact .inl (.inl (dat_of h))
  · exact .inl (.inr ⟨o, dat_of h⟩)
  · exact .inr h
theorem sql_dat {K : PySem.W.Frag} {H : Hp} {a : Addr} {xs : List V} (h : SqL K H a xs) : SqL K (dat H) a xs := by
  rcases h with (h | ⟨o, h⟩) | h
  · exact .inl (.inl (dat_of h))
  · exact .inl (.inr ⟨o, dat_of h⟩)
  · exact .inr h
theorem dv_dat {K : PySem.W.Frag} {H : Hp} {v : V} {d : PyData} (h : Dv K H v d) : Dv K (dat H) v d := by
  refine Dv.rec (K := K) (H := H) (motive_1 := fun v d _ => Dv K (dat H) v d) (motive_2 := fun vs ds _ => DvAll K (dat H) vs ds) ?_ ?_ ?_ ?_ ?_ ?_ ?_ ?_ ?_ h
  · exact .non
  · exact fun b => .bl b
  · exact fun i => .int i
  · exact fun x => .str x
  · exact fun h1 _ h2 => .lst (sql_dat h1) h2
  · exact fun h1 _ h2 => .tup (sqt_dat h1) h2
  · exact fun {a} {kvs} {ds} h1 h2 _ h3 => .dic (dat_of h1) h2 h3
  · exact .nil
  · exact fun _ _ h1 h2 => .cons h1 h2
theorem dvAll_dat {K : PySem.W.Frag} {H : Hp} : ∀ {vs : List V} {ds : List PyData}, DvAll K H vs ds → DvAll K (dat H) vs ds
  | _, _, .nil => .nil
  | _, _, .cons h t => .cons (dv_dat h) (dvAll_dat t)
mutual
theorem keyV_dat {K : PySem.W.Frag} {H : Hp} : ∀ (k : MD.NK) (v : V), KeyV K H v k → KeyV K (dat H) v k
  | .tup ks, _, h => by
    cases h with
    | atom q => exact .atom q
    | tup h1 h2 => exact .tup (sqt_dat h1) (keyVs_dat ks _ h2)
  | .none, _, h => by cases h with | atom q => exact .atom q
  | .num _, _, h => by cases h with | atom q => exact .atom q
  | .text _, _, h => by cases h with | atom q => exact .atom q
theorem keyVs_dat {K : PySem.W.Frag} {H : Hp} : ∀ (ks : List MD.NK) (vs : List V), MD.KeyVs K H vs ks → MD.KeyVs K (dat H) vs ks
  | [], _, h => by cases h; exact .nil
  | k :: ks, _, h => by cases h with | cons h1 h2 => exact .cons (keyV_dat k _ h1) (keyVs_dat ks _ h2)
end
theorem keysV_dat {K : PySem.W.Frag} {H : Hp} {kvs : List MD.Row} (h : KeysV K H kvs) : KeysV K (dat H) kvs := fun p m => ⟨keyV_dat _ _ (h p m).1, (h p m).2⟩
theorem rowsX_dat {K : PySem.W.Frag} {H : Hp} {rs : List RX} (h : RowsX K H rs) : RowsX K (K0.dat H) rs :=
  ⟨keysV_dat h.ks, h.nd, h.few, fun r m => ⟨dv_dat (h.dat r m).1, dv_dat (h.dat r m).2⟩, h.small⟩
theorem Ist.dat {K : PySem.W.Frag} {w : World} {H : Hp} {v : V} {n : String} {b : Bool} (h : Ist K w H v n b) : Ist K w (dat H) v n b := by
  rcases h with ⟨d, h, k⟩ | ⟨a, rows, rfl, h, k⟩ | ⟨a, xs, rfl, h, k⟩ | ⟨a, xs, rfl, h, k⟩
  · exact .inl ⟨d, dv_dat h, k⟩
  · exact .inr (.inl ⟨a, rows, rfl, dat_of h, k⟩)
  · exact .inr (.inr (.inl ⟨a, xs, rfl, sqt_dat h, k⟩))
  · exact .inr (.inr (.inr ⟨a, xs, rfl, sql_dat h, k⟩))
theorem StX.dat {K : PySem.W.Frag} {w : World} {H : Hp} {n : Nat} {v : V} : ∀ {d : StD}, StX K w H n v d → StX K w (dat H) n v d
  | .bad, h => by
    rcases h with h | ⟨a, xs, rfl, h, z | ⟨x, r, z, h2⟩⟩
    · exact .inl h.dat
    · exact .inr ⟨a, xs, rfl, sqt_dat h, .inl z⟩
    · exact .inr ⟨a, xs, rfl, sqt_dat h, .inr ⟨x, r, z, h2.dat⟩⟩
  | .good rs ys ds, h => by
    obtain ⟨a, m, rfl, h1, h2, h3, h4, h5, h6⟩ := h
    exact ⟨a, m, rfl, sqt_dat h1, dvAll_dat h2, h3, dat_of h4, rowsX_dat h5, h6⟩
theorem WhX.dat {K : PySem.W.Frag} {w : World} {H : Hp} {n : Nat} {v : V} : ∀ {d : WhD}, WhX K w H n v d → WhX K w (dat H) n v d
  | .bad, h => Ist.dat h
  | .sts ss, h => by
    obtain ⟨a, xs, rfl, h1, h2, h3⟩ := h
    exact ⟨a, xs, rfl, sqt_dat h1, pairedI2 (fun _ _ z => z.dat) h2, h3⟩
theorem tabs_put {T : List (Addr × Str)} {x C dx : Addr} {fs : List (Str × V)} {H : Hp} {o : HO} (e : H x = some (.ins C dx fs)) (t : Tabs T H) : Tabs T (upd H x o) := fun p hp => by
  obtain ⟨ps, h1, h2, h3⟩ := t p hp
  refine ⟨ps, by rw [upd_ne (fun z => by rw [z, e] at h1; cases h1)]; exact h1, h2, fun pos cv hc => ?_⟩
  obtain ⟨cc, e1, e2⟩ := h3 pos cv hc
  refine ⟨cc, e1, ?_⟩
  rw [upd_ne (fun z => by
    rw [z, e] at e2
    have y := Option.some.inj e2
    unfold CodeO at y
    cases y)]
  exact e2
theorem tabs_putL {T : List (Addr × Str)} {x : Addr} {ys : List V} {H : Hp} {o : HO} (e : H x = some (.lst ys)) (t : Tabs T H) : Tabs T (upd H x o) := fun p hp => by
  obtain ⟨ps, h1, h2, h3⟩ := t p hp
  refine ⟨ps, by rw [upd_ne (fun z => by rw [z, e] at h1; cases h1)]; exact h1, h2, fun pos cv hc => ?_⟩
  obtain ⟨cc, e1, e2⟩ := h3 pos cv hc
  refine ⟨cc, e1, ?_⟩
  rw [upd_ne (fun z => by
    rw [z, e] at e2
    have y := Option.some.inj e2
    unfold CodeO at y
    cases y)]
  exact e2
/-- a state as a cleaner keeps it -/
def KeptRow (K : PySem.W.Frag) (w : World) (H : Hp) (T : Addr) : StD → Prop
  | .good rs ys _ => ∃ d rows, SqT K H T (.ref d :: ys) ∧ H d = some (dM w d rows) ∧ rows.Perm (rs.map (·.1)) ∧ KeysV K H rows
  | .bad => False
def KeptAt (K : PySem.W.Frag) (w : World) (H : Hp) (t : Addr) (ss : List StD) : Prop := ∃ Ts : List Addr, SqT K H t (Ts.map V.ref) ∧ Paired (KeptRow K w H) Ts ss
theorem KeptRow.same {K : PySem.W.Frag} {w : World} {H H' : Hp} {T : Addr} : ∀ {d : StD}, KeptRow K w H T d → Same H H' → KeptRow K w H' T d
  | .bad, h, e => h
  | .good rs ys ds, h, e => by
    obtain ⟨d, rows, h1, h2, h3, h4⟩ := h
    exact ⟨d, rows, same_tup e h1, e _ _ h2, h3, h4.same e⟩
theorem KeptRow.dat {K : PySem.W.Frag} {w : World} {H : Hp} {T : Addr} : ∀ {d : StD}, KeptRow K w H T d → KeptRow K w (dat H) T d
  | .bad, h => h
  | .good rs ys ds, h => by
    obtain ⟨d, rows, h1, h2, h3, h4⟩ := h
    exact ⟨d, rows, sqt_dat h1, dat_of h2, h3, keysV_dat h4⟩
theorem KeptRow.off {K : PySem.W.Frag} {w : World} {H : Hp} {T l : Addr} {xs : List V} {u : HO} (e : H l = some (.lst xs)) : ∀ {d : StD}, KeptRow K w H T d → KeptRow K w (upd H l u) T d
  | .bad, h => h
  | .good rs ys ds, h => by
    obtain ⟨d, rows, h1, h2, h3, h4⟩ := h
    refine ⟨d, rows, ?_, by rw [upd_ne (fun z => by rw [z, e] at h2; cases h2)]; exact h2, h3, KeysV.off h4 (fun xs z => by rw [e] at z; cases z) (fun o xs z => by rw [e] at z; cases z)⟩
    rcases h1 with (h1 | ⟨o, h1⟩) | h1
    · exact .inl (.inl (by rw [upd_ne (fun z => by rw [z, e] at h1; cases h1)]; exact h1))
    · exact .inl (.inr ⟨o, by rw [upd_ne (fun z => by rw [z, e] at h1; cases h1)]; exact h1⟩)
    · exact .inr h1
theorem KeptAt.same {K : PySem.W.Frag} {w : World} {H H' : Hp} {t : Addr} {ss : List StD} (h : KeptAt K w H t ss) (e : Same H H') : KeptAt K w H' t ss := by
  obtain ⟨Ts, h1, h2⟩ := h
  exact ⟨Ts, same_tup e h1, pairedI2 (fun _ _ z => z.same e) h2⟩
theorem KeptAt.dat {K : PySem.W.Frag} {w : World} {H : Hp} {t : Addr} {ss : List StD} (h : KeptAt K w H t ss) : KeptAt K w (dat H) t ss := by
  obtain ⟨Ts, h1, h2⟩ := h
  exact ⟨Ts, sqt_dat h1, pairedI2 (fun _ _ z => z.dat) h2⟩
end K0
end
/-! ### CK -/
section
set_option Elab.async false
set_option linter.all false
set_option maxRecDepth 100000
set_option maxHeartbeats 4000000
/-! Cleaner._keep. -/
namespace K0
open PySem PySem.Spec PyProof.Rows L2 LamX
open MD (dM KeysV KeyV)
open SR (RowD)
def clsBody (s : Stmt) : List Stmt := match s with
  | .ClassDef (body := b) .. => b
  | _ => []
/-- the j-th row of the class Cleaner -/
def crow (j : Nat) : Stmt := (clsBody (top iCleaner)).getD j (.Pass ⟨0, 0, 0, 0⟩)
abbrev CrP (K : PySem.W.Frag) (x q : Str) (j : Nat) (f : Addr) (fd : FuncData) : Prop := FunD K x q (defArgs (crow j)) (defBody (crow j)) (defScope (crow j)) [] [] f fd
abbrev keN : List Str := ["self", "writer", "look", "firsts", "moves", "other", "last"]
theorem scKeep : FnScope keN ["self", "writer", "look", "firsts"] (defScope (crow 1)) := ⟨rfl, rfl, rfl, by decide +kernel, rfl, by decide +kernel, by decide +kernel⟩
/-- what the written part says of Cleaner -/
structure ClK (K : PySem.W.Frag) (C : Addr) : Prop where
  cl : Cls K C
  nw : NoAttr K C "_writer"
  nl : NoAttr K C "_look"
  nf : NoAttr K C "_firsts"
  no : NoAttr K C "_origins"
def goodS : StD → Prop
  | .bad => False
  | .good _ _ _ => True
/-- of a look's state: numbers only -/
def intsS : StD → Prop
  | .bad => False
  | .good rs ys _ => (∃ o : Int, ys = [.int o]) ∧ ∀ r ∈ rs, ∃ n : Int, r.1.2.2 = .int n
def insC (C dx tw tl to : Addr) (fv : V) : HO := .ins C dx [("_writer", .ref tw), ("_look", .ref tl), ("_firsts", fv), ("_origins", .ref to)]
def spKeep (K : PySem.W.Frag) (w : World) (C : Addr) (PT : List (Addr × Str)) : Sp := fun vs H Q _ => ∃ (x dx : Addr) (wv lv fv : V) (ws ls : List StD), vs = [.ref x, wv, lv, fv] ∧ H x = some (.ins C dx []) ∧ WhX K w H 3 wv (.sts ws) ∧ WhX K w H 2 lv (.sts ls) ∧ (∀ s ∈ ws, goodS s) ∧ (∀ s ∈ ls, intsS s) ∧ ls.length ≤ 3 ∧ ws.length ≤ 1000 ∧
  Tabs PT H ∧ ∀ H' tw tl to, Ex x H H' → Tabs PT H' → H' x = some (insC C dx tw tl to fv) → KeptAt K w H' tw ws → KeptAt K w H' tl ls → Q .non H'
theorem one_of {α : Type} {ds : List α} (h : ds.length = 1) : ∃ s, ds = [s] := by
  match ds, h with
  | [s], _ => exact ⟨s, rfl⟩
theorem paired_snoc {α β : Type} {R : α → β → Prop} {x : α} {y : β} (r : R x y) : ∀ {xs : List α} {ys : List β}, Paired R xs ys → Paired R (xs ++ [x]) (ys ++ [y])
  | _, _, .nil => .cons r .nil
  | _, _, .cons a t => .cons a (paired_snoc r t)
theorem take_snoc {α β : Type} {R : α → β → Prop} {xs : List α} {ys : List β} {i : Nat} {x : α} {y : β} (h : Paired R xs (ys.take i)) (e : ys[i]? = some y) (r : R x y) : Paired R (xs ++ [x]) (ys.take (i + 1)) := by
  rw [List.take_add_one, e]
  exact paired_snoc r h
theorem kept_new {K : PySem.W.Frag} {w : World} {H1 H2 : Hp} {T b : Addr} {rs : List RX} {vs : List V} {ds : List PyData} {ys : List RowD} (hR : RowsX K H1 rs) (eN : ExtN H1 H2) (pm : ys.Perm (rs.map fun r => (r.1, r.2.1))) (hb : H2 b = some (dM w b (ys.map (·.1)))) (nT : H2 T = none) :
    KeptRow K w (upd H2 T (.tup (.ref b :: vs))) T (.good rs vs ds) := by
  have pm2 : (ys.map (·.1)).Perm (rs.map (·.1)) := by
    have z := pm.map (·.1)
    rw [List.map_map] at z
    exact z
  refine ⟨b, _, .of upd_same, same_upd nT _ _ hb, pm2, ?_⟩
  refine KeysV.same (same_upd nT) fun p m => ?_
  exact KeysV.extN hR.ks eN p (pm2.mem_iff.mp m)
theorem rowsD {K : PySem.W.Frag} {H : Hp} {rs : List RX} (h : RowsX K H rs) : ∃ rd : List RowD, rd = rs.map (fun r => (r.1, r.2.1)) ∧ rd.map (·.1) = rs.map (·.1) ∧ rd.length ≤ 1000 ∧ ∀ r ∈ rd, Dv K H r.1.2.1 r.2 ∧ Fit r.2 := by
  refine ⟨_, rfl, by rw [List.map_map]; rfl, by rw [List.length_map]; exact h.few, fun r m => ?_⟩
  obtain ⟨q, hq, rfl⟩ := List.mem_map.mp m
  exact ⟨(h.dat q hq).1, (h.small q hq).2.2⟩
section
variable {P : Program} {w : World} {K : PySem.W.Frag} {mg : Str → Option Value} {base : Heap} {f fI fO C : Addr} {PT : List (Addr × Str)} {fd fdI fdO : FuncData}
theorem ok_keep {k : Nat} (F : CrP K "_keep" "Cleaner._keep" 1 f fd) (T : ClK K C) (mtup : mg "tuple" = none)
    (FI : FnG P w K mg base CX0 (k + 5) fI fdI ["moves"] (spInOrder K w PT)) (gI : mg "in_order" = some (.ref fI)) (kI : PySem.W.keepIn K (.ref fI) = true) (bI : Binds K fdI ["moves"] [])
    (FO : FnOk P w K mg base CX0 (k + 5) fO fdO ["look"] (spOrigins K w)) (gO : mg "origins_of" = some (.ref fO)) (kO : PySem.W.keepIn K (.ref fO) = true) (bO : Binds K fdO ["look"] []) :
    FnG P w K mg base CX0 (k + 6) f fd ["self", "writer", "look", "firsts"] (spKeep K w C PT) := by
  refine fnG_ofC F scKeep (fun vs H Q E h => ?_) (fun cdv hcd A outer s H vs Q E gd hr h => ?_)
  · obtain ⟨x, dx, wv, lv, fv, ws, ls, rfl, _⟩ := h
    rfl
  · obtain ⟨x, dx, wv, lv, fv, ws, ls, rfl, hx, hW, hL, gW, gL, l3, fw, tabs, q⟩ := h
    refine ⟨_, PSs.nox (C8.pss_cut (ps_fld (pv 0) (pe_callTy call_tuple_of (by rfl) mtup (by decide +kernel) (pa_cons (pe_lc (own := [("moves", 4), ("other", 5), ("last", 6)]) (g := gTup K 3 (gCons (gName 4) (gCons (gName 5) (gCons (gName 6) gNil)))) (tt := tYes) rfl scKeep.nd (pi_tup (pv 1)) (blkOk_by (N := keN) (sc := defScope (crow 1)) (by decide +kernel))
          (fun _ _ _ _ _ => pg_tup rfl (pgs_cons (pg_name (i := 4) scKeep.nd rfl (Or.inl rfl)) (pgs_cons (pg_name (i := 5) scKeep.nd rfl (Or.inl rfl)) (pgs_cons (pg_name (i := 6) scKeep.nd rfl (Or.inl rfl)) pgs_nil)))) (fun _ _ _ _ _ => pts_nil)
          (fun _ _ _ _ _ => pe_tup (pa_cons (peG FI gd hr (by rfl) gI kI bI pass0 (pa_cons (pv 4) pa_nil)) (pa_cons (pv 5) (pa_cons (pv 6) pa_nil))))) pa_nil)) rfl)
      (C8.pss_cut (ps_fld (pv 0) (pe_callTy call_tuple_of (by rfl) mtup (by decide +kernel) (pa_cons (pe_lc (own := [("moves", 4), ("other", 5)]) (g := gTup K 2 (gCons (gName 4) (gCons (gName 5) gNil))) (tt := tYes) rfl scKeep.nd (pi_tup (pv 2)) (blkOk_by (N := keN) (sc := defScope (crow 1)) (by decide +kernel))
          (fun _ _ _ _ _ => pg_tup rfl (pgs_cons (pg_name (i := 4) scKeep.nd rfl (Or.inl rfl)) (pgs_cons (pg_name (i := 5) scKeep.nd rfl (Or.inl rfl)) pgs_nil))) (fun _ _ _ _ _ => pts_nil)
          (fun _ _ _ _ _ => pe_tup (pa_cons (peG FI gd hr (by rfl) gI kI bI pass0 (pa_cons (pv 4) pa_nil)) (pa_cons (pv 5) pa_nil)))) pa_nil)) rfl)
      (pss_cons (ps_fld (pv 0) (pv 3) rfl)
      (pss_one (ps_fld (pv 0) (pe_call FO hr (by rfl) gO kO bO .nil pass0 (pa_cons (pe_fld (pv 0) rfl) pa_nil)) rfl))))), ?_⟩
    have sl : sizeLine = 16777216 := sizeLine_eq
    -- the writer
    refine ⟨fun σ' H' => σ' = [some (.ref x), some wv, some lv, some fv, none, none, none] ∧ ∃ tw, Ex x H H' ∧ Tabs PT H' ∧ H' x = some (.ins C dx [("_writer", .ref tw)]) ∧ KeptAt K w H' tw ws, ?_, ?_⟩
    · obtain ⟨a, xs, rfl, hT, hP, fx⟩ := hW
      have pl := MD.paired_len hP
      refine ⟨_, rfl, a, rfl, ⟨xs, hT⟩, fun D nD => lc_it (walk_tup (xs := xs)) (fun i H' => ExtN H H' ∧ Tabs PT H' ∧ ∃ Ts : List Addr, H' D = some (.lst (Ts.map V.ref)) ∧ Paired (KeptRow K w H') Ts (ws.take i))
        ⟨ExtN.of (same_upd nD), Tabs.ext tabs (same_upd nD), [], upd_same, by rw [List.take_zero]; exact .nil⟩ (fun _ H' _ hP' => ?_) (fun i y H' H'' hm hP' hY => ?_) (fun H' hP' => ?_)⟩
      · exact same_tup (dat_ext hP'.1) (sqt_dat hT)
      · obtain ⟨e1, t1, Ts, hD, hK⟩ := hP'
        obtain ⟨rfl, hx2⟩ := hY
        obtain ⟨s1, hs, st⟩ := pairedX hP hx2
        have ms := List.mem_of_getElem? hs
        have g1 := gW s1 ms
        cases s1 with
        | bad => exact g1.elim
        | good rs ys ds =>
          obtain ⟨b, m, rfl, h1, h2, h3, h4, h5, h6⟩ := st.dat.same (dat_ext e1)
          obtain ⟨v5, v6, rfl⟩ : ∃ v5 v6, ys = [v5, v6] := by
            have := h2.length
            exact two (by omega)
          obtain ⟨rd, erd, e2, e3, e4⟩ := rowsD h5
          refine ⟨b, _, rfl, h1, rfl, _, _, rfl, _, _, rfl, _, _, rfl, rfl, rfl, _, rfl, m, rd, rfl, by rw [e2]; exact h4, by rw [e2]; exact h5.ks, by rw [e2]; exact h5.nd, e3, e4, t1, fun H3 n zs eN t3 pm fr hn => ?_⟩
          have nd3 : H3 D = some (.lst (Ts.map V.ref)) := eN _ _ hD (fun _ z => by cases z)
          refine ⟨_, rfl, _, rfl, by show 3 ≤ sizeLine; omega, fun T nT => ⟨Ts.map V.ref, same_upd nT _ _ nd3, ?_, ?_⟩⟩
          · rw [List.length_map, MD.paired_len hK, List.length_take]
            omega
          · have sD := same_upd (o := .tup [.ref n, v5, v6]) nT
            have lD : upd H3 T (.tup [.ref n, v5, v6]) D = some (.lst (Ts.map V.ref)) := sD _ _ nd3
            refine ⟨fun y o u nt => ?_, tabs_putL lD (Tabs.ext t3 sD), Ts ++ [T], by rw [upd_same, List.map_append]; rfl, take_snoc (pairedI2 (fun _ _ z => ?_) hK) hs ?_⟩
            · rw [upd_ne (ne_of_none u nD)]
              exact sD _ _ (eN _ _ (e1 _ _ u nt) nt)
            · exact ((z.dat.same (dat_ext eN)).same sD).off lD
            · exact (kept_new h5 eN (erd ▸ pm) hn nT).off lD
      · obtain ⟨e1, t1, Ts, hD, hK⟩ := hP'
        rw [pl, List.take_length] at hK
        refine ⟨D, _, rfl, .inl ⟨.of hD, fun tw ntw => ?_⟩⟩
        have s2 := same_upd (o := .tup (Ts.map V.ref)) ntw
        have hx1 := s2 _ _ (e1 _ _ hx (fun _ z => by cases z))
        refine ⟨_, rfl, x, C, dx, [], rfl, hx1, T.cl, T.nw, by decide, rfl, tw, (Ex.trans (Ex.of (e1.trans (ExtN.of s2))) Ex.put), tabs_put hx1 (Tabs.ext t1 s2), upd_same, ?_⟩
        have kk : KeptAt K w (upd H' tw (.tup (Ts.map V.ref))) tw ws := ⟨Ts, .of upd_same, pairedI2 (fun _ _ z => z.same s2) hK⟩
        exact kk.dat.same (dat_ex hx1 Ex.put)
    rintro σ1 H1 ⟨rfl, tw, x1, t1, hx1, kw⟩
    -- the look
    refine ⟨fun σ' H' => σ' = [some (.ref x), some wv, some lv, some fv, none, none, none] ∧ ∃ tl, Ex x H1 H' ∧ Tabs PT H' ∧ H' x = some (.ins C dx [("_writer", .ref tw), ("_look", .ref tl)]) ∧ KeptAt K w H' tl ls, ?_, ?_⟩
    · obtain ⟨a, xs, rfl, hT, hP, fx⟩ := hL.dat.same (dat_ex hx x1)
      have pl := MD.paired_len hP
      refine ⟨_, rfl, a, rfl, ⟨xs, hT⟩, fun D nD => lc_it (walk_tup (xs := xs)) (fun i H' => ExtN H1 H' ∧ Tabs PT H' ∧ ∃ Ts : List Addr, H' D = some (.lst (Ts.map V.ref)) ∧ Paired (KeptRow K w H') Ts (ls.take i))
        ⟨ExtN.of (same_upd nD), Tabs.ext t1 (same_upd nD), [], upd_same, by rw [List.take_zero]; exact .nil⟩ (fun _ H' _ hP' => ?_) (fun i y H' H'' hm hP' hY => ?_) (fun H' hP' => ?_)⟩
      · exact same_tup (dat_ext hP'.1) (sqt_dat hT)
      · obtain ⟨e1, t2, Ts, hD, hK⟩ := hP'
        obtain ⟨rfl, hx2⟩ := hY
        obtain ⟨s1, hs, st⟩ := pairedX hP hx2
        have ms := List.mem_of_getElem? hs
        have g1 := gL s1 ms
        cases s1 with
        | bad => exact g1.elim
        | good rs ys ds =>
          obtain ⟨b, m, rfl, h1, h2, h3, h4, h5, h6⟩ := st.dat.same (dat_ext e1)
          obtain ⟨v5, rfl⟩ : ∃ v5, ys = [v5] := by
            have := h2.length
            exact one_of (by omega)
          obtain ⟨rd, erd, e2, e3, e4⟩ := rowsD h5
          refine ⟨b, _, rfl, h1, rfl, _, _, rfl, _, _, rfl, rfl, rfl, _, rfl, m, rd, rfl, by rw [e2]; exact h4, by rw [e2]; exact h5.ks, by rw [e2]; exact h5.nd, e3, e4, t2, fun H3 n zs eN t3 pm fr hn => ?_⟩
          have nd3 : H3 D = some (.lst (Ts.map V.ref)) := eN _ _ hD (fun _ z => by cases z)
          refine ⟨_, rfl, by show 2 ≤ sizeLine; omega, fun T nT => ⟨Ts.map V.ref, same_upd nT _ _ nd3, ?_, ?_⟩⟩
          · rw [List.length_map, MD.paired_len hK, List.length_take]
            omega
          · have sD := same_upd (o := .tup [.ref n, v5]) nT
            have lD : upd H3 T (.tup [.ref n, v5]) D = some (.lst (Ts.map V.ref)) := sD _ _ nd3
            refine ⟨fun y o u nt => ?_, tabs_putL lD (Tabs.ext t3 sD), Ts ++ [T], by rw [upd_same, List.map_append]; rfl, take_snoc (pairedI2 (fun _ _ z => ?_) hK) hs ?_⟩
            · rw [upd_ne (ne_of_none u nD)]
              exact sD _ _ (eN _ _ (e1 _ _ u nt) nt)
            · exact ((z.dat.same (dat_ext eN)).same sD).off lD
            · exact (kept_new h5 eN (erd ▸ pm) hn nT).off lD
      · obtain ⟨e1, t2, Ts, hD, hK⟩ := hP'
        rw [pl, List.take_length] at hK
        refine ⟨D, _, rfl, .inl ⟨.of hD, fun tl ntl => ?_⟩⟩
        have s2 := same_upd (o := .tup (Ts.map V.ref)) ntl
        have hx3 := s2 _ _ (e1 _ _ hx1 (fun _ z => by cases z))
        refine ⟨_, rfl, x, C, dx, _, rfl, hx3, T.cl, T.nl, by show 1 < 1000; decide, rfl, tl, (Ex.trans (Ex.of (e1.trans (ExtN.of s2))) Ex.put), tabs_put hx3 (Tabs.ext t2 s2), upd_same, ?_⟩
        have kk : KeptAt K w (upd H' tl (.tup (Ts.map V.ref))) tl ls := ⟨Ts, .of upd_same, pairedI2 (fun _ _ z => z.same s2) hK⟩
        exact kk.dat.same (dat_ex hx3 Ex.put)
    rintro σ2 H2 ⟨rfl, tl, x2, t2, hx2, kl⟩
    have kw2 := kw.dat.same (dat_ex hx1 x2)
    refine ⟨_, rfl, _, rfl, x, C, dx, _, rfl, hx2, T.cl, T.nf, by show 2 < 1000; decide, ?_⟩
    have x3 : Ex x H2 (upd H2 x (.ins C dx (putF "_firsts" fv [("_writer", .ref tw), ("_look", .ref tl)]))) := Ex.put
    have kl3 := kl.dat.same (dat_ex hx2 x3)
    have kw3 := kw2.dat.same (dat_ex hx2 x3)
    refine ⟨_, rfl, x, C, dx, _, _, rfl, upd_same, T.cl, T.nl, rfl, ?_⟩
    obtain ⟨Ts, hTs, hKs⟩ := kl3
    have lT := MD.paired_len hKs
    refine ⟨tl, Ts.map V.ref, rfl, hTs, by rw [List.length_map]; omega, fun v hv => ?_, fun H4 to s4 => ?_⟩
    · obtain ⟨T0, hT0, rfl⟩ := List.mem_map.mp hv
      obtain ⟨i, hi⟩ := List.mem_iff_getElem?.mp hT0
      obtain ⟨sd, hsd, kr⟩ := pairedX hKs hi
      have g1 := gL sd (List.mem_of_getElem? hsd)
      cases sd with
      | bad => exact g1.elim
      | good rs ys ds =>
        obtain ⟨⟨o, rfl⟩, g2⟩ := g1
        obtain ⟨d, rows, h1, h2, h3, h4⟩ := kr
        refine ⟨T0, d, o, rows, rfl, h1, h2, h4, fun r hr2 => ?_⟩
        obtain ⟨z, hz, rfl⟩ := List.mem_map.mp (h3.mem_iff.mp hr2)
        exact g2 z hz
    · have hx4 := s4 _ _ upd_same
      refine ⟨_, rfl, x, C, dx, _, rfl, hx4, T.cl, T.no, by show 3 < 1000; decide, ?_⟩
      have x4 : Ex x (upd H2 x (.ins C dx (putF "_firsts" fv [("_writer", .ref tw), ("_look", .ref tl)]))) H4 := fun b o _ h _ => s4 _ _ h
      have x5 : Ex x H4 (upd H4 x (.ins C dx (putF "_origins" (.ref to) (putF "_firsts" fv [("_writer", .ref tw), ("_look", .ref tl)])))) := Ex.put
      refine q _ tw tl to (x1.trans (x2.trans (x3.trans (x4.trans x5)))) (tabs_put hx4 (Tabs.ext (tabs_put hx2 t2) s4)) upd_same ?_ ?_
      · exact (kw3.same s4).dat.same (dat_ex hx4 x5)
      · exact (KeptAt.same ⟨Ts, hTs, hKs⟩ s4).dat.same (dat_ex hx4 x5)
end
end K0
end
/-! ### RG -/
section
set_option Elab.async false
set_option linter.all false
set_option maxRecDepth 100000
set_option maxHeartbeats 4000000
/-! Defs that want that nothing is being shown, called as a method and as a constructor with keywords; tuple * int from 1 on. -/
namespace K0
open PySem PySem.Spec PyProof.Rows L2
section
variable {X : Cx} {CX : CXT} {k n : Nat} {f C : Addr} {fd : FuncData} {ps ks : List Str} {sp : Sp} {E : XK} {x m : Str} {p pos apos : Pos} {o e : Expr} {es : List Expr} {kws : List Keyword} {ta : TE} {t tk : TA} {g : List Value → List Value → List Value} {gV : List V → List V → List V}
theorem run_fnG {pins : List (Addr × Obj)} {σ : L2.St} {H : Hp} {s : Shared} {Q : VK} {us : List Value} {vs : List V} (F : FnG X.prog X.w X.K X.mg X.base CX k f fd ps sp) (gd : X.A.guards = some []) (hr : Room k X.A) (hb : Binds X.K fd ps []) (hx : Passes CX X E) (I : Inv X pins σ H s) (r : Vals vs us) (q : sp vs H Q E) :
    wpAny (model X.prog X.w) X.A (call (.ref f) us) (EP X pins σ Q) X.xe s := by
  have size : (us ++ []).length = ps.length := by rw [List.append_nil, ← r.length]; exact F.many _ _ _ _ q
  have bd2 := hb s us I.kIn size
  rw [List.append_nil] at bd2
  refine wpAny_call (codeAny_mono (F.go X.A X.stack s H ⟨us, []⟩ us vs Q E gd hr I.env0 bd2 r q) fun res s' z => ?_)
  rcases res with err | fl
  · exact hx pins σ H s err s' I z
  · cases fl with
    | ret u => exact I.after z
    | next => exact z.elim
    | brk => exact z.elim
    | cont => exact z.elim
/-- o.m(e, ..), the method such a def -/
theorem pe_methG {pl : Sem Bool} (F : FnG X.prog X.w X.K X.mg X.base CX k f fd ps sp) (gd : X.A.guards = some []) (he : PE X o ta) (c : Cls X.K C) (hm : Meth X.K C m f) (hr : Room k X.A) (hb : Binds X.K fd ps []) (hx : Passes CX X E) (ha : PA X (e :: es) t)
    (hst : starEach (e :: es) X.env = (false, eval e X.env) :: starEach es X.env := by rfl) (hpl : (backTo pos (starEach es X.env)).any (·.1) = false := by rfl)
    (ht : eval (.Call (.Attribute o m apos) (e :: es) [] pos) X.env = (do
      let ov ← eval o X.env
      standAt apos.atName
      let (f, first) ← holding [ov] (getMethod ov m pl)
      callWith pos f first (backTo pos (starEach (e :: es) X.env)) (backToKw pos (keywordEach [] X.env))) := by rfl) :
    PE X (.Call (.Attribute o m apos) (e :: es) [] pos) (tMeth C m sp [] E ta t) := by
  refine ⟨fun pins s σ H Q I h => ?_⟩
  refine PySem.W.methodCall_KW (pl := pl) (thn (he.run pins s σ H _ I h) fun u s1 ⟨x, H1, I1, rx, a, dx, fs, ex, ea, l, q⟩ => ?_) ht
  subst ex
  obtain rfl : u = Value.ref a := rx
  refine getmeth_ok I1 ea c hm l ?_
  refine PySem.W.callWith_K (first := [.ref a]) (h₀ := X.base) I.ok.mod.kin hm.kp (thn (ha.run pos pins s1 σ H1 _ I1 q) fun us s2 ⟨vs, H2, I2, r, q2⟩ => ⟨I2.kIn, ?_⟩) hst hpl
  have q2 : sp (.ref a :: (vs ++ [])) H2 Q E := q2
  rw [List.append_nil] at q2
  exact run_fnG (us := .ref a :: us) (vs := .ref a :: vs) F gd hr hb hx I2 (.cons rfl r) q2
theorem guards_make {A : Around} {us : List Value} {kw : List (Str × Value)} (gd : A.guards = some []) : (A.under (.builtin "type.__call__" ⟨us, kw⟩)).guards = some [] := by
  unfold Around.under
  simp only []
  rw [gd]
  have z : Code.guards (.builtin "type.__call__" ⟨us, kw⟩) = [] := by
    unfold Code.guards
    rw [show Code.isGuard (.builtin "type.__call__" ⟨us, kw⟩) = false from by show guardIds.contains "type.__call__" = false; decide +kernel]
    rfl
  rw [z]
  rfl
/-- C(e, .., k = v, ..), __init__ such a def -/
theorem pe_makeKG (M : Mk X.K C f) (F : FnG X.prog X.w X.K X.mg X.base CX k f fd ps sp) (gd : X.A.guards = some []) (hr : Room (k + 1) X.A) (hg : Gl X x) (hm : X.mg x = some (.ref C)) (hb : KBn X.K fd ps (n + 1) ks g gV) (hx : Passes CX X E) (ha : PA X (e :: es) t) (hkw : PK X kws tk)
    (hall : (backToKw pos (keywordEach kws X.env)).all (·.1.isSome) = true := by rfl) (hks : (backToKw pos (keywordEach kws X.env)).filterMap (·.1) = ks := by rfl) (hdb : (x == ("__debug__" : Str)) = false := by decide)
    (he : starEach (e :: es) X.env = (false, eval e X.env) :: starEach es X.env := by rfl) (hpl : ((backTo pos (starEach (e :: es) X.env)).any (·.1) || (backToKw pos (keywordEach kws X.env)).any (·.1.isNone)) = false := by rfl) :
    PE X (.Call (.Name x p) (e :: es) kws pos) (tMakeK C n ks.length sp gV E t tk) := by
  refine ⟨fun pins s σ H Q I h => ?_⟩
  refine wpAny_Call_Name_kw (ld_glob I hg hm ?_ hdb)
  refine PySem.W.callWith_KW (h₀ := X.base) I.ok.mod.kin M.kp hall (thn (ha.run pos pins s σ H _ I h) fun us s1 ⟨vs, H1, I1, r, q⟩ => ?_) hpl he
  refine thn (hkw.run pos pins s1 σ H1 _ I1 q) fun ws s2 ⟨zs, H2, I2, rz, l1, l2, q2⟩ => ⟨I2.kIn, ?_⟩
  rw [hks]
  have hq := q2 (s2.heap.objs.size + 1) s2.heap.objs.size (I2.hok.fresh (Nat.le_succ _)) (I2.hok.fresh (Nat.le_refl _)) (Nat.ne_of_lt (Nat.lt_succ_self _))
  have I3 := Inv.made (C := C) I2
  have r1 : Vals (V.ref (s2.heap.objs.size + 1) :: vs) (Value.ref (s2.heap.objs.size + 1) :: us) := .cons rfl r
  have r2 := hb.rel r1 rz
  have n1 : (Value.ref (s2.heap.objs.size + 1) :: us).length = n + 1 := by rw [List.length_cons, ← r.length, l1]
  refine wpAny_call (make_map (f := f) I2.kIn M.makes M.init (beq_iff_eq.mp M.fn) (codeAny_mono (F.go _ X.stack _ _ ⟨Value.ref (s2.heap.objs.size + 1) :: us, ks.zip ws⟩ (g (Value.ref (s2.heap.objs.size + 1) :: us) ws) _ _ E (guards_make gd) (hr.make C us (ks.zip ws))
    (I3.env0.make C us (ks.zip ws)) (hb.to _ (Value.ref (s2.heap.objs.size + 1) :: us) ws I3.kIn n1 (rz.length.symm.trans l2)) r2 hq) fun r s' hq' => ?_))
  cases r with
  | error e => exact hx pins σ _ _ e s' I3 hq'
  | ok fl =>
    cases fl with
    | ret u =>
      obtain ⟨v, H', I4, rv, ev, q3⟩ := I3.after hq'
      subst ev
      exact ⟨rv, ⟨V.ref (s2.heap.objs.size + 1), H', I4, rfl, q3⟩⟩
    | next => exact False.elim hq'
    | brk => exact False.elim hq'
    | cont => exact False.elim hq'
end
theorem tuple_mul1 (l : Addr) (items : Array Value) (n : Nat) (dd : Option Addr) (sl : Array (Option Value)) (u : Tok) :
    Meets (Builtin.«tuple.__mul__» ⟨[.ref l, .int 1 u], []⟩) (fun _ R s => s.heap.get? l = some { cls := .type "tuple", dict := dd, data := .seq items n, slots := sl } ∧ R (.ok (.ret (Value.ref l))) s) :=
  .of_wp fun prog w A R s h => by
    obtain ⟨hp, g, d, tk, os⟩ := s
    obtain ⟨hl, h⟩ := h
    have f1 := AutoSeq1.idx_int
    have c1 : (items.isEmpty || (1 : Int) == 1) = true := by simp
    wp_walk using wpAny_loadPart' hl
    repeat (first
      | (refine wpAny_ite_false (decide_eq_false (by decide)) ?_; wp_walk using wpAny_loadPart' hl)
      | (refine wpAny_ite_true (decide_eq_true c1) ?_; wp_walk using wpAny_loadPart' hl))
    exact ⟨_, rfl, h⟩
/-- t * k, from 1 on -/
def rRepA (K : PySem.W.Frag) : R2 := fun x y H Q => ∃ l k xs, x = .ref l ∧ y = .int k ∧ SqT K H l xs ∧ xs ≠ [] ∧ 1 ≤ k ∧ k ≤ 1000 ∧ xs.length ≤ 1000 ∧ (k = 1 → Q (.ref l) H) ∧ (2 ≤ k → ∀ p, H p = none → Q (.ref p) (upd H p (.tup (List.replicate k.toNat xs).flatten)))
theorem op_repA {X : Cx} : OpR X (binaryOp .Mult) (rRepA X.K) := by
  intro pins s σ H x y v u Q I rx ry h
  obtain ⟨l, k, xs, rfl, rfl, hT, hne, h1, h2, hz, q1, q⟩ := h
  by_cases k1 : k = 1
  · subst k1
    cases rx
    obtain ⟨t, rfl⟩ := ry
    obtain ⟨its, r, ⟨⟨cls, dd, data, sl⟩, ho, hc, n, hd⟩, hs⟩ := I.tuple hT
    simp only at hc hd
    subst hc hd
    refine wpAny_binaryOp_repeat_ref (T := "tuple") (U := "int") (by decide) ⟨_, ho, rfl⟩ (fun s' => typeIs_int s' 1 t) noFill_tuple_mul F.fills_int_mul F.slot_int_rmul repeat_tuple F.slot_int_index.lookup
      (call_meets F.slot_int_rmul (typeIs_int s 1 t) F.entry_int_rmul (F.args_int_rmul_2 _ _) (int_rmul_tuple 1 t l its.toArray n dd sl)
        ⟨ho, rfl, ⟨_, ho, rfl⟩, call_meets F.slot_tuple_mul ⟨_, ho, rfl⟩ F.entry_tuple_mul (F.args_tuple_mul_2 _ _) (tuple_mul1 l its.toArray n dd sl t) ⟨ho, ?_⟩⟩)
    exact ⟨.ref l, H, I, rfl, q1 rfl⟩
  · exact op_repT pins s σ H _ _ v u Q I rx ry ⟨l, k, xs, rfl, rfl, hT, hne, by omega, h2, hz, q (by omega)⟩
end K0
end
/-! ### CI -/
section
set_option Elab.async false
set_option linter.all false
set_option maxRecDepth 100000
set_option maxHeartbeats 4000000
/-! Cleaner.__init__. -/
namespace K0
open PySem PySem.Spec PyProof.Rows L2 LamX
open MD (dM KeysV KeyV call_isiM)
abbrev ciN : List Str := ["self", "writer", "look", "firsts", "seen", "first"]
theorem scCInit : FnScope ciN ["self", "writer", "look", "firsts"] (defScope (crow 0)) := ⟨rfl, rfl, rfl, by decide +kernel, rfl, by decide +kernel, by decide +kernel⟩
abbrev CiP (K : PySem.W.Frag) (f : Addr) (fd : FuncData) : Prop := FunD K "__init__" "Cleaner.__init__" (defArgs (crow 0)) (defBody (crow 0)) (defScope (crow 0)) [] [("look", .non), ("firsts", .non)] f fd
/-- what the written part says of InvalidCleaner -/
structure ExcK (K : PySem.W.Frag) (CE : Addr) : Prop where
  exc : PySem.W.excIn K CE He.veBase "ValueError.__new__" = true
  kp : PySem.W.keepIn K (.ref CE) = true
  sub : PySem.W.subIn K (.ref CE) (.type "BaseException") = some true
  ty : PySem.W.typeIn K (.ref CE) = some (.type "type")
def dl0 : WhD := .sts [.good [] [.int 0] [.int 0]]
def zerosD (n : Nat) : PyData := .tuple (List.replicate n (.int 0))
def firstD : WhD → PyData → PyData
  | .sts ss, .none => zerosD ss.length
  | _, d => d
def LookV (K : PySem.W.Frag) (w : World) (H : Hp) (lv : V) (dl : WhD) : Prop := (lv = .non ∧ dl = dl0) ∨ (lv ≠ .non ∧ WhX K w H 2 lv dl)
theorem LookV.same {K : PySem.W.Frag} {w : World} {H H' : Hp} {lv : V} {dl : WhD} (h : LookV K w H lv dl) (e : Same H H') : LookV K w H' lv dl := h.elim .inl fun z => .inr ⟨z.1, z.2.same e⟩
def stsD : WhD → List StD
  | .sts ss => ss
  | _ => []
def spCInit (K : PySem.W.Frag) (w : World) (C CE : Addr) (PT : List (Addr × Str)) : Sp := fun vs H Q E => ∃ (x dx : Addr) (wv lv fv : V) (dw dl : WhD) (df : PyData), vs = [.ref x, wv, lv, fv] ∧ H x = some (.ins C dx []) ∧ WhX K w H 3 wv dw ∧ LookV K w H lv dl ∧ Dv K H fv df ∧ df.bulk ≤ 10000 ∧
  (df = .none → ∀ ss, dl = .sts ss → ss.length ≤ 1000) ∧ Tabs PT H ∧
  (partsD dw dl (firstD dl df) = true → ∀ H' tw tl to fv', (fv ≠ .non → fv' = fv) → Dv K H' fv' (firstD dl df) → Ex x H H' → Tabs PT H' → H' x = some (insC C dx tw tl to fv') → KeptAt K w H' tw (stsD dw) → KeptAt K w H' tl (stsD dl) → Q .non H') ∧
  (partsD dw dl (firstD dl df) = false → ∀ H', Same H H' → E (.ref CE) none H')
theorem num_int {K : PySem.W.Frag} {H : Hp} {v : V} {d : PyData} {lo hi : Int} (h : Dv K H v d) (n : isNumD lo hi d = true) : ∃ i : Int, v = .int i ∧ lo ≤ i ∧ i ≤ hi := by
  cases h with
  | int i =>
    have n : (decide (lo ≤ i) && decide (i ≤ hi)) = true := n
    rw [Bool.and_eq_true, decide_eq_true_iff, decide_eq_true_iff] at n
    exact ⟨i, rfl, n⟩
  | _ => cases n
theorem look_ints {K : PySem.W.Frag} {w : World} {H : Hp} {v : V} {ls : List StD} (h : WhX K w H 2 v (.sts ls)) (g : lookD (.sts ls) = true) : (∀ s ∈ ls, intsS s) ∧ ls.length ≤ 3 := by
  have g : (decide (0 < ls.length) && decide (ls.length ≤ 3) && ls.all (lStD ls.length)) = true := g
  rw [Bool.and_eq_true, Bool.and_eq_true, decide_eq_true_iff, decide_eq_true_iff] at g
  refine ⟨fun s hs => ?_, g.1.2⟩
  obtain ⟨a, xs, rfl, hT, hP, _⟩ := h
  obtain ⟨i, hi⟩ := List.mem_iff_getElem?.mp hs
  obtain ⟨x, hx, st⟩ := MD.paired_get hP hi
  have z := List.all_eq_true.mp g.2 s hs
  cases s with
  | bad => cases z
  | good rs ys ds =>
    obtain ⟨b, m, rfl, h1, h2, h3, h4, h5, h6⟩ := st
    obtain ⟨o, rfl⟩ : ∃ o, ds = [o] := one_of (by omega)
    have z : (isNumD 0 ((ls.length : Int) - 1) o && rs.all fun r => isSignD r.2.1 && isNumD 0 ((ls.length : Int) - 1) r.2.2) = true := z
    obtain ⟨z1, z2⟩ := Bool.and_eq_true_iff.mp z
    cases h2 with
    | cons g1 g2 =>
    cases g2
    obtain ⟨n, rfl, _⟩ := num_int g1 z1
    refine ⟨⟨n, rfl⟩, fun r hr => ?_⟩
    have y := List.all_eq_true.mp z2 r hr
    rw [Bool.and_eq_true] at y
    obtain ⟨n2, e, _⟩ := num_int (h5.dat r hr).2 y.2
    exact ⟨n2, e⟩
theorem writer_good {ws : List StD} {n : Int} (g : writerD n (.sts ws) = true) : ∀ s ∈ ws, goodS s := by
  have g : (decide (0 < ws.length) && decide (ws.length ≤ 4) && ws.all (wStD ws.length n)) = true := g
  rw [Bool.and_eq_true] at g
  intro s hs
  have z := List.all_eq_true.mp g.2 s hs
  cases s with
  | bad => cases z
  | good rs ys ds => exact True.intro
theorem zeros_bulk : ∀ n : Nat, PyData.bulkAll (List.replicate n (.int 0)) ≤ 3 * n
  | 0 => Nat.le_refl _
  | n + 1 => by
    have := zeros_bulk n
    rw [List.replicate_succ, PyData.bulkAll]
    have : (PyData.int 0).bulk ≤ 2 := by decide +kernel
    omega
theorem zeros_dv {K : PySem.W.Frag} {H : Hp} : ∀ n : Nat, DvAll K H (List.replicate n (.int 0)) (List.replicate n (.int 0))
  | 0 => .nil
  | n + 1 => .cons (.int 0) (zeros_dv n)
theorem flat_one {α : Type} (x : α) : ∀ n : Nat, (List.replicate n [x]).flatten = List.replicate n x
  | 0 => rfl
  | n + 1 => by rw [List.replicate_succ, List.flatten_cons, flat_one x n]; rfl
theorem tuple_mul0 (l : Addr) (items : Array Value) (n : Nat) (dd : Option Addr) (sl : Array (Option Value)) (u : Tok) (hi : items.isEmpty = false) :
    Meets (Builtin.«tuple.__mul__» ⟨[.ref l, .int 0 u], []⟩) (fun _ R s => s.heap.get? l = some { cls := .type "tuple", dict := dd, data := .seq items n, slots := sl } ∧
      R (.ok (.ret (Value.ref s.heap.objs.size))) { s with heap := s.heap.push { cls := Value.type "tuple", data := Data.seq #[] }, toks := s.toks }) :=
  .of_wp fun prog w A R s h => by
    obtain ⟨hp, g, d, tk, os⟩ := s
    obtain ⟨hl, h⟩ := h
    have f1 := AutoSeq1.idx_int
    have c1 : (items.isEmpty || (0 : Int) == 1) = false := by rw [hi]; rfl
    wp_walk using wpAny_loadPart' hl
    repeat (first
      | (refine wpAny_ite_false (decide_eq_false (by decide)) ?_; wp_walk using wpAny_loadPart' hl)
      | (refine wpAny_ite_false (decide_eq_false (by rw [c1]; exact Bool.false_ne_true)) ?_; wp_walk using wpAny_loadPart' hl)
      | (refine wpAny_ite_true (decide_eq_true (by simp)) ?_; wp_walk using wpAny_loadPart' hl))
    exact ⟨_, rfl, h⟩
/-- t * k, from 0 on -/
def rRepZ (K : PySem.W.Frag) : R2 := fun x y H Q => (∃ l xs, x = .ref l ∧ y = .int 0 ∧ SqT K H l xs ∧ xs ≠ [] ∧ ∀ p, H p = none → Q (.ref p) (upd H p (.tup []))) ∨ rRepA K x y H Q
theorem op_repZ {X : Cx} : OpR X (binaryOp .Mult) (rRepZ X.K) := by
  intro pins s σ H x y v u Q I rx ry h
  rcases h with ⟨l, xs, rfl, rfl, hT, hne, q⟩ | h
  · cases rx
    obtain ⟨t, rfl⟩ := ry
    obtain ⟨its, r, ⟨⟨cls, dd, data, sl⟩, ho, hc, n, hd⟩, hs⟩ := I.tuple hT
    simp only at hc hd
    subst hc hd
    have hi : its.toArray.isEmpty = false := by
      cases its with
      | nil => cases r; exact absurd rfl hne
      | cons a b => rfl
    refine wpAny_binaryOp_repeat_ref (T := "tuple") (U := "int") (by decide) ⟨_, ho, rfl⟩ (fun s' => typeIs_int s' 0 t) noFill_tuple_mul F.fills_int_mul F.slot_int_rmul repeat_tuple F.slot_int_index.lookup
      (call_meets F.slot_int_rmul (typeIs_int s 0 t) F.entry_int_rmul (F.args_int_rmul_2 _ _) (int_rmul_tuple 0 t l its.toArray n dd sl)
        ⟨ho, rfl, ⟨_, ho, rfl⟩, call_meets F.slot_tuple_mul ⟨_, ho, rfl⟩ F.entry_tuple_mul (F.args_tuple_mul_2 _ _) (tuple_mul0 l its.toArray n dd sl t hi) ⟨ho, ?_⟩⟩)
    refine ⟨.ref s.heap.objs.size, _, I.laid (t' := s.toks) (o := .tup []) (fun b ob q => Heap.get?_push_of_some _ q) (Nat.le_refl _) ?_, rfl, q _ (I.hok.fresh (Nat.le_refl _))⟩
    exact ⟨Nat.zero_le _, [], .nil, IsTup.new _ _⟩
  · exact op_repA pins s σ H x y v u Q I rx ry h
section
variable {P : Program} {w : World} {K : PySem.W.Frag} {mg : Str → Option Value} {base : Heap} {f fK fP C CE : Addr} {PT : List (Addr × Str)} {fd fdK fdP : FuncData}
theorem ok_cinit {k : Nat} (F : CiP K f fd) (T : ClK K C) (TE : ExcK K CE) (gE : mg "InvalidCleaner" = some (.ref CE)) (misi : mg "isinstance" = none) (mtup : mg "tuple" = none) (mlen : mg "len" = none)
    (m1 : ∃ t, mg "MAX_LOOK" = some (.int 3 t)) (m2 : ∃ t, mg "MAX_WRITER" = some (.int 4 t)) (m3 : ∃ t, mg "MAX_WRITTEN" = some (.int 2 t))
    (FP : FnOk P w K mg base CX0 (k + 7) fP fdP ["writer", "look", "firsts", "limits"] (spParts K w)) (gP : mg "are_parts" = some (.ref fP)) (kP : PySem.W.keepIn K (.ref fP) = true) (bP : Binds K fdP ["writer", "look", "firsts", "limits"] [])
    (FK : FnG P w K mg base CX0 (k + 7) fK fdK ["self", "writer", "look", "firsts"] (spKeep K w C PT)) (me : Meth K C "_keep" fK) (bK : Binds K fdK ["self", "writer", "look", "firsts"] []) :
    FnG P w K mg base (L2.CX P w) (k + 8) f fd ["self", "writer", "look", "firsts"] (spCInit K w C CE PT) := by
  refine fnG_ofC F scCInit (fun vs H Q E h => ?_) (fun cdv hcd A outer s H vs Q E gd hr h => ?_)
  · obtain ⟨x, dx, wv, lv, fv, dw, dl, df, rfl, _⟩ := h
    rfl
  · obtain ⟨x, dx, wv, lv, fv, dw, dl, df, rfl, hx, hW, hL, hF, sz, few, tabs, good, bad⟩ := h
    obtain ⟨t1, m1⟩ := m1
    obtain ⟨t2, m2⟩ := m2
    obtain ⟨t3, m3⟩ := m3
    refine ⟨_, C8.pss_cut (ps_set (i := 4) scCInit.nd rfl (.inl rfl) (pe_ifExp (pt_cmp (pc_isN (pv 2))) (pe_tup (pa_cons (pe_tup (pa_cons MD.pe_mnew (pa_cons pe_int pa_nil))) pa_nil)) (pv 2)))
      (C8.pss_cut (ps_set (i := 5) scCInit.nd rfl (.inl rfl) (pe_ifExp (PW.pt (pw_and (pt_cmp (pc_isN (pv 3))) (pw_and1 (pt_val (pe_callB call_isiM (by rfl) misi boot_isinstance (pa_cons (pv 4) (pa_cons (pe_bltn (v := .ty "tuple") (by rfl) mtup (by decide +kernel) rfl) pa_nil)))))))
        (pe_op op_repZ (pe_tup (pa_cons pe_int pa_nil)) (pe_callB call_len_seq (by rfl) mlen PySem.boot_len (pa_cons (pv 4) pa_nil))) (pv 3)))
      (pss_cons (ps_if (pt_not (pt_val (pe_call FP hr (by rfl) gP kP bP .nil pass0 (pa_cons (pv 1) (pa_cons (pv 4) (pa_cons (pv 5) (pa_cons (pe_tup (pa_cons (pe_glob (v := .int 3) (by rfl) m1 ⟨t1, rfl⟩) (pa_cons (pe_glob (v := .int 4) (by rfl) m2 ⟨t2, rfl⟩) (pa_cons (pe_glob (v := .int 2) (by rfl) m3 ⟨t3, rfl⟩) pa_nil)))) pa_nil)))))))
        (pss_one (ps_raise rfl (takes_of rfl rfl rfl rfl) (pmk_ownA PySem.F.excBase_ValueError TE.exc gE TE.kp (raises_own TE.sub TE.ty) (by rfl) (pa_cons pe_str pa_nil)))) pss_nil)
      (pss_one (ps_expr (pe_methG FK gd (pv 0) T.cl me hr bK pass0 (pa_cons (pv 1) (pa_cons (pv 4) (pa_cons (pv 5) pa_nil)))))))), ?_⟩
    have sl : sizeLine = 16777216 := sizeLine_eq
    refine ⟨fun σ' H' => ∃ sv, σ' = [some (.ref x), some wv, some lv, some fv, some sv, none] ∧ Same H H' ∧ WhX K w H' 2 sv dl, ?_, ?_⟩
    · refine ⟨_, rfl, _, rfl, ite2 (fun e => ?_) (fun e => ?_)⟩
      · have e : lv = .non := of_decide_eq_true e
        obtain ⟨_, rfl⟩ := hL.resolve_right fun z => z.1 e
        intro m nm
        refine ⟨by show 2 ≤ sizeLine; omega, fun a na => ⟨by show 1 ≤ sizeLine; omega, fun b nb => ?_⟩⟩
        have s1 := same_upd (o := dM w m []) nm
        have s2 := same_upd (o := .tup [.ref m, .int 0]) na
        have s3 := same_upd (o := .tup [.ref a]) nb
        refine ⟨_, rfl, s1.trans (s2.trans s3), b, [.ref a], rfl, .of upd_same, .cons ⟨a, m, rfl, .of (s3 _ _ upd_same), .cons (.int 0) .nil, rfl, s3 _ _ (s2 _ _ upd_same), ⟨fun p hp => (nomatch hp), List.nodup_nil, by decide, fun r hr => (nomatch hr), fun r hr => (nomatch hr)⟩, fun d hd => ?_⟩ .nil, by show 1 ≤ 1000; decide⟩
        rw [List.mem_singleton.mp hd]
        decide +kernel
      · have e : lv ≠ .non := fun z => e (decide_eq_true z)
        obtain ⟨_, hL⟩ := hL.resolve_left fun z => e z.1
        exact ⟨_, rfl, _, rfl, Same.refl H, hL⟩
    rintro σ1 H1 ⟨sv, rfl, s1, hS⟩
    refine ⟨fun σ' H' => ∃ fv', σ' = [some (.ref x), some wv, some lv, some fv, some sv, some fv'] ∧ Same H1 H' ∧ Dv K H' fv' (firstD dl df) ∧ (firstD dl df).bulk ≤ 100000 ∧ (fv ≠ .non → fv' = fv), ?_, ?_⟩
    · refine ⟨_, rfl, _, rfl, ite2 (fun e => ?_) (fun e => ?_)⟩
      · have e : fv = .non := of_decide_eq_true e
        subst e
        cases hF
        cases dl with
        | bad => exact ⟨_, rfl, Ist.rd hS ⟨_, rfl, _, rfl, _, rfl, Same.refl H1, .non, by show PyData.bulk .none ≤ 100000; decide +kernel, fun _ => rfl⟩⟩
        | sts ss =>
          have l2 := few rfl ss rfl
          obtain ⟨a, xs, rfl, hT, hP, fx⟩ := hS
          have pl := MD.paired_len hP
          refine ⟨_, rfl, (ist_tup hT).rd ⟨_, rfl, by show 1 ≤ sizeLine; omega, fun b nb => ?_⟩⟩
          have sb := same_upd (o := .tup [.int 0]) nb
          have bk : (zerosD ss.length).bulk ≤ 100000 := by
            have := zeros_bulk ss.length
            show PyData.bulkAll _ ≤ _
            omega
          by_cases l0 : ss.length = 0
          · refine ⟨_, rfl, a, xs, rfl, .inr (same_tup sb hT), .inl ⟨b, [.int 0], rfl, by rw [pl, l0]; rfl, .of upd_same, by simp, fun p np => ?_⟩⟩
            refine ⟨_, rfl, sb.trans (same_upd np), ?_, bk, fun z => absurd rfl z⟩
            show Dv K _ _ (zerosD ss.length)
            rw [l0]
            exact .tup (.of upd_same) .nil
          refine ⟨_, rfl, a, xs, rfl, .inr (same_tup sb hT), .inr ⟨b, xs.length, [.int 0], rfl, rfl, .of upd_same, by simp, by omega, by omega, by decide, fun e1 => ?_, fun e2 p np => ?_⟩⟩
          · have l1 : ss.length = 1 := by omega
            refine ⟨_, rfl, sb, ?_, bk, fun z => absurd rfl z⟩
            show Dv K _ _ (zerosD ss.length)
            rw [l1]
            exact .tup (.of upd_same) (.cons (.int 0) .nil)
          · refine ⟨_, rfl, sb.trans (same_upd np), ?_, bk, fun z => absurd rfl z⟩
            show Dv K _ _ (zerosD ss.length)
            refine .tup (.of upd_same) ?_
            rw [show ((xs.length : Nat) : Int).toNat = ss.length by omega, flat_one]
            exact zeros_dv _
      · have e : fv ≠ .non := fun z => e (decide_eq_true z)
        have ed : firstD dl df = df := by
          cases dl with
          | bad => rfl
          | sts ss => cases hF <;> first | rfl | exact absurd rfl e
        refine ⟨_, rfl, _, rfl, Same.refl H1, ?_, ?_, fun _ => rfl⟩
        · rw [ed]; exact hF.same' s1
        · rw [ed]; omega
    rintro σ2 H2 ⟨fv', rfl, s2, hF2, bk, keepF⟩
    refine ⟨_, rfl, _, rfl, _, rfl, by show 3 ≤ sizeLine; omega, fun L nL => ?_⟩
    have s3 := (s1.trans s2).trans (same_upd (o := .tup [.int 3, .int 4, .int 2]) nL)
    have sS := s2.trans (same_upd (o := .tup [.int 3, .int 4, .int 2]) nL)
    refine ⟨wv, sv, fv', dw, dl, firstD dl df, L, rfl, .of upd_same, hW.same s3, hS.same sS, hF2.same' (same_upd nL), bk, fun H4 s4 => ⟨_, rfl, ite2 (fun e => ?_) (fun e => ?_)⟩⟩
    · exact ⟨by show 1 ≤ sizeLine; omega, bad (nF e) H4 (s3.trans s4)⟩
    have ok := nT e
    have good := good ok
    have ok2 := ok
    rw [show partsD dw dl (firstD dl df) = (lookD dl && writerD (lenD dl) dw && firstsD (lenD dl) (lenD dw) (firstD dl df)) from rfl, Bool.and_eq_true, Bool.and_eq_true] at ok2
    have s5 := s3.trans s4
    cases dw with
    | bad => cases ok2.1.2
    | sts ws =>
    cases dl with
    | bad => cases ok2.1.1
    | sts ls =>
    have hS4 := hS.same (sS.trans s4)
    obtain ⟨gi, l3⟩ := look_ints hS4 ok2.1.1
    have gw := writer_good ok2.1.2
    have hW4 := hW.same s5
    have fw : ws.length ≤ 1000 := by
      obtain ⟨a, xs, _, _, hP, fx⟩ := hW4
      rw [← MD.paired_len hP]
      exact fx
    have hx4 := s5 _ _ hx
    refine ⟨_, rfl, x, dx, [], rfl, hx4, rfl, _, rfl, _, rfl, _, rfl, x, dx, wv, sv, fv', ws, ls, rfl, hx4, hW4, hS4, gw, gi, l3, fw, Tabs.ext tabs s5, fun H6 tw tl to e6 t6 hx6 k1 k2 => ?_⟩
    exact good H6 tw tl to fv' keepF ((dv_dat (hF2.same' ((same_upd nL).trans s4))).same' (dat_ex hx4 e6)) (Ex.trans (fun b o _ h _ => s5 _ _ h) e6) t6 hx6 k1 k2
end
end K0
end
/-! ### WC1 -/
section
set_option Elab.async false
set_option linter.all false
set_option maxRecDepth 100000
set_option maxHeartbeats 4000000
/-! _law_wild_cleaner. -/
namespace K0
open PySem PySem.Spec PyProof.Rows L2
open MD (dM KeysV KeyV)
def fitK (d : PyData) : Bool := d.showable && d.leavesShort 60 && decide (d.bulk ≤ 1000) && decide (d.depth ≤ 8)
theorem fitK_ok {d : PyData} (h : fitK d = true) : Fit d ∧ d.bulk ≤ 1000 := by
  unfold fitK at h
  rw [Bool.and_eq_true, Bool.and_eq_true, Bool.and_eq_true, decide_eq_true_iff, decide_eq_true_iff] at h
  exact ⟨⟨h.1.1.1, h.1.1.2, by omega, h.2⟩, h.1.2⟩
theorem signs_fit : (allSigns.cps.toList.all fun c => fitK (.str (oneS c)) && fitK (.tuple [.str (oneS c), .none]) && fitK (.tuple [.str (oneS c), .int 0]) && fitK (.tuple [.str (oneS c), .int 1]) && isSignD (.str (oneS c))) = true := by decide +kernel
abbrev wiN : List Str := ["dice", "signs", "views", "size", "rows", "state", "moves", "sign", "view", "words", "back", "some", "starts"]
theorem scWild : FnScope wiN ["dice", "signs"] (defScope (top iWild)) := ⟨rfl, rfl, rfl, by decide +kernel, rfl, by decide +kernel, by decide +kernel⟩
/-- a drawn cleaner's parts -/
structure WildAt (K : PySem.W.Frag) (w : World) (H : Hp) (t R B S : Addr) (xs ys zs : List V) (ws ls : List StD) (ds : List PyData) : Prop where
  tup : SqT K H t [.ref R, .ref B, .ref S]
  rl : SqL K H R xs
  bl : SqL K H B ys
  sl : SqL K H S zs
  rows : Paired (StX K w H 3) xs ws
  back : Paired (StX K w H 2) ys ls
  starts : DvAll K H zs ds
theorem WildAt.same {K : PySem.W.Frag} {w : World} {H H' : Hp} {t R B S : Addr} {xs ys zs : List V} {ws ls : List StD} {ds : List PyData} (h : WildAt K w H t R B S xs ys zs ws ls ds) (e : Same H H') : WildAt K w H' t R B S xs ys zs ws ls ds :=
  ⟨same_tup e h.tup, e.seq h.rl, e.seq h.bl, e.seq h.sl, pairedI2 (fun _ _ z => z.same e) h.rows, pairedI2 (fun _ _ z => z.same e) h.back, DvAll.same e _ _ h.starts⟩
def fewS : StD → Prop
  | .bad => False
  | .good rs _ _ => rs.length ≤ 9
def fewB : StD → Bool
  | .bad => false
  | .good rs _ _ => decide (rs.length ≤ 9)
theorem few_of {s : StD} (h : fewB s = true) : fewS s := by
  cases s with
  | bad => cases h
  | good rs ys ds =>
    have h : decide (rs.length ≤ 9) = true := h
    exact (of_decide_eq_true h : rs.length ≤ 9)
structure WildOk (ws ls : List StD) (ds : List PyData) : Prop where
  nw : 1 ≤ ws.length ∧ ws.length ≤ 3
  nl : ls.length = 1 ∨ ls.length = 2
  w : ∀ s ∈ ws, wStD ws.length ls.length s = true
  l : ∀ s ∈ ls, lStD ls.length s = true
  nf : ds.length = ls.length
  f : ∀ d ∈ ds, isViewD ws.length d = true
  fb : ∀ d ∈ ds, d.bulk ≤ 10
  fw : ∀ s ∈ ws, fewS s
  fl : ∀ s ∈ ls, fewS s
theorem WildOk.parts {ws ls : List StD} {ds : List PyData} (h : WildOk ws ls ds) : partsD (.sts ws) (.sts ls) (.tuple ds) = true := by
  have := h.nw
  have := h.nl
  have a1 : lookD (.sts ls) = true := by
    show (decide (0 < ls.length) && decide (ls.length ≤ 3) && ls.all (lStD ls.length)) = true
    rw [decide_eq_true (by omega), decide_eq_true (by omega), Bool.true_and, Bool.true_and]
    exact List.all_eq_true.mpr h.l
  have a2 : writerD (lenD (.sts ls)) (.sts ws) = true := by
    show (decide (0 < ws.length) && decide (ws.length ≤ 4) && ws.all (wStD ws.length ls.length)) = true
    rw [decide_eq_true (by omega), decide_eq_true (by omega), Bool.true_and, Bool.true_and]
    exact List.all_eq_true.mpr h.w
  have a3 : firstsD (lenD (.sts ls)) (lenD (.sts ws)) (.tuple ds) = true := by
    show (decide ((ds.length : Int) = ls.length) && ds.all (isViewD ws.length)) = true
    rw [decide_eq_true (by have := h.nf; omega), Bool.true_and]
    exact List.all_eq_true.mpr h.f
  show (lookD (.sts ls) && writerD (lenD (.sts ls)) (.sts ws) && firstsD (lenD (.sts ls)) (lenD (.sts ws)) (.tuple ds)) = true
  rw [a1, a2, a3]
  rfl
def spWild (K : PySem.W.Frag) (w : World) : Sp := fun vs H Q _ => ∃ (p sg : Addr) (cs : List Nat), vs = [.ref p, .ref sg] ∧ Dice p H ∧ SqT K (hid p H) sg (cs.map oneV) ∧ cs.Nodup ∧ cs ≠ [] ∧ cs.length ≤ 3 ∧ (∀ c ∈ cs, c ∈ allSigns.cps.toList) ∧
  ∀ H' t R B S xs ys zs ws ls ds, Keep p H H' → WildAt K w (hid p H') t R B S xs ys zs ws ls ds → WildOk ws ls ds → Q (.ref t) H'
/-- the moves drawn so far -/
structure MovesAt (K : PySem.W.Frag) (w : World) (H : Hp) (S : List Addr) (m : Addr) (size views : Int) (taken : List Nat) (rs : List RX) : Prop where
  at_ : H m = some (dM w m (rs.map (·.1)))
  ok : RowsX K (hids S H) rs
  good : ∀ r ∈ rs, (isSeenD views r.2.1 && isMoveD size r.2.2) = true
  keys : ∀ r ∈ rs, ∃ c ∈ taken, ∃ nk, r.1.1 = .tup [.text (oneS c), nk]
  len : rs.length ≤ taken.length
theorem MovesAt.keep {K : PySem.W.Frag} {w : World} {H H' : Hp} {S : List Addr} {m : Addr} {size views : Int} {taken : List Nat} {rs : List RX} (h : MovesAt K w H S m size views taken rs) (k : KeepS S H H') (e : H' m = H m) : MovesAt K w H' S m size views taken rs :=
  ⟨e.trans h.at_, h.ok.same k.hids, h.good, h.keys, h.len⟩
theorem MovesAt.more {K : PySem.W.Frag} {w : World} {H : Hp} {S : List Addr} {m : Addr} {size views : Int} {taken : List Nat} {rs : List RX} (h : MovesAt K w H S m size views taken rs) (c : Nat) : MovesAt K w H S m size views (taken ++ [c]) rs :=
  ⟨h.at_, h.ok, h.good, fun r hr => let ⟨x, hx, y⟩ := h.keys r hr; ⟨x, List.mem_append_left _ hx, y⟩, by rw [List.length_append]; exact Nat.le_succ_of_le h.len⟩
/-- a view that a draw gives -/
def ViewV (views : Int) (v : V) (d : PyData) (nk : MD.NK) : Prop := (v = .non ∧ d = .none ∧ nk = .none) ∨ ∃ i : Int, v = .int i ∧ d = .int i ∧ nk = .num i ∧ 0 ≤ i ∧ i < views
theorem view_dv {K : PySem.W.Frag} {H : Hp} {views : Int} {v : V} {d : PyData} {nk : MD.NK} (h : ViewV views v d nk) : Dv K H v d ∧ KeyV K H v nk ∧ isViewD views d = true ∧ nk.depth = 0 := by
  rcases h with ⟨rfl, rfl, rfl⟩ | ⟨i, rfl, rfl, rfl, h0, h1⟩
  · exact ⟨.non, .atom rfl, rfl, rfl⟩
  · refine ⟨.int i, .atom rfl, ?_, rfl⟩
    show (decide (0 ≤ i) && decide (i ≤ views - 1)) = true
    rw [decide_eq_true h0, decide_eq_true (by omega)]
    rfl
theorem str_bulk {z : Str} (h : z.length ≤ 2) : (PyData.str z).bulk ≤ 10 := by
  show z.length ≤ 10
  omega
def mvRow (c : Nat) (nk : MD.NK) (vd : PyData) (z : Str) (i : Int) (T2 T3 : Addr) : RX := ((.tup [.text (oneS c), nk], .ref T3, .ref T2), .tuple [.str (oneS c), vd], .tuple [.str z, .int i])
theorem MovesAt.put {K : PySem.W.Frag} {w : World} {H : Hp} {S : List Addr} {m : Addr} {size views : Int} {taken : List Nat} {rs : List RX} {c : Nat} {vv : V} {vd : PyData} {nk : MD.NK} {z : Str} {i : Int} {T2 T3 : Addr} (h : MovesAt K w H S m size views taken rs) (hm : m ∈ S) (hc : c ∈ allSigns.cps.toList) (new : c ∉ taken) (hv : ViewV views vv vd nk) (v12 : views = 1 ∨ views = 2)
    (hz : sgAll z = true) (lz : z.length ≤ 2) (h0 : 0 ≤ i) (h1 : i < size) (s3 : size ≤ 1000) (t15 : taken.length ≤ 100) (e2 : SqT K (hids S H) T2 [.str z, .int i]) (e3 : SqT K (hids S H) T3 [.str (oneS c), vv]) :
    MD.put (rs.map (·.1)) (.tup [.text (oneS c), nk]) (.ref T3) (.ref T2) = (rs ++ [mvRow c nk vd z i T2 T3]).map (·.1) ∧
      MovesAt K w (upd H m (dM w m ((rs ++ [mvRow c nk vd z i T2 T3]).map (·.1)))) S m size views (taken ++ [c]) (rs ++ [mvRow c nk vd z i T2 T3]) := by
  have fresh : ∀ r ∈ rs, r.1.1 ≠ .tup [.text (oneS c), nk] := fun r hr e => by
    obtain ⟨x, hx, y, ey⟩ := h.keys r hr
    rw [ey] at e
    have e1 : oneS x = oneS c := by
      injection e with e
      injection e with e
      injection e
    have : x = c := by
      have := congrArg codeS e1
      exact this
    exact new (this ▸ hx)
  have nn : MD.look (rs.map (·.1)) (.tup [.text (oneS c), nk]) = none := MD.look_none fun j y hj => by
    obtain ⟨r, hr, rfl⟩ := List.mem_map.mp (List.mem_of_getElem? hj)
    exact fresh r hr
  obtain ⟨vd1, vk, vok, vdep⟩ := view_dv (K := K) (H := hids S H) hv
  have fits := List.all_eq_true.mp signs_fit c hc
  rw [Bool.and_eq_true, Bool.and_eq_true, Bool.and_eq_true, Bool.and_eq_true] at fits
  have kf : fitK (.tuple [.str (oneS c), vd]) = true := by
    rcases hv with ⟨_, rfl, _⟩ | ⟨i, _, rfl, _, g0, g1⟩
    · exact fits.1.1.1.2
    · have : i = 0 ∨ i = 1 := by omega
      rcases this with rfl | rfl
      · exact fits.1.1.2
      · exact fits.1.2
  have sameM : Same (hids S H) (hids S (upd H m (dM w m ((rs ++ [mvRow c nk vd z i T2 T3]).map (·.1))))) := (KeepS.mut hm).hids
  refine ⟨?_, ?_⟩
  · unfold MD.put
    rw [nn, if_neg (by simp), List.map_append]
    rfl
  refine ⟨upd_same, RowsX.same ⟨?_, ?_, ?_, ?_, ?_⟩ sameM, ?_, ?_, ?_⟩
  · rw [List.map_append]
    intro q hq
    rcases List.mem_append.mp hq with hq | hq
    · exact h.ok.ks q hq
    · rw [List.mem_singleton.mp hq]
      refine ⟨.tup e3 (.cons (.atom rfl) (.cons vk .nil)), ?_⟩
      rcases hv with ⟨_, _, rfl⟩ | ⟨i, _, _, rfl, _⟩ <;> (show 1 ≤ 8; decide)
  · rw [List.map_append, List.map_append, List.nodup_append]
    refine ⟨h.ok.nd, by simp, fun a ha b hb => ?_⟩
    obtain ⟨q, hq, rfl⟩ := List.mem_map.mp ha
    obtain ⟨r, hr, rfl⟩ := List.mem_map.mp hq
    rw [List.mem_singleton.mp hb]
    exact fresh r hr
  · rw [List.length_append]
    have := h.len
    show rs.length + 1 ≤ 1000
    omega
  · intro r hr
    rcases List.mem_append.mp hr with hr | hr
    · exact h.ok.dat r hr
    · rw [List.mem_singleton.mp hr]
      exact ⟨.tup e3 (.cons (.str _) (.cons vd1 .nil)), .tup e2 (.cons (.str _) (.cons (.int _) .nil))⟩
  · intro r hr
    rcases List.mem_append.mp hr with hr | hr
    · exact h.ok.small r hr
    · rw [List.mem_singleton.mp hr]
      obtain ⟨f1, f2⟩ := fitK_ok kf
      refine ⟨f2, ?_, f1⟩
      show PyData.bulkAll [.str z, .int i] ≤ 10000
      rw [PyData.bulkAll, PyData.bulkAll, PyData.bulkAll]
      have := str_bulk lz
      have : (PyData.int i).bulk ≤ 10 := by show 0 ≤ 10; decide
      omega
  · intro r hr
    rcases List.mem_append.mp hr with hr | hr
    · exact h.good r hr
    · rw [List.mem_singleton.mp hr]
      show (isSignD (.str (oneS c)) && isViewD views vd && ((sgAll z && decide (z.length ≤ 2)) && (decide (0 ≤ i) && decide (i ≤ size - 1)))) = true
      rw [fits.2, vok, hz, decide_eq_true lz, decide_eq_true h0, decide_eq_true (by omega)]
      rfl
  · intro r hr
    rcases List.mem_append.mp hr with hr | hr
    · obtain ⟨x, hx, y⟩ := h.keys r hr
      exact ⟨x, List.mem_append_left _ hx, y⟩
    · rw [List.mem_singleton.mp hr]
      exact ⟨c, List.mem_append_right _ (List.mem_singleton.mpr rfl), nk, rfl⟩
  · rw [List.length_append, List.length_append]
    exact Nat.succ_le_succ h.len
end K0
end
/-! ### MD8 -/
section
set_option Elab.async false
set_option linter.all false
set_option maxRecDepth 100000
set_option maxHeartbeats 4000000
/-! == of such dicts with the same rows, in whatever order, and of tuples that hold them: it is True. -/
namespace MD
open PySem PySem.Calls PyProof.Rows PySem.W
open PySem.SeqAt (EqIn rcIn_tuples)
section
variable {prog : Program} {w : World} {A : Around} {E : Value → Shared → Prop} {s : Shared} {a b : Addr} {xs ys : List (NK × Value × Value)}
/-- the items of two such dicts, those of the first looked up in the second -/
theorem pairs_md {nm : String} (hu : A.units + 8 < cLine) (ha : (a == sysModules) = false) (hb : (b == sysModules) = false) (ma : At w s.heap a xs) (mb : At w s.heap b ys) (len : xs.length = ys.length)
    (eqs : ∀ x ∈ xs, ∃ y ∈ ys, y.1 = x.1 ∧ EqIn prog w A s x.2.2 y.2.2 true) {Q : Bool → Shared → Prop} (q : Q true s) : wpAny (model prog w) A (Builtin.Dict.samePairs nm a b) Q E s := by
  obtain ⟨oa, ea, pa, ga, _, da, la, ka⟩ := ma
  obtain ⟨ob, eb, pb, gb, _, db, lb, kb⟩ := mb
  have za : ea.size = xs.length := ent_size la
  have zb : eb.size = ys.length := ent_size lb
  unfold Builtin.Dict.samePairs Builtin.Dict.showsAll
  rw [if_neg (by rw [ha]; exact Bool.false_ne_true), if_neg (by rw [hb]; exact Bool.false_ne_true)]
  refine wpAny_bind (wpAny_pure (wpAny_bind (wpAny_pure (wpAny_bind (wpAny_dictEntries ga da ?_)))))
  dsimp only
  refine wpAny_bind (wpAny_dictEntries gb db ?_)
  rw [if_neg (by rw [za, zb, len]; simp)]
  refine wpAny_bind (wpAny_dictEpoch ga da (wpAny_bind ?_))
  rw [Std.Legacy.Range.forIn_eq_forIn_range']
  simp only [Std.Legacy.Range.size, Nat.sub_zero, Nat.add_sub_cancel, Nat.div_one]
  refine wpAny_forIn_list _ (fun rest r s' => s' = s ∧ r = (none, ()) ∧ ∃ i, rest = List.range' i (ea.size - i) ∧ i ≤ ea.size) _ ?_ ?_ _ _ ⟨rfl, rfl, 0, by simp, Nat.zero_le _⟩
  · rintro x rest r s' ⟨rfl, rfl, i, hr, hi⟩
    have lt : i < ea.size := by
      rcases Nat.lt_or_ge i ea.size with h | h
      · exact h
      · rw [Nat.sub_eq_zero_of_le h] at hr; simp at hr
    have e1 : ea.size - i = (ea.size - (i + 1)) + 1 := by omega
    rw [e1, List.range'_succ] at hr
    injection hr with h1 h2
    subst h1
    have lt2 : x < xs.length := by omega
    have hx : xs[x]? = some xs[x] := List.getElem?_eq_getElem lt2
    have ee : ea[x]? = some (ent w xs[x]) := by rw [ent_at la, hx]; rfl
    obtain ⟨y, my, ky, eq⟩ := eqs _ (List.getElem_mem lt2)
    obtain ⟨j, hj⟩ := List.mem_iff_getElem?.mp my
    refine wpAny_bind (wpAny_dictEntries ga da ?_)
    rw [ee]
    dsimp only
    have kx := ka.at hx
    refine wpAny_bind (wpAny_holding (wpAny_bind (find hu gb db lb kb kx.1 kx.2 (fun no => absurd ky (no j y hj)) (fun m z hz kz => ?_))))
    obtain rfl : m = j := kb.same hz hj (kz.trans ky.symm)
    obtain rfl : z = y := Option.some.inj (hz.symm.trans hj)
    dsimp only
    refine wpAny_bind (wpAny_dictEntries gb db ?_)
    rw [show eb[m]? = some (ent w z) by rw [ent_at lb, hj]; rfl]
    dsimp only
    refine wpAny_holding (eq _ _ ?_)
    rw [if_neg (by decide)]
    refine wpAny_bind (wpAny_dictEpoch ga da ?_)
    rw [if_neg (by simp)]
    exact wpAny_pure ⟨rfl, rfl, x + 1, h2, lt⟩
  · rintro r s' ⟨rfl, rfl, _⟩
    exact wpAny_pure q
theorem rc_md (hu : A.units + 16 < cLine) (ha : (a == sysModules) = false) (hb : (b == sysModules) = false) (ma : At w s.heap a xs) (mb : At w s.heap b ys) (len : xs.length = ys.length)
    (eqs : ∀ x ∈ xs, ∃ y ∈ ys, y.1 = x.1 ∧ EqIn prog w A.in1 s x.2.2 y.2.2 true) {Q : Value → Shared → Prop} (q : Q (.bool true) s) : wpAny (model prog w) A (richCompare .Eq (.ref a) (.ref b)) Q E s := by
  refine wpAny_richCompare_same_room (op := .Eq) ma.typeIs mb.typeIs PySem.F.slot_dict_eq (wpAny_call_entry PySem.F.slot_dict_eq ma.typeIs PySem.F.entry_dict_eq ?_ (PySem.F.args_dict_eq_2 _ _)) (by omega)
  show wpAny _ _ (Builtin.Dict.dictSlotArgs "__eq__" ⟨[.ref a, .ref b], []⟩ >>= _) _ _ s
  refine wpAny_bind ?_
  unfold Builtin.Dict.dictSlotArgs
  refine wpAny_bind (wpAny_notOrdered_dict ma.typeIs (wpAny_pure (wpAny_bind (wpAny_isInstance (T := "dict") mb.typeIs PySem.F.sub_dict_dict ?_))))
  simp only [Bool.not_true, Bool.false_eq_true, if_false]
  refine wpAny_bind (wpAny_pure (wpAny_bind (wpAny_pure (wpAny_bind (pairs_md (by show A.units + 1 + 8 < cLine; omega) ha hb ma mb len eqs (wpAny_pure ⟨_, rfl, (fun x => nomatch x), q⟩))))))
end
end MD
namespace MD
open PySem PySem.Spec PyProof.Rows L2
open PySem.SeqAt (EqIn rcIn_tuples)
/-- equal and of nesting below n -/
def EqM (K : PySem.W.Frag) (w : World) (H : Hp) : Nat → V → V → Prop
  | 0 => fun _ _ => False
  | n + 1 => fun x y => (x = y ∧ flatB x = true) ∨ (∃ a, x = .ref a ∧ y = .ref a) ∨
    (∃ a b xs ys, x = .ref a ∧ y = .ref b ∧ SqT K H a xs ∧ SqT K H b ys ∧ Paired (EqM K w H n) xs ys) ∨
    ∃ a b ks ls, x = .ref a ∧ y = .ref b ∧ H a = some (dM w a ks) ∧ H b = some (dM w b ls) ∧ KeysV K H ks ∧ KeysV K H ls ∧ ks.length = ls.length ∧ ∀ p ∈ ks, ∃ r ∈ ls, r.1 = p.1 ∧ EqM K w H n p.2.2 r.2.2
theorem pairedAt {α β : Type} {R : α → β → Prop} : ∀ {xs : List α} {ys : List β} {us ws : List Value} {S : α → Value → Prop} {T : β → Value → Prop}, Paired R xs ys → Paired S xs us → Paired T ys ws → ∀ j (h1 : j < us.length) (h2 : j < ws.length), ∃ x y, R x y ∧ S x us[j] ∧ T y ws[j]
  | _, _, _, _, _, _, .nil, .nil, .nil, j, h1, _ => absurd h1 (Nat.not_lt_zero j)
  | _, _, _, _, _, _, .cons h t, .cons s1 s2, .cons t1 t2, 0, _, _ => ⟨_, _, h, s1, t1⟩
  | _, _, _, _, _, _, .cons h t, .cons s1 s2, .cons t1 t2, j + 1, h1, h2 => pairedAt t s2 t2 j (Nat.lt_of_succ_lt_succ h1) (Nat.lt_of_succ_lt_succ h2)
theorem prs_mem {kvs : List Row} {xs : List (NK × Value × Value)} {q : NK × Value × Value} (r : Prs kvs xs) (m : q ∈ xs) : ∃ p ∈ kvs, p.1 = q.1 ∧ RelV p.2.1 q.2.1 ∧ RelV p.2.2 q.2.2 := by
  obtain ⟨i, hi⟩ := List.mem_iff_getElem?.mp m
  obtain ⟨p, hp, z⟩ := paired_get r hi
  exact ⟨p, List.mem_of_getElem? hp, z⟩
theorem prs_mem2 {kvs : List Row} {xs : List (NK × Value × Value)} {p : Row} (r : Prs kvs xs) (m : p ∈ kvs) : ∃ q ∈ xs, p.1 = q.1 ∧ RelV p.2.1 q.2.1 ∧ RelV p.2.2 q.2.2 := by
  obtain ⟨i, hi⟩ := List.mem_iff_getElem?.mp m
  obtain ⟨q, hq, z⟩ := prs_get r hi
  exact ⟨q, List.mem_of_getElem? hq, z⟩
section
variable {X : Cx} {pins : List (Addr × Obj)} {σ : L2.St} {H : Hp} {s : Shared}
theorem eqM_step (I : Inv X pins σ H s) {A : Around} {F : V → V → Prop} (hu : A.units + 16 < cLine) (ih : ∀ x y v u, F x y → RelV x v → RelV y u → EqIn X.prog X.w A.in1 s v u true) {a b : Addr}
    (h : (∃ xs ys, SqT X.K H a xs ∧ SqT X.K H b ys ∧ Paired F xs ys) ∨ ∃ ks ls, H a = some (dM X.w a ks) ∧ H b = some (dM X.w b ls) ∧ KeysV X.K H ks ∧ KeysV X.K H ls ∧ ks.length = ls.length ∧ ∀ p ∈ ks, ∃ r ∈ ls, r.1 = p.1 ∧ F p.2.2 r.2.2)
    (E Q : Value → Shared → Prop) (q : Q (.bool true) s) : wpAny (model X.prog X.w) A (richCompare .Eq (.ref a) (.ref b)) Q E s := by
  rcases h with ⟨xs, ys, ha, hb, hp⟩ | ⟨ks, ls, ha, hb, k1, k2, len, hp⟩
  · obtain ⟨us, r1, p1, _⟩ := I.tuple ha
    obtain ⟨ws, r2, p2, _⟩ := I.tuple hb
    have ll := MD.paired_len hp
    have l1 := MD.paired_len r1
    have l2 := MD.paired_len r2
    refine rcIn_tuples (e := fun _ => true) p1 p2 (by omega) (fun j h1 h2 => ?_) ?_
    · rw [List.size_toArray] at h1 h2
      obtain ⟨x, y, z1, z2, z3⟩ := pairedAt hp r1 r2 j h1 h2
      have k := ih x y _ _ z1 z2 z3
      simpa using k
    · rw [show ((List.range (min us.toArray.size ws.toArray.size)).all fun _ => true) = true from List.all_eq_true.mpr fun _ _ => rfl, List.size_toArray, List.size_toArray, show (us.length == ws.length) = true by simp; omega]
      exact q
  · obtain ⟨_, sa, xs, rx, mx⟩ := atM I ha k1
    obtain ⟨_, sb, ys, ry, my⟩ := atM I hb k2
    refine rc_md hu sa sb mx my (by rw [← prs_len rx, ← prs_len ry]; exact len) (fun x hx => ?_) q
    obtain ⟨p, hp1, e1, _, r1⟩ := prs_mem rx hx
    obtain ⟨r, hr1, e2, f⟩ := hp p hp1
    obtain ⟨y, hy1, e3, _, r2⟩ := prs_mem2 ry hr1
    exact ⟨y, hy1, by rw [← e3, e2, e1], ih _ _ _ _ f r1 r2⟩
theorem eqM_run (I : Inv X pins σ H s) : ∀ (n : Nat) (A : Around), A.units + n + 16 < cLine → ∀ (x y : V) (v u : Value), EqM X.K X.w H n x y → RelV x v → RelV y u → EqIn X.prog X.w A s v u true
  | 0, _, _, _, _, _, _, h, _, _ => (show False from h).elim
  | n + 1, A, hu, x, y, v, u, h, rx, ry => by
    rcases h with ⟨rfl, f⟩ | ⟨a, rfl, rfl⟩ | ⟨a, b, xs, ys, rfl, rfl, h⟩ | ⟨a, b, ks, ls, rfl, rfl, h⟩
    · exact (eqAt_same rx ry f).inModel _ _
    · cases (show v = Value.ref a from rx)
      cases (show u = Value.ref a from ry)
      exact (SeqAt.EqAt.same _).inModel _ _
    · cases (show v = Value.ref a from rx)
      cases (show u = Value.ref b from ry)
      by_cases e : a = b
      · subst e
        exact (SeqAt.EqAt.same _).inModel _ _
      · exact SeqAt.EqIn.of_refs e fun E Q q => eqM_step I (A := A) (by omega) (eqM_run I n A.in1 (by show A.units + 1 + n + 16 < cLine; omega)) (.inl ⟨xs, ys, h⟩) E Q q
    · cases (show v = Value.ref a from rx)
      cases (show u = Value.ref b from ry)
      by_cases e : a = b
      · subst e
        exact (SeqAt.EqAt.same _).inModel _ _
      · exact SeqAt.EqIn.of_refs e fun E Q q => eqM_step I (A := A) (by omega) (eqM_run I n A.in1 (by show A.units + 1 + n + 16 < cLine; omega)) (.inr ⟨ks, ls, h⟩) E Q q
/-- a == b, tuples whose items are equal so -/
def rEqM (K : PySem.W.Frag) (w : World) : R2 := fun x y H Q => ∃ (n : Nat) (a b : Addr) (xs ys : List V), n ≤ 20 ∧ x = .ref a ∧ y = .ref b ∧ SqT K H a xs ∧ SqT K H b ys ∧ Paired (EqM K w H n) xs ys ∧ Q (.bl true) H
theorem op_eqM {X : Cx} (hu : X.A.units + 64 < cLine) : OpR X (compareOp .Eq) (rEqM X.K X.w) := by
  intro pins s σ H x y v u Q I rx ry h
  obtain ⟨n, a, b, xs, ys, hn, rfl, rfl, ha, hb, hp, q⟩ := h
  cases (show v = Value.ref a from rx)
  cases (show u = Value.ref b from ry)
  exact eqM_step I (A := X.A) (by omega) (eqM_run I n X.A.in1 (by show X.A.units + 1 + n + 16 < cLine; omega)) (.inl ⟨xs, ys, ha, hb, hp⟩) _ _ ⟨.bl true, H, I, rfl, q⟩
end
end MD
end
/-! ### EQ -/
section
set_option Elab.async false
set_option linter.all false
set_option maxRecDepth 100000
set_option maxHeartbeats 4000000
/-! == and != of an instance whose class has an __eq__ of its own and no __ne__, with any value. -/
namespace OE
open PySem PySem.Spec PyProof.Rows L2
section
variable {M : Model} {prog : Program} {w : World} {A : Around} {E : Value → Shared → Prop} {s : Shared} {K : PySem.W.Frag} {x C f : Addr} {ox : Obj} {od : Option Obj} {b tb : Value}
theorem ifBound_objNe {args : List Value} {Q : Option Value → Shared → Prop} (X : K.In s.heap) (I : PySem.W.InstAt s.heap x ox C od) (hs : PySem.W.findIn K (.ref C) "__ne__" = some (some (.builtin "object.__ne__")))
    (h : wpAny M A (call (.builtin "object.__ne__") (.ref x :: args)) (fun v => Q (some v)) E s) : wpAny M A (callSpecialIfBound? (.ref x) "__ne__" args) Q E s := by
  simp only [callSpecialIfBound?, bindSpecialIfBound?]
  refine wpAny_holding (wpAny_bind (wpAny_bind (wpAny_bind (I.type.here ((PySem.W.looks_findIn X hs).here ?_)))))
  refine wpAny_bind (wpAny_askSetting (wpAny_ite ?_))
  have fin : wpAny M A (call (.builtin "object.__ne__") ([.ref x] ++ args) >>= fun v => pure (some v)) Q E s := wpAny_bind (wpAny_mono h (fun v s' h' => wpAny_pure h') fun _ _ h' => h')
  split
  · exact wpAny_bind (wpAny_of_eq (F.cmp_object.ne.bind _) (wpAny_pure (by exact fin)))
  · exact wpAny_tryCatch (wpAny_bind (wpAny_of_eq (F.cmp_object.ne.bind _) (wpAny_pure (by exact fin))))
theorem entry_ne {Q : Fin → Shared → Prop} (hu : A.units < cLine) (X : K.In s.heap) (I : PySem.W.InstAt s.heap x ox C od) (he : PySem.W.findIn K (.ref C) "__eq__" = some (some (.ref f))) (hf : PySem.W.isFn K (.ref f) = true)
    (h : wpAny (model prog w) A (call (.ref f) [.ref x, b]) (fun v s' => ∃ c, v = .bool c ∧ Q (.done (.ret (.bool (!c)))) s') E s) : wpAny (model prog w) A (Builtin.«object.__ne__» ⟨[.ref x, b], []⟩) Q E s := by
  unfold Builtin.«object.__ne__»
  show wpAny _ _ (cRoomFor "comparison" [.ref x, b] >>= _) _ _ _
  refine wpAny_bind (wpAny_cRoomFor hu (wpAny_bind (PySem.W.ifBound_K X I he hf (wpAny_mono h (fun v s' z => ?_) fun _ _ e => e))))
  obtain ⟨c, rfl, q⟩ := z
  exact wpAny_bind (wpAny_truthy_bool (wpAny_pure q))
theorem ne_K {Q : Value → Shared → Prop} (hu : A.units + 1 < cLine) (X : K.In s.heap) (I : PySem.W.InstAt s.heap x ox C od) (hb : PySem.W.Looks (model prog w) s.heap (typeOf b) tb) (hn : PySem.W.notFirst K C tb = true)
    (hs : PySem.W.findIn K (.ref C) "__ne__" = some (some (.builtin "object.__ne__"))) (he : PySem.W.findIn K (.ref C) "__eq__" = some (some (.ref f))) (hf : PySem.W.isFn K (.ref f) = true) (hm : PySem.W.mroIn K C (.type "object") = some true)
    (h : wpAny (model prog w) A.in1 (call (.ref f) [.ref x, b]) (fun v s' => ∃ c, v = .bool c ∧ Q (.bool (!c)) s') E s) : wpAny (model prog w) A (richCompare .NotEq (.ref x) b) Q E s := by
  have one : wpAny (model prog w) A (tryCompare (.ref x) "__ne__" b) (fun r s' => ∃ v, r = some v ∧ Q v s') E s := by
    unfold tryCompare
    refine wpAny_bind (ifBound_objNe X I hs (wpAny_call (codeAny_call_builtin F.cmp_object.ne.plain F.cmpEntry_ne (PySem.W.check_slot F.cmpKind_ne F.cmpSplit_ne (I.type.andThen (PySem.W.looks_mroIn X hm)) (F.cmpArgs_ne _ _)
      (entry_ne (A := A.in1) hu X I he hf (wpAny_mono h (fun v s' z => ?_) fun _ _ e => e))))))
    obtain ⟨c, rfl, q⟩ := z
    exact ⟨c, rfl, wpAny_pure ⟨_, rfl, q⟩⟩
  unfold richCompare
  simp only [oneThing_ref, cmpInfo_NotEq]
  refine wpAny_holding (wpAny_bind (wpAny_cRoomFor (Nat.lt_of_succ_lt hu) ?_))
  refine wpAny_bind (I.type.here (wpAny_bind (hb.here ?_)))
  split
  · rename_i q
    have e : PySem.W.subIn K tb (.ref C) = some false := by
      rcases Bool.or_eq_true_iff.mp hn with e | e
      · rw [beq_iff_eq.mp e] at q; simp at q
      · exact beq_iff_eq.mp e
    refine wpAny_bind ((PySem.W.looks_subIn X e).here ?_)
    simp only [Bool.false_eq_true, if_false]
    refine wpAny_bind (wpAny_mono one (fun r s' z => ?_) fun _ _ e => e)
    obtain ⟨v, rfl, hq⟩ := z
    exact wpAny_pure hq
  · refine wpAny_bind (wpAny_pure ?_)
    simp only [Bool.false_eq_true, if_false]
    refine wpAny_bind (wpAny_mono one (fun r s' z => ?_) fun _ _ e => e)
    obtain ⟨v, rfl, hq⟩ := z
    exact wpAny_pure hq
end
/-- x == y, x != y: x an instance of the class at C, whose __eq__ gives a bool -/
def rOE (K : PySem.W.Frag) (C : Addr) (sp : Sp) (E : XK) (neg : Bool) : R2 := fun x y H Q => ∃ (a dx : Addr) (fs : List (Str × V)) (t : Value), x = .ref a ∧ H a = some (.ins C dx fs) ∧ TyX K H y t ∧ PySem.W.notFirst K C t = true ∧
  sp [x, y] H (fun v H' => ∃ c, v = .bl c ∧ Q (.bl (if neg then !c else c)) H') E
structure OEq (K : PySem.W.Frag) (C g : Addr) : Prop where
  eq : PySem.W.findIn K (.ref C) "__eq__" = some (some (.ref g))
  fn : PySem.W.isFn K (.ref g) = true
  ne : PySem.W.findIn K (.ref C) "__ne__" = some (some (.builtin "object.__ne__"))
  ob : PySem.W.mroIn K C (.type "object") = some true
section
variable {X : Cx} {CX : CXT} {n : Nat} {C g : Addr} {sp : Sp} {E : XK}
theorem op_oeq (T : OEq X.K C g) (F : FnR X.prog X.w X.K X.mg X.base CX n g sp) (hr : Room n X.A) (hx : Passes CX X E) : OpR X (compareOp .Eq) (rOE X.K C sp E false) := by
  intro pins s σ H x y v u Q I rx ry h
  obtain ⟨a, dx, fs, t, rfl, ha, hy, hn, q⟩ := h
  cases (show v = Value.ref a from rx)
  obtain ⟨mA, O, _⟩ := ins_get I.hok ha
  obtain ⟨od, J, _⟩ := O.look
  obtain ⟨Pk, kt, hp, _⟩ := kit_of I ry hy
  obtain ⟨m, hF⟩ := I.fr
  show wpAny (model X.prog X.w) X.A (richCompare .Eq (.ref a) u) (EP X pins σ Q) X.xe s
  refine PySem.W.cmp_K (op := .Eq) (tb := t) hr.units0 hF I.ok.mod.kin J (kt.ty _ _ I.kIn hp) hn T.eq T.fn ?_
  refine wpAny_mono (wpAny_call (run_fnR (us := [.ref a, u]) (vs := [.ref a, y]) F hr hx I (.cons rfl (.cons ry .nil)) q)) (fun w' s' z => ?_) fun _ _ x => x
  obtain ⟨z', H', I', rz, c, rfl, qz⟩ := z
  exact SlX.cmpback rz ⟨.bl c, H', I', rz, qz⟩
theorem op_one (T : OEq X.K C g) (F : FnR X.prog X.w X.K X.mg X.base CX n g sp) (hr : Room (n + 1) X.A) (hx : Passes CX X E) : OpR X (compareOp .NotEq) (rOE X.K C sp E true) := by
  intro pins s σ H x y v u Q I rx ry h
  obtain ⟨a, dx, fs, t, rfl, ha, hy, hn, q⟩ := h
  cases (show v = Value.ref a from rx)
  obtain ⟨mA, O, _⟩ := ins_get I.hok ha
  obtain ⟨od, J, _⟩ := O.look
  obtain ⟨Pk, kt, hp, _⟩ := kit_of I ry hy
  show wpAny (model X.prog X.w) X.A (richCompare .NotEq (.ref a) u) (EP X pins σ Q) X.xe s
  refine ne_K (by have := hr.units; omega) I.kIn J (kt.ty _ _ I.kIn hp) hn T.ne T.eq T.fn T.ob ?_
  refine wpAny_mono (wpAny_call (codeAny_mono (F X.A.in1 X.stack s H [.ref a, u] [.ref a, y] _ E hr.in1 I.env0.in1 (.cons rfl (.cons ry .nil)) q) fun r s' hq => ?_)) (fun w' s' z => z) fun _ _ x => x
  cases r with
  | error e => exact hx pins σ H s e s' I hq
  | ok fl =>
    cases fl with
    | ret u2 =>
      obtain ⟨v2, H', I2, rv, c, rfl, qz⟩ := I.after hq
      cases (show u2 = Value.bool c from rv)
      exact ⟨c, rfl, .bl (!c), H', I2, rfl, qz⟩
    | next => exact False.elim hq
    | brk => exact False.elim hq
    | cont => exact False.elim hq
end
end OE
end
/-! ### LS -/
section
set_option Elab.async false
set_option linter.all false
set_option maxRecDepth 100000
set_option maxHeartbeats 4000000
/-! len(x), str(x) of an instance whose class has a __len__, a __str__ of its own. -/
namespace OE
open PySem PySem.Spec PyProof.Rows L2 PySem.Builtin
section
variable {prog : Program} {w : World} {A : Around} {E : Value → Shared → Prop} {s : Shared} {K : PySem.W.Frag} {x C f : Addr} {ox : Obj} {od : Option Obj}
theorem len_K {Q : Value → Shared → Prop} (X : K.In s.heap) (I : PySem.W.InstAt s.heap x ox C od) (hs : PySem.W.findIn K (.ref C) "__len__" = some (some (.ref f))) (hf : PySem.W.isFn K (.ref f) = true)
    (hcall : wpAny (model prog w) A.in1 (call (.ref f) [.ref x]) (fun r s' => ∃ n u, r = .int n u ∧ 0 ≤ n ∧ n < 2 ^ 63 ∧ Q (.int n s'.toks) { s' with toks := s'.toks + 1 }) E s) :
    wpAny (model prog w) A (call (.builtin "len") [.ref x]) Q E s := by
  refine Calls.call_function_entry kind_len plain_len entry_len (args_len1 _) ?_
  unfold Builtin.«len»
  refine wpAny_bind (m := oneArg "len" _) (wpAny_pure ?_)
  refine wpAny_bind (m := callSpecial? (.ref x) (Str.ofString "__len__")) (PySem.W.special_fn X I hs (beq_iff_eq.mp hf) (wpAny_mono hcall (fun r s' hr => ?_) fun _ _ y => y))
  obtain ⟨n, u, rfl, h0, h1, hq⟩ := hr
  refine wpAny_bind (wpAny_holding (wpAny_pure ?_))
  refine wpAny_bind (wpAny_letGo ?_)
  show wpAny _ _ (if n < 0 then _ else _) _ _ _
  rw [if_neg (by omega)]
  show wpAny _ _ (if n ≥ 2 ^ 63 then _ else _) _ _ _
  rw [if_neg (by omega)]
  exact wpAny_bind (wpAny_mkInt (wpAny_pure ⟨_, rfl, hq⟩))
theorem str_K {Q : Value → Shared → Prop} (hu : A.in1.in1.units < cLine) (X : K.In s.heap) (I : PySem.W.InstAt s.heap x ox C od) (hs : PySem.W.findIn K (.ref C) "__str__" = some (some (.ref f))) (hf : PySem.W.isFn K (.ref f) = true)
    (h : wpAny (model prog w) A.in1.in1 (call (.ref f) [.ref x]) (fun r s' => ∃ y u, r = .str y u ∧ Q r s') E s) : wpAny (model prog w) A (call (.type "str") [.ref x]) Q E s := by
  refine callType_codes (T := "str") (Bi := Builtin.«object.__init__») (Q₁ := fun r s₁ => ∃ y u, r = .str y u ∧ Q r s₁) PySem.F.called_str (PySem.F.typeCall_str_1 _) PySem.F.entry_object_init ?_ ?_
  · refine codeAny_of_tree ?_
    show wpAny _ A.in1.in1 (do checkBuiltinCall "str.__new__" ⟨[.type "str", .ref x], []⟩; again (.builtin "str.__new__" ⟨[.type "str", .ref x], []⟩)) _ _ s
    refine wpAny_bind (wpAny_of_eq (PySem.F.newCall_str_1 _) (wpAny_pure ⟨plainId_quiet (by decide +kernel) _, codeAny_builtin PySem.F.entry_str_new ?_⟩))
    rw [Around.under_plainId (by decide +kernel) _]
    rw [str_new_tree]
    refine wpAny_bind (wpAny_pure ?_)
    refine wpAny_bind (wpAny_of_eq isSubtype_str_str ?_)
    have key : wpAny (model prog w) A.in1.in1 (PySem.Builtin.Str.strOf (.ref x)) (fun r s₁ => ∃ y u, r = .str y u ∧ Q r s₁) E s := by
      unfold PySem.Builtin.Str.strOf
      rw [show PySem.Builtin.Str.isExactStr (.ref x) = false from rfl]
      refine wpAny_bind (m := cRoomFor _ _) (wpAny_cRoomFor hu ?_)
      refine wpAny_bind (m := callSpecial? (.ref x) (Str.ofString "__str__")) (PySem.W.special_fn X I hs (beq_iff_eq.mp hf) (wpAny_mono h (fun r s' z => ?_) fun _ _ y => y))
      obtain ⟨y, u, rfl, z⟩ := z
      exact wpAny_pure ⟨_, _, rfl, z⟩
    exact wpAny_bind (wpAny_mono key (fun r s₁ hr => wpAny_pure hr) fun _ _ y => y)
  · rintro obj s₁ ⟨y, u, rfl, hq⟩
    exact ⟨typeIs_str _ _ _, PySem.F.args_object_init_2 _ _, object_init_meets PySem.F.called_str.init.lookup PySem.F.called_str.made (by decide) prog w A.in1 _ s₁ ⟨typeIs_str _ _ _, rfl, hq⟩⟩
end
def rLenO (C : Addr) (sp : Sp) (E : XK) : List V → Hp → VK → Prop := fun xs H Q => ∃ (a dx : Addr) (fs : List (Str × V)), xs = [.ref a] ∧ H a = some (.ins C dx fs) ∧ sp [.ref a] H (fun v H' => ∃ n : Int, v = .int n ∧ 0 ≤ n ∧ n < 2 ^ 63 ∧ Q (.int n) H') E
def rStrO (C : Addr) (sp : Sp) (E : XK) : List V → Hp → VK → Prop := fun xs H Q => ∃ (a dx : Addr) (fs : List (Str × V)), xs = [.ref a] ∧ H a = some (.ins C dx fs) ∧ sp [.ref a] H (fun v H' => ∃ z : Str, v = .str z ∧ Q (.str z) H') E
section
variable {X : Cx} {CX : CXT} {n : Nat} {C g : Addr} {sp : Sp} {E : XK}
theorem call_lenO (hs : PySem.W.findIn X.K (.ref C) "__len__" = some (some (.ref g))) (hf : PySem.W.isFn X.K (.ref g) = true) (F : FnR X.prog X.w X.K X.mg X.base CX n g sp) (hr : Room (n + 2) X.A) (hx : Passes CX X E) : CallR X (.builtin "len") (rLenO C sp E) := by
  intro pins s σ H xs us Q I r h
  obtain ⟨a, dx, fs, rfl, ha, q⟩ := h
  obtain ⟨u, rfl, ru⟩ := r.one
  cases (show u = Value.ref a from ru)
  obtain ⟨mA, O, _⟩ := ins_get I.hok ha
  obtain ⟨od, J, _⟩ := O.look
  refine len_K I.kIn J hs hf (wpAny_mono (wpAny_call (SlX.run_at (us := [.ref a]) (ws := [.ref a]) F (hr.in1.mono (Nat.le_succ _)) I.env0.in1 hx I (.cons rfl .nil) q)) (fun w' s' z => ?_) fun _ _ x => x)
  obtain ⟨z', H', I', rz, i, ei, h0, h1, qz⟩ := z
  subst ei
  obtain ⟨t, e⟩ := (show ∃ t, w' = Value.int i t from rz)
  cases e
  exact ⟨i, t, rfl, h0, h1, .int i, H', I'.tok _, ⟨_, rfl⟩, qz⟩
theorem call_strO (hs : PySem.W.findIn X.K (.ref C) "__str__" = some (some (.ref g))) (hf : PySem.W.isFn X.K (.ref g) = true) (F : FnR X.prog X.w X.K X.mg X.base CX n g sp) (hr : Room (n + 2) X.A) (hx : Passes CX X E) : CallR X (.type "str") (rStrO C sp E) := by
  intro pins s σ H xs us Q I r h
  obtain ⟨a, dx, fs, rfl, ha, q⟩ := h
  obtain ⟨u, rfl, ru⟩ := r.one
  cases (show u = Value.ref a from ru)
  obtain ⟨mA, O, _⟩ := ins_get I.hok ha
  obtain ⟨od, J, _⟩ := O.look
  have hr2 : Room n X.A.in1.in1 := (show Room (n + 1) X.A.in1 from Room.in1 hr).in1
  refine str_K hr2.units0 I.kIn J hs hf (wpAny_mono (wpAny_call (SlX.run_at (us := [.ref a]) (ws := [.ref a]) F hr2 I.env0.in1.in1 hx I (.cons rfl .nil) q)) (fun w' s' z => ?_) fun _ _ x => x)
  obtain ⟨z', H', I', rz, i, ei, qz⟩ := z
  subst ei
  obtain ⟨t, e⟩ := (show ∃ t, w' = Value.str i t from rz)
  cases e
  exact ⟨i, t, rfl, .str i, H', I', ⟨t, rfl⟩, qz⟩
end
end OE
end
/-! ### CM -/
section
set_option Elab.async false
set_option linter.all false
set_option maxRecDepth 100000
set_option maxHeartbeats 4000000
/-! Cleaner: firsts, len, ==. -/
namespace K0
open PySem PySem.Spec PyProof.Rows L2 LamX OE
open MD (dM KeysV KeyV EqM op_eqM)
def CleanerAt (K : PySem.W.Frag) (w : World) (C : Addr) (H : Hp) (x : Addr) (ws ls : List StD) (fv : V) : Prop := ∃ dx tw tl to, H x = some (insC C dx tw tl to fv) ∧ KeptAt K w H tw ws ∧ KeptAt K w H tl ls
theorem CleanerAt.same {K : PySem.W.Frag} {w : World} {C x : Addr} {H H' : Hp} {ws ls : List StD} {fv : V} (h : CleanerAt K w C H x ws ls fv) (e : Same H H') : CleanerAt K w C H' x ws ls fv := by
  obtain ⟨dx, tw, tl, to, h1, h2, h3⟩ := h
  exact ⟨dx, tw, tl, to, e _ _ h1, h2.same e, h3.same e⟩
theorem CleanerAt.ext {K : PySem.W.Frag} {w : World} {C x : Addr} {H H' : Hp} {ws ls : List StD} {fv : V} (h : CleanerAt K w C H x ws ls fv) (e : ExtN H H') : CleanerAt K w C H' x ws ls fv := by
  obtain ⟨dx, tw, tl, to, h1, h2, h3⟩ := h
  exact ⟨dx, tw, tl, to, e _ _ h1 (fun _ z => by cases z), h2.dat.same (dat_ext e), h3.dat.same (dat_ext e)⟩
/-- more of what the written part says of Cleaner -/
structure ClM (K : PySem.W.Frag) (C : Addr) : Prop where
  ca : PySem.W.findIn K (.ref C) "__class__" = some (some (.builtin "object.__class__"))
  cg : PySem.W.specialIn K (.builtin "object.__class__") "__get__" = some (some (.builtin "getset_descriptor.__get__"))
  ct : PySem.W.takesIn K (.builtin "object.__class__") = some true
  ob : PySem.W.mroIn K C (.type "object") = some true
  me : PySem.W.kitOne K (.ref C) (.ref C) = some true
  kp : PySem.W.keepIn K (.ref C) = true
theorem CleanerAt.ty {K : PySem.W.Frag} {w : World} {C x : Addr} {H : Hp} {ws ls : List StD} {fv : V} (T : ClK K C) (M : ClM K C) (h : CleanerAt K w C H x ws ls fv) : TyX K H (.ref x) (.ref C) := by
  obtain ⟨dx, tw, tl, to, h1, _⟩ := h
  exact .base (.ins h1 T.cl M.ca M.cg M.ct M.ob)
/-- its own like -/
def Sf (v : V) : Prop := flatB v = true ∨ ∃ a, v = .ref a
def selfS : StD → Prop
  | .bad => False
  | .good rs ys _ => (∀ y ∈ ys, Sf y) ∧ ∀ r ∈ rs, Sf r.1.2.2
theorem dv_sf {K : PySem.W.Frag} {H : Hp} {v : V} {d : PyData} (h : Dv K H v d) : Sf v := by
  cases h <;> first | exact .inl rfl | exact .inr ⟨_, rfl⟩
theorem dvAll_sf {K : PySem.W.Frag} {H : Hp} : ∀ {vs : List V} {ds : List PyData}, DvAll K H vs ds → ∀ y ∈ vs, Sf y
  | _, _, .nil, y, h => nomatch h
  | _, _, .cons (v := v) h t, y, m => by
    rcases List.mem_cons.mp m with e | m
    · rw [e]; exact dv_sf h
    · exact dvAll_sf t y m
theorem stx_self {K : PySem.W.Frag} {w : World} {H : Hp} {n : Nat} {v : V} : ∀ {d : StD}, StX K w H n v d → goodS d → selfS d
  | .bad, _, g => g
  | .good rs ys ds, h, _ => by
    obtain ⟨a, m, rfl, h1, h2, h3, h4, h5, h6⟩ := h
    exact ⟨dvAll_sf h2, fun r hr => dv_sf (h5.dat r hr).2⟩
theorem whx_self {K : PySem.W.Frag} {w : World} {H : Hp} {n : Nat} {v : V} {ss : List StD} (h : WhX K w H n v (.sts ss)) (g : ∀ s ∈ ss, goodS s) : ∀ s ∈ ss, selfS s := by
  obtain ⟨a, xs, rfl, h1, h2, h3⟩ := h
  intro s hs
  obtain ⟨i, hi⟩ := List.mem_iff_getElem?.mp hs
  obtain ⟨x, hx, st⟩ := MD.paired_get h2 hi
  exact stx_self st (g s hs)
theorem eqm_sf {K : PySem.W.Frag} {w : World} {H : Hp} {n : Nat} {v : V} (h : Sf v) : EqM K w H (n + 1) v v := h.elim (fun z => .inl ⟨rfl, z⟩) fun ⟨a, z⟩ => .inr (.inl ⟨a, z, z⟩)
theorem eqm_all {K : PySem.W.Frag} {w : World} {H : Hp} {n : Nat} : ∀ {vs : List V}, (∀ y ∈ vs, Sf y) → Paired (EqM K w H (n + 1)) vs vs
  | [], _ => .nil
  | v :: vs, h => .cons (eqm_sf (h v List.mem_cons_self)) (eqm_all fun y m => h y (List.mem_cons_of_mem _ m))
theorem kept_eq {K : PySem.W.Frag} {w : World} {H : Hp} {T1 T2 : Addr} : ∀ {s : StD}, KeptRow K w H T1 s → KeptRow K w H T2 s → selfS s → EqM K w H 3 (.ref T1) (.ref T2)
  | .bad, h, _, _ => h.elim
  | .good rs ys ds, h, g, f => by
    obtain ⟨d1, r1, a1, a2, a3, a4⟩ := h
    obtain ⟨d2, r2, b1, b2, b3, b4⟩ := g
    refine .inr (.inr (.inl ⟨T1, T2, _, _, rfl, rfl, a1, b1, .cons ?_ (eqm_all f.1)⟩))
    refine .inr (.inr (.inr ⟨d1, d2, r1, r2, rfl, rfl, a2, b2, a4, b4, a3.length_eq.trans b3.length_eq.symm, fun p hp => ?_⟩))
    have mp := a3.mem_iff.mp hp
    obtain ⟨r, hr, rfl⟩ := List.mem_map.mp mp
    exact ⟨r.1, b3.mem_iff.mpr mp, rfl, eqm_sf (f.2 r hr)⟩
theorem kepts_eq {K : PySem.W.Frag} {w : World} {H : Hp} : ∀ {Ts Us : List Addr} {ss : List StD}, Paired (KeptRow K w H) Ts ss → Paired (KeptRow K w H) Us ss → (∀ s ∈ ss, selfS s) → Paired (EqM K w H 3) (Ts.map V.ref) (Us.map V.ref)
  | _, _, _, .nil, .nil, _ => .nil
  | _, _, _, .cons h t, .cons g u, f => .cons (kept_eq h g (f _ List.mem_cons_self)) (kepts_eq t u fun s m => f s (List.mem_cons_of_mem _ m))
theorem keptAt_eq {K : PySem.W.Frag} {w : World} {H : Hp} {t u : Addr} {ss : List StD} (h : KeptAt K w H t ss) (g : KeptAt K w H u ss) (f : ∀ s ∈ ss, selfS s) : EqM K w H 4 (.ref t) (.ref u) := by
  obtain ⟨Ts, a1, a2⟩ := h
  obtain ⟨Us, b1, b2⟩ := g
  exact .inr (.inr (.inl ⟨t, u, _, _, rfl, rfl, a1, b1, kepts_eq a2 b2 f⟩))
theorem scCFirsts : FnScope ["self"] ["self"] (defScope (crow 4)) := ⟨rfl, rfl, rfl, by decide +kernel, rfl, by decide +kernel, by decide +kernel⟩
theorem scCEq : FnScope ["self", "other"] ["self", "other"] (defScope (crow 10)) := ⟨rfl, rfl, rfl, by decide +kernel, rfl, by decide +kernel, by decide +kernel⟩
theorem scCLen : FnScope ["self"] ["self"] (defScope (crow 11)) := ⟨rfl, rfl, rfl, by decide +kernel, rfl, by decide +kernel, by decide +kernel⟩
def spCFirsts (C : Addr) : Sp := fun vs H Q _ => ∃ (x dx tw tl to : Addr) (fv : V), vs = [.ref x] ∧ H x = some (insC C dx tw tl to fv) ∧ Q fv H
def spCLen (K : PySem.W.Frag) (w : World) (C : Addr) : Sp := fun vs H Q _ => ∃ (x : Addr) (ws ls : List StD) (fv : V), vs = [.ref x] ∧ CleanerAt K w C H x ws ls fv ∧ Q (.int (ws.length : Nat)) H
def spCEq (K : PySem.W.Frag) (w : World) (C : Addr) : Sp := fun vs H Q _ => ∃ (x y f1 f2 : Addr) (ws ls : List StD) (zs : List V), vs = [.ref x, .ref y] ∧ CleanerAt K w C H x ws ls (.ref f1) ∧ CleanerAt K w C H y ws ls (.ref f2) ∧ (∀ s ∈ ws, selfS s) ∧ (∀ s ∈ ls, selfS s) ∧ SqT K H f1 zs ∧ SqT K H f2 zs ∧ (∀ z ∈ zs, Sf z) ∧ ∀ H', Same H H' → Q (.bl true) H'
section
variable {P : Program} {w : World} {K : PySem.W.Frag} {mg : Str → Option Value} {base : Heap} {f C : Addr} {fd : FuncData}
theorem ok_cfirsts {k : Nat} (F : CrP K "firsts" "Cleaner.firsts" 4 f fd) (T : ClK K C) : FnOk P w K mg base CX0 (k + 1) f fd ["self"] (spCFirsts C) := by
  refine F.ok scCFirsts (fun vs H Q E h => ?_) (fun cdv A outer s H vs Q E hr h => ?_)
  · obtain ⟨x, dx, tw, tl, to, fv, rfl, _⟩ := h
    rfl
  · obtain ⟨x, dx, tw, tl, to, fv, rfl, hx, q⟩ := h
    refine ⟨_, PSs.nox (pss_one (ps_ret (pe_fld (pv 0) rfl))), ?_⟩
    exact ⟨_, rfl, x, C, dx, _, _, rfl, hx, T.cl, T.nf, rfl, q⟩
theorem ok_clen {k : Nat} (F : CrP K "__len__" "Cleaner.__len__" 11 f fd) (T : ClK K C) (mlen : mg "len" = none) : FnOk P w K mg base CX0 (k + 1) f fd ["self"] (spCLen K w C) := by
  refine F.ok scCLen (fun vs H Q E h => ?_) (fun cdv A outer s H vs Q E hr h => ?_)
  · obtain ⟨x, ws, ls, fv, rfl, _⟩ := h
    rfl
  · obtain ⟨x, ws, ls, fv, rfl, ⟨dx, tw, tl, to, h1, ⟨Ts, h2, h3⟩, h4⟩, q⟩ := h
    refine ⟨_, PSs.nox (pss_one (ps_ret (pe_callB call_len_seq (by rfl) mlen PySem.boot_len (pa_cons (pe_fld (pv 0) rfl) pa_nil)))), ?_⟩
    rw [← MD.paired_len h3, ← List.length_map (as := Ts) (f := V.ref)] at q
    exact ⟨_, rfl, x, C, dx, _, _, rfl, h1, T.cl, T.nw, rfl, tw, _, rfl, .inr h2, q⟩
theorem ok_ceq {k : Nat} (F : CrP K "__eq__" "Cleaner.__eq__" 10 f fd) (T : ClK K C) (M : ClM K C) (misi : mg "isinstance" = none) (gC : mg "Cleaner" = some (.ref C)) : FnOk P w K mg base CX0 (k + 1) f fd ["self", "other"] (spCEq K w C) := by
  refine F.ok scCEq (fun vs H Q E h => ?_) (fun cdv A outer s H vs Q E hr h => ?_)
  · obtain ⟨x, y, f1, f2, ws, ls, zs, rfl, _⟩ := h
    rfl
  · obtain ⟨x, y, v1, v2, ws, ls, zs, rfl, hx, hy, f1, f2, z1, z2, f3, q⟩ := h
    refine ⟨_, PSs.nox (pss_cons (ps_if (pt_not (pt_val (pe_callB call_isi (by rfl) misi boot_isinstance (pa_cons (pv 1) (pa_cons (pe_glob (v := .ref C) (by rfl) gC rfl) pa_nil))))) (pss_one (ps_ret pe_bl)) pss_nil)
      (pss_one (ps_ret (pe_cmpR (op_eqM hr.units) (pe_tup (pa_cons (pe_fld (pv 0) rfl) (pa_cons (pe_fld (pv 0) rfl) (pa_cons (pe_fld (pv 0) rfl) pa_nil)))) (pe_tup (pa_cons (pe_fld (pv 1) rfl) (pa_cons (pe_fld (pv 1) rfl) (pa_cons (pe_fld (pv 1) rfl) pa_nil)))) (nomark _))))), ?_⟩
    have sl : sizeLine = 16777216 := sizeLine_eq
    have hty := hy.ty T M
    obtain ⟨dx, tw, tl, to, h1, h2, h3⟩ := hx
    obtain ⟨dy, uw, ul, uo, g1, g2, g3⟩ := hy
    refine ⟨_, rfl, _, .ref C, _, _, true, rfl, .own C, hty, M.me, _, rfl, ?_⟩
    refine ⟨_, rfl, x, C, dx, _, _, rfl, h1, T.cl, T.nw, rfl, _, rfl, x, C, dx, _, _, rfl, h1, T.cl, T.nl, rfl, _, rfl, x, C, dx, _, _, rfl, h1, T.cl, T.nf, rfl, by show 3 ≤ sizeLine; omega, fun a na => ?_⟩
    have s1 := same_upd (o := .tup [.ref tw, .ref tl, .ref v1]) na
    have g1' := s1 _ _ g1
    refine ⟨_, rfl, y, C, dy, _, _, rfl, g1', T.cl, T.nw, rfl, _, rfl, y, C, dy, _, _, rfl, g1', T.cl, T.nl, rfl, _, rfl, y, C, dy, _, _, rfl, g1', T.cl, T.nf, rfl, by show 3 ≤ sizeLine; omega, fun b nb => ?_⟩
    have s2 := same_upd (o := .tup [.ref uw, .ref ul, .ref v2]) nb
    have s3 := s1.trans s2
    exact ⟨4, a, b, _, _, by decide, rfl, rfl, .of (s2 _ _ upd_same), .of upd_same, .cons (keptAt_eq (h2.same s3) (g2.same s3) f1) (.cons (keptAt_eq (h3.same s3) (g3.same s3) f2) (.cons (.inr (.inr (.inl ⟨v1, v2, zs, zs, rfl, rfl, same_tup s3 z1, same_tup s3 z2, eqm_all f3⟩))) .nil)), q _ s3⟩
end
end K0
end
/-! ### VM -/
section
set_option Elab.async false
set_option linter.all false
set_option maxRecDepth 100000
set_option maxHeartbeats 4000000
/-! Views and results of a cleaner by the data of its parts. -/
namespace K0
open PySem PySem.Spec PyProof.Rows L2
open MD (dM KeysV KeyV)
def numD : PyData → Int
  | .int n => n
  | _ => 0
def pairD : PyData → Str × Int
  | .tuple [.str z, .int i] => (z, i)
  | _ => ("", 0)
def findR (rs : List RX) (k : MD.NK) : Option RX := rs.find? fun r => decide (r.1.1 = k)
/-- the view ahead of a sign -/
def lkD : StD → Nat → Int
  | .good rs _ [o], c => numD (((findR rs (.text (oneS c))).map fun r => r.2.2).getD o)
  | _, _ => 0
def hd0 : List Int → Int
  | [] => 0
  | x :: _ => x
def atS (ss : List StD) (i : Int) : StD := ss.getD i.toNat .bad
def viewsL (ls : List StD) : List Nat → List Int
  | [] => [0]
  | c :: cs => lkD (atS ls (hd0 (viewsL ls cs))) c :: viewsL ls cs
/-- what is written for a sign with a view behind it, and the state behind -/
def wrD : StD → Nat → Int → Str × Int
  | .good rs _ [o, _], c, v => pairD ((((findR rs (.tup [.text (oneS c), .num v])).map fun r => r.2.2).or ((findR rs (.tup [.text (oneS c), .none])).map fun r => r.2.2)).getD (.tuple [.str (oneS c), o]))
  | _, _, _ => ("", 0)
def lastD : StD → Str
  | .good _ _ [_, .str l] => l
  | _ => ""
def stepW (ws : List StD) (p : List Str × Int) (x : Nat × Int) : List Str × Int := (p.1 ++ [(wrD (atS ws p.2) x.1 x.2).1], (wrD (atS ws p.2) x.1 x.2).2)
def goW (ws : List StD) (q : Int) (l : List (Nat × Int)) : List Str × Int := l.foldl (stepW ws) ([], q)
theorem goW_succ {ws : List StD} {q : Int} {l : List (Nat × Int)} {i : Nat} {x : Nat × Int} (h : l[i]? = some x) : goW ws q (l.take (i + 1)) = stepW ws (goW ws q (l.take i)) x := by
  unfold goW
  rw [List.take_add_one, h, List.foldl_append]
  rfl
def firstQ (ls : List StD) (ds : List PyData) (cs : List Nat) : PyData := ds.getD (hd0 (viewsL ls cs)).toNat .none
def pairsL (ls : List StD) (cs : List Nat) : List (Nat × Int) := cs.zip (viewsL ls cs).tail
/-- the result: none if the text is refused -/
def resD (ws ls : List StD) (ds : List PyData) (cs : List Nat) : Option Str := match firstQ ls ds cs with
  | .int q => some (Txt.join "" (goW ws q (pairsL ls cs)).1 ++ lastD (atS ws (goW ws q (pairsL ls cs)).2))
  | _ => none
/-- what holds of the parts of a cleaner, by their data -/
structure CleanOk (ws ls : List StD) (ds : List PyData) : Prop where
  nl : 0 < ls.length
  l : ∀ s ∈ ls, lStD ls.length s = true
  w : ∀ s ∈ ws, wStD ws.length ls.length s = true
  f : ∀ d ∈ ds, isViewD ws.length d = true
  nf : ds.length = ls.length
theorem WildOk.clean {ws ls : List StD} {ds : List PyData} (h : WildOk ws ls ds) : CleanOk ws ls ds := ⟨by have := h.nl; omega, h.l, h.w, h.f, h.nf⟩
theorem viewsL_ne (ls : List StD) : ∀ cs : List Nat, viewsL ls cs ≠ []
  | [] => by simp [viewsL]
  | _ :: _ => by simp [viewsL]
theorem viewsL_len (ls : List StD) : ∀ cs : List Nat, (viewsL ls cs).length = cs.length + 1
  | [] => rfl
  | c :: cs => by
    rw [viewsL, List.length_cons, List.length_cons, viewsL_len ls cs]
theorem pairsL_len (ls : List StD) (cs : List Nat) : (pairsL ls cs).length = cs.length := by
  unfold pairsL
  rw [List.length_zip, List.length_tail, viewsL_len]
  omega
theorem num_range {n : Int} {d : PyData} (h : isNumD 0 (n - 1) d = true) : 0 ≤ numD d ∧ numD d < n := by
  cases d with
  | int i =>
    have h : (decide (0 ≤ i) && decide (i ≤ n - 1)) = true := h
    rw [Bool.and_eq_true, decide_eq_true_iff, decide_eq_true_iff] at h
    exact ⟨h.1, by show i < n; omega⟩
  | _ => cases h
theorem lkD_range {n : Int} {s : StD} (h : lStD n s = true) (c : Nat) : 0 ≤ lkD s c ∧ lkD s c < n := by
  match s, h with
  | .good rs ys [o], h =>
    have h : (isNumD 0 (n - 1) o && rs.all fun r => isSignD r.2.1 && isNumD 0 (n - 1) r.2.2) = true := h
    obtain ⟨h1, h2⟩ := Bool.and_eq_true_iff.mp h
    show 0 ≤ numD (((findR rs (.text (oneS c))).map fun r => r.2.2).getD o) ∧ numD (((findR rs (.text (oneS c))).map fun r => r.2.2).getD o) < n
    cases e : findR rs (.text (oneS c)) with
    | none => exact num_range h1
    | some r =>
      have m := List.mem_of_find?_eq_some e
      exact num_range (Bool.and_eq_true_iff.mp (List.all_eq_true.mp h2 r m)).2
theorem atS_mem {ss : List StD} {i : Int} (h0 : 0 ≤ i) (h1 : i < ss.length) : ss[i.toNat]? = some (atS ss i) ∧ atS ss i ∈ ss := by
  have lt : i.toNat < ss.length := by omega
  have e : ss[i.toNat]? = some (atS ss i) := by
    unfold atS
    rw [List.getD_eq_getElem?_getD, List.getElem?_eq_getElem lt]
    rfl
  exact ⟨e, List.mem_of_getElem? e⟩
theorem views_range {ws ls : List StD} {ds : List PyData} (O : CleanOk ws ls ds) : ∀ (cs : List Nat), ∀ v ∈ viewsL ls cs, 0 ≤ v ∧ v < ls.length
  | [], v, m => by
    have := O.nl
    rw [viewsL, List.mem_singleton] at m
    omega
  | c :: cs, v, m => by
    have ih := views_range O cs
    rw [viewsL, List.mem_cons] at m
    rcases m with rfl | m
    · have hb : 0 ≤ hd0 (viewsL ls cs) ∧ hd0 (viewsL ls cs) < ls.length := by
        cases e : viewsL ls cs with
        | nil => exact absurd e (viewsL_ne ls cs)
        | cons x r => exact ih x (by rw [e]; exact List.mem_cons_self)
      exact lkD_range (O.l _ (atS_mem hb.1 hb.2).2) c
    · exact ih v m
theorem hd_range {ws ls : List StD} {ds : List PyData} (O : CleanOk ws ls ds) (cs : List Nat) : 0 ≤ hd0 (viewsL ls cs) ∧ hd0 (viewsL ls cs) < ls.length := by
  cases e : viewsL ls cs with
  | nil => exact absurd e (viewsL_ne ls cs)
  | cons x r => exact views_range O cs x (by rw [e]; exact List.mem_cons_self)
theorem pair_range {m : Int} {d : PyData} (h : isMoveD m d = true) : sgAll (pairD d).1 = true ∧ (pairD d).1.length ≤ 2 ∧ 0 ≤ (pairD d).2 ∧ (pairD d).2 < m ∧ d = .tuple [.str (pairD d).1, .int (pairD d).2] := by
  obtain ⟨t, s, rfl⟩ : ∃ t s, d = .tuple [t, s] := by
    unfold isMoveD at h
    split at h
    · exact ⟨_, _, rfl⟩
    · cases h
  have h : (isWrittenD t && isNumD 0 (m - 1) s) = true := h
  obtain ⟨h1, h2⟩ := Bool.and_eq_true_iff.mp h
  cases t with
  | str z =>
    cases s with
    | int i =>
      have h1 : (sgAll z && decide (z.length ≤ 2)) = true := h1
      rw [Bool.and_eq_true, decide_eq_true_iff] at h1
      exact ⟨h1.1, h1.2, (num_range h2).1, (num_range h2).2, rfl⟩
    | _ => cases h2
  | _ => cases h1
theorem wrD_range {m n : Int} {s : StD} (h : wStD m n s = true) {c : Nat} (hc : c ∈ allSigns.cps.toList) (v : Int) : sgAll (wrD s c v).1 = true ∧ (wrD s c v).1.length ≤ 2 ∧ 0 ≤ (wrD s c v).2 ∧ (wrD s c v).2 < m := by
  match s, h with
  | .good rs ys [o, l], h =>
    have h : (isNumD 0 (m - 1) o && isWrittenD l && rs.all fun r => isSeenD n r.2.1 && isMoveD m r.2.2) = true := h
    obtain ⟨h1, h2⟩ := Bool.and_eq_true_iff.mp h
    have mv : ∀ r ∈ rs, sgAll (pairD r.2.2).1 = true ∧ (pairD r.2.2).1.length ≤ 2 ∧ 0 ≤ (pairD r.2.2).2 ∧ (pairD r.2.2).2 < m := fun r hr => by
      have z := pair_range (Bool.and_eq_true_iff.mp (List.all_eq_true.mp h2 r hr)).2
      exact ⟨z.1, z.2.1, z.2.2.1, z.2.2.2.1⟩
    have num := num_range (Bool.and_eq_true_iff.mp h1).1
    have o1 : ∃ n : Int, o = .int n := by
      have z := (Bool.and_eq_true_iff.mp h1).1
      cases o with
      | int n => exact ⟨n, rfl⟩
      | _ => cases z
    obtain ⟨n1, rfl⟩ := o1
    show sgAll (pairD ((((findR rs (.tup [.text (oneS c), .num v])).map fun r => r.2.2).or ((findR rs (.tup [.text (oneS c), .none])).map fun r => r.2.2)).getD (.tuple [.str (oneS c), .int n1]))).1 = true ∧
      (pairD ((((findR rs (.tup [.text (oneS c), .num v])).map fun r => r.2.2).or ((findR rs (.tup [.text (oneS c), .none])).map fun r => r.2.2)).getD (.tuple [.str (oneS c), .int n1]))).1.length ≤ 2 ∧
      0 ≤ (pairD ((((findR rs (.tup [.text (oneS c), .num v])).map fun r => r.2.2).or ((findR rs (.tup [.text (oneS c), .none])).map fun r => r.2.2)).getD (.tuple [.str (oneS c), .int n1]))).2 ∧
      (pairD ((((findR rs (.tup [.text (oneS c), .num v])).map fun r => r.2.2).or ((findR rs (.tup [.text (oneS c), .none])).map fun r => r.2.2)).getD (.tuple [.str (oneS c), .int n1]))).2 < m
    cases e : findR rs (.tup [.text (oneS c), .num v]) with
    | some r => exact mv r (List.mem_of_find?_eq_some e)
    | none =>
      cases e2 : findR rs (.tup [.text (oneS c), .none]) with
      | some r => exact mv r (List.mem_of_find?_eq_some e2)
      | none =>
        refine ⟨?_, by show 1 ≤ 2; decide, num⟩
        show ([c].all fun c => allSigns.cps.contains c) = true
        rw [List.all_cons, List.all_nil, Bool.and_true, sg_mem, decide_eq_true hc]
theorem last_range {m n : Int} {s : StD} (h : wStD m n s = true) : sgAll (lastD s) = true ∧ (lastD s).length ≤ 2 := by
  match s, h with
  | .good rs ys [o, l], h =>
    have h : (isNumD 0 (m - 1) o && isWrittenD l && rs.all fun r => isSeenD n r.2.1 && isMoveD m r.2.2) = true := h
    have h1 := (Bool.and_eq_true_iff.mp (Bool.and_eq_true_iff.mp h).1).2
    cases l with
    | str z =>
      have h1 : (sgAll z && decide (z.length ≤ 2)) = true := h1
      rw [Bool.and_eq_true, decide_eq_true_iff] at h1
      exact h1
    | _ => cases h1
/-- the walk's pieces and state, within bounds -/
theorem goW_range {ws ls : List StD} {ds : List PyData} (O : CleanOk ws ls ds) {q : Int} (h0 : 0 ≤ q) (h1 : q < ws.length) : ∀ (n : Nat) (l : List (Nat × Int)), l.length = n → (∀ x ∈ l, x.1 ∈ allSigns.cps.toList) →
    0 ≤ (goW ws q l).2 ∧ (goW ws q l).2 < ws.length ∧ (goW ws q l).1.length = n ∧ ∀ z ∈ (goW ws q l).1, sgAll z = true ∧ z.length ≤ 2
  | 0, l, hl, _ => by
    rw [List.length_eq_zero_iff.mp hl]
    exact ⟨h0, h1, rfl, fun z m => nomatch m⟩
  | n + 1, l, hl, hm => by
    have hx : l[n]? = some (l[n]'(by omega)) := List.getElem?_eq_getElem (by omega)
    have e := goW_succ (ws := ws) (q := q) hx
    rw [List.take_of_length_le (by omega)] at e
    obtain ⟨a1, a2, a3, a4⟩ := goW_range O h0 h1 n (l.take n) (by rw [List.length_take]; omega) fun x m => hm x (List.mem_of_mem_take m)
    have b := wrD_range (O.w _ (atS_mem a1 a2).2) (hm _ (List.mem_of_getElem? hx)) (l[n]'(by omega)).2
    rw [e]
    refine ⟨b.2.2.1, b.2.2.2, ?_, fun z m => ?_⟩
    · show ((goW ws q (l.take n)).1 ++ [_]).length = n + 1
      rw [List.length_append, a3]
      rfl
    · have m : z ∈ (goW ws q (l.take n)).1 ++ [_] := m
      rcases List.mem_append.mp m with m | m
      · exact a4 z m
      · rw [List.mem_singleton.mp m]
        exact ⟨b.1, b.2.1⟩
theorem find_perm {rows : List MD.Row} {rs : List RX} {k : MD.NK} (p : rows.Perm (rs.map (·.1))) (nd : ((rs.map (·.1)).map (·.1)).Nodup) : MD.look rows k = (findR rs k).map fun r => r.1.2.2 := by
  have ndr : (rows.map (·.1)).Nodup := (p.map (·.1)).nodup_iff.mpr nd
  cases e : findR rs k with
  | none =>
    refine MD.look_none fun i x hx hk => ?_
    have m : x ∈ rs.map (·.1) := p.mem_iff.mp (List.mem_of_getElem? hx)
    obtain ⟨r, hr, rfl⟩ := List.mem_map.mp m
    have z := List.find?_eq_none.mp e r hr
    exact z (decide_eq_true hk)
  | some r =>
    have hm := List.mem_of_find?_eq_some e
    have hk : r.1.1 = k := by
      have z := List.find?_some (show rs.find? (fun r => decide (r.1.1 = k)) = some r from e)
      exact of_decide_eq_true z
    have m : r.1 ∈ rows := p.mem_iff.mpr (List.mem_map.mpr ⟨r, hm, rfl⟩)
    obtain ⟨i, hi⟩ := List.mem_iff_getElem?.mp m
    rw [← hk, MD.look_some ndr ndr hi]
    rfl
end K0
end
/-! ### RVS -/
section
set_option Elab.async false
set_option linter.all false
set_option maxRecDepth 100000
set_option maxHeartbeats 4000000
/-! z[::-1] of a text. -/
namespace TR
open PySem PySem.Spec PyProof.Rows L2 HT
def revS (z : Str) : Str := ⟨z.cps.toList.reverse.toArray⟩
theorem revS_len (z : Str) : (revS z).length = z.length := by
  show z.cps.toList.reverse.toArray.size = z.cps.size
  rw [List.size_toArray, List.length_reverse, Array.length_toList]
theorem fm_of {n : Nat} (cs : Array Nat) (hn : cs.size = n) : ((List.range n).map fun k => n - 1 - k).filterMap (cs[·]?) = cs.toList.reverse := by
  subst hn
  rw [PySem.W.krv_range, List.filterMap_reverse, PySem.W.krv_all]
theorem ix_rev (n : Nat) : Builtin.Str.strSliceIndices none none (-1) n = (List.range n).map fun k => n - 1 - k := by
  have h : ¬ ((-1 : Int) > 0) := by decide
  simp only [Builtin.Str.strSliceIndices, h, if_false]
  exact PySem.W.krv_sliceRange n
def tRevS (te : TE) : TE := fun σ H Q => te σ H fun x H1 => ∃ z : Str, x = .str z ∧ z.length ≤ sizeLine ∧ Q (.str (revS z)) H1
theorem pe_revS {X : Cx} {e : Expr} {te : TE} {k : Nat} {p1 p2 p3 pos : Pos} (he : PE X e te) : PE X (.Subscript e (.Slice none none (some (.UnaryOp .USub (.Constant (.int 1) k p1) p2)) p3) pos) (tRevS te) := by
  refine ⟨fun pins s σ H Q I h => ?_⟩
  refine Subscript_ (thn (he.run pins s σ H _ I h) fun v s1 ⟨x, H1, I1, r1, q1⟩ => ?_)
  obtain ⟨z, ex, hz, q⟩ := q1
  subst ex
  obtain ⟨t, rfl⟩ := r1
  have hst : PO X (some (.UnaryOp .USub (.Constant (.int 1) k p1) p2)) (tPart (tUn (rU fun i => .int (-i)) (tC (.int 1)))) := po_some (pe_un un_neg pe_int)
  refine wpAny_Slice (thn (po_none.run pins s1 σ H1 (fun o H2 => o = none ∧ H2 = H1) I1 ⟨rfl, rfl⟩) fun vl s2 ⟨l, H2, I2, pl, el, e2⟩ => ?_)
  subst el e2
  refine thn (po_none.run pins s2 σ H2 (fun o H3 => o = none ∧ H3 = H2) I2 ⟨rfl, rfl⟩) fun vu s3 ⟨u, H3, I3, pu, eu, e3⟩ => ?_
  subst eu e3
  refine thn (hst.run pins s3 σ H3 (fun o H4 => o = some (-1) ∧ H4 = H3) I3 ⟨1, rfl, -1, rfl, rfl, rfl⟩) fun vs s4 ⟨o, H4, I4, ps, eo, e4⟩ => ?_
  subst eo e4
  cases pl
  cases pu
  cases ps with
  | int i tt =>
  have I5 : Inv X pins σ H4 { s4 with heap := s4.heap.push { cls := .type "slice", data := .fields #[.none, .none, .int (-1) tt] } } := I4.kept (t' := s4.toks) fun b ob q => Heap.get?_push_of_some _ q
  show wpAny (model X.prog X.w) X.A (subscriptTail e (.Slice none none (some (.UnaryOp .USub (.Constant (.int 1) k p1) p2)) p3) (.str z t) (.ref s4.heap.objs.size)) (EP X pins σ Q) X.xe { s4 with heap := s4.heap.push { cls := .type "slice", data := .fields #[.none, .none, .int (-1) tt] } }
  refine tail_any (ops := [.str z t, .ref s4.heap.objs.size]) (typeIs_str _ _ _) (F.slot_str_getitem.lookup) ?_ (by with_unfolding_all rfl)
  refine wpAny_getItem_str_slice (l := none) (u := none) (st := some (-1, tt)) (Heap.IsSliceOf.new _ .none .none (.int (-1) tt)) rfl ?_
  show Made.post (if ((-1 : Int) == 1 && (Builtin.Str.strSliceIndices none none (-1) z.length).length == z.length) = true then Made.val (.str z t)
    else Made.str ⟨((Builtin.Str.strSliceIndices none none (-1) z.length).filterMap (z.cps[·]?)).toArray⟩) (EP X pins σ Q) _
  rw [if_neg (by simp), ix_rev, fm_of (n := z.length) z.cps rfl]
  exact ⟨by show (revS z).length ≤ _; rw [revS_len]; exact hz, .str (revS z), H4, I5.tok _, ⟨_, rfl⟩, q⟩
end TR
end
/-! ### VA -/
section
set_option Elab.async false
set_option linter.all false
set_option maxRecDepth 100000
set_option maxHeartbeats 4000000
/-! views_at. -/
namespace K0
open PySem PySem.Spec PyProof.Rows L2
open MD (dM KeysV KeyV)
/-- a state's rows and values as they stand -/
def StOk (K : PySem.W.Frag) (H : Hp) : StD → Prop
  | .good rs ys ds => RowsX K H rs ∧ DvAll K H ys ds
  | .bad => False
theorem StOk.same {K : PySem.W.Frag} {H H' : Hp} : ∀ {s : StD}, StOk K H s → Same H H' → StOk K H' s
  | .good _ _ _, h, e => ⟨h.1.same e, DvAll.same e _ _ h.2⟩
  | .bad, h, _ => h
theorem StOk.dat {K : PySem.W.Frag} {H : Hp} : ∀ {s : StD}, StOk K H s → StOk K (K0.dat H) s
  | .good _ _ _, h => ⟨rowsX_dat h.1, dvAll_dat h.2⟩
  | .bad, h => h
/-- the looks and writers at addresses: a cleaner's kept ones, a plain one's -/
structure PartsAt (K : PySem.W.Frag) (w : World) (H : Hp) (Tw Tl : List Addr) (ws ls : List StD) (ds : List PyData) (zs : List V) : Prop where
  ok : CleanOk ws ls ds
  kw : Paired (KeptRow K w H) Tw ws
  kl : Paired (KeptRow K w H) Tl ls
  rw : ∀ s ∈ ws, StOk K H s
  rl : ∀ s ∈ ls, StOk K H s
  fd : DvAll K H zs ds
theorem PartsAt.same {K : PySem.W.Frag} {w : World} {H H' : Hp} {Tw Tl : List Addr} {ws ls : List StD} {ds : List PyData} {zs : List V} (h : PartsAt K w H Tw Tl ws ls ds zs) (e : Same H H') : PartsAt K w H' Tw Tl ws ls ds zs :=
  ⟨h.ok, pairedI2 (fun _ _ z => z.same e) h.kw, pairedI2 (fun _ _ z => z.same e) h.kl, fun s m => (h.rw s m).same e, fun s m => (h.rl s m).same e, DvAll.same e _ _ h.fd⟩
theorem PartsAt.dat {K : PySem.W.Frag} {w : World} {H : Hp} {Tw Tl : List Addr} {ws ls : List StD} {ds : List PyData} {zs : List V} (h : PartsAt K w H Tw Tl ws ls ds zs) : PartsAt K w (K0.dat H) Tw Tl ws ls ds zs :=
  ⟨h.ok, pairedI2 (fun _ _ z => z.dat) h.kw, pairedI2 (fun _ _ z => z.dat) h.kl, fun s m => (h.rw s m).dat, fun s m => (h.rl s m).dat, dvAll_dat h.fd⟩
/-- one state of a look: its dict and its other view, and what it tells of a sign -/
theorem look_at {K : PySem.W.Frag} {w : World} {H : Hp} {n : Int} {T : Addr} : ∀ {s : StD}, KeptRow K w H T s → StOk K H s → lStD n s = true →
    ∃ (d : Addr) (o : Int) (rows : List MD.Row), SqT K H T [.ref d, .int o] ∧ H d = some (dM w d rows) ∧ KeysV K H rows ∧ ∀ c, (MD.look rows (.text (oneS c))).getD (.int o) = .int (lkD s c)
  | .bad, h, _, _ => h.elim
  | .good rs ys ds, h, g, l => by
    obtain ⟨d, rows, h1, h2, h3, h4⟩ := h
    obtain ⟨g1, g2⟩ := g
    match ds, l with
    | [od], l =>
      have l : (isNumD 0 (n - 1) od && rs.all fun r => isSignD r.2.1 && isNumD 0 (n - 1) r.2.2) = true := l
      obtain ⟨l1, l2⟩ := Bool.and_eq_true_iff.mp l
      cases g2 with
      | cons a1 a2 =>
      cases a2
      obtain ⟨o, rfl, _⟩ := num_int a1 l1
      cases a1
      refine ⟨d, o, rows, h1, h2, h4, fun c => ?_⟩
      rw [find_perm h3 g1.nd]
      show (((findR rs (.text (oneS c))).map fun r => r.1.2.2)).getD (.int o) = .int (numD (((findR rs (.text (oneS c))).map fun r => r.2.2).getD (.int o)))
      cases e : findR rs (.text (oneS c)) with
      | none => rfl
      | some r =>
        have m := List.mem_of_find?_eq_some e
        have z := (Bool.and_eq_true_iff.mp (List.all_eq_true.mp l2 r m)).2
        have dv := (g1.dat r m).2
        obtain ⟨i, e1, _⟩ := num_int dv z
        rw [e1] at dv
        show r.1.2.2 = V.int (numD r.2.2)
        rw [e1]
        generalize hd : r.2.2 = dd at dv
        cases dv
        rfl
theorem atI_nat {xs : List V} {i : Nat} {x : V} (h : xs[i]? = some x) : atI xs ((i : Nat) : Int) = some x := by
  have lt := (List.getElem?_eq_some_iff.mp h).1
  have e1 : ixN xs.length ((i : Nat) : Int) = some i := by
    unfold ixN
    rw [if_pos (Int.natCast_nonneg i), if_pos (by omega)]
    rfl
  unfold atI
  rw [e1]
  exact h
theorem last_rev (v : List Int) (ne : v ≠ []) : atI (v.reverse.map V.int) (-1) = some (.int (hd0 v)) := by
  cases v with
  | nil => exact absurd rfl ne
  | cons x r =>
    have e1 : ixN ((x :: r).reverse.map V.int).length (-1) = some r.length := by
      unfold ixN
      rw [if_neg (by decide), List.length_map, List.length_reverse, List.length_cons, if_pos (by omega)]
      congr 1
      omega
    unfold atI
    rw [e1]
    show ((x :: r).reverse.map V.int)[r.length]? = _
    rw [List.getElem?_map, List.getElem?_reverse (by rw [List.length_cons]; omega), List.length_cons]
    rw [show r.length + 1 - 1 - r.length = 0 by omega]
    rfl
theorem scViews : FnScope ["cleaner", "text", "views", "sign", "moves", "other"] ["cleaner", "text"] (defScope (top iViewsAt)) := ⟨rfl, rfl, rfl, by decide +kernel, rfl, by decide +kernel, by decide +kernel⟩
/-- a cleaner of the package with all that it stands on -/
structure ClR (K : PySem.W.Frag) (w : World) (C : Addr) (H : Hp) (x : Addr) (ws ls : List StD) (ds : List PyData) (zs : List V) : Prop where
  at_ : ∃ (dx tw tl to f1 : Addr) (Tw Tl : List Addr), H x = some (insC C dx tw tl to (.ref f1)) ∧ SqT K H tw (Tw.map V.ref) ∧ SqT K H tl (Tl.map V.ref) ∧ SqT K H f1 zs ∧ PartsAt K w H Tw Tl ws ls ds zs
theorem ClR.same {K : PySem.W.Frag} {w : World} {C : Addr} {H H' : Hp} {x : Addr} {ws ls : List StD} {ds : List PyData} {zs : List V} (h : ClR K w C H x ws ls ds zs) (e : Same H H') : ClR K w C H' x ws ls ds zs := by
  obtain ⟨dx, tw, tl, to, f1, Tw, Tl, h1, h2, h3, h4, h5⟩ := h.at_
  exact ⟨dx, tw, tl, to, f1, Tw, Tl, e _ _ h1, same_tup e h2, same_tup e h3, same_tup e h4, h5.same e⟩
def spViews (K : PySem.W.Frag) (w : World) (C : Addr) : Sp := fun vs H Q _ => ∃ (x : Addr) (z : Str) (ws ls : List StD) (ds : List PyData) (zs : List V), vs = [.ref x, .str z] ∧ ClR K w C H x ws ls ds zs ∧ z.length ≤ 5000 ∧
  ∀ H' l, Same H H' → H' l = some (.lst ((viewsL ls z.cps.toList).map V.int)) → Q (.ref l) H'
section
variable {P : Program} {w : World} {K : PySem.W.Frag} {mg : Str → Option Value} {base : Heap} {f C : Addr} {fd : FuncData}
theorem ok_views {k : Nat} (F : FnP K "views_at" iViewsAt f fd) (T : ClK K C) : FnOk P w K mg base CX0 (k + 1) f fd ["cleaner", "text"] (spViews K w C) := by
  refine F.ok scViews (fun vs H Q E h => ?_) (fun cdv A outer s H vs Q E hr h => ?_)
  · obtain ⟨x, z, ws, ls, ds, zs, rfl, _⟩ := h
    rfl
  · obtain ⟨x, z, ws, ls, ds, zs, rfl, R, zl, q⟩ := h
    refine ⟨_, PSs.nox (pss_cons (ps_set (i := 2) scViews.nd rfl (.inl rfl) (pe_lst (pa_cons pe_int pa_nil)))
      (C8.pss_cut (ps_for PassesOwn.never rfl (pi_str (TR.pe_revS (pv 1))) (pg_name (i := 3) scViews.nd rfl (.inl rfl))
        (pss_cons (ps_asg (pe_ix ix_tup (pe_fld (pv 0) rfl) (pe_ix ix_list (pv 2) (pe_un un_neg pe_int) (fun _ _ => rfl)) (fun _ _ => rfl)) (pg_tup rfl (pgs_cons (pg_name (i := 4) scViews.nd rfl (.inl rfl)) (pgs_cons (pg_name (i := 5) scViews.nd rfl (.inl rfl)) pgs_nil))))
        (pss_one (ps_expr (pe_bm PySem.F.plainAttrs_list PySem.F.slot_list_append PySem.F.type_list_append mt_append (pv 2) (pa_cons (MD.pe_mget2 hr.units (pv 4) (pv 3) (pv 5) ⟨rfl, rfl, rfl, rfl⟩) pa_nil))))))
      (pss_one (ps_ret (pe_revL (pv 2)))))), ?_⟩
    have sl : sizeLine = 16777216 := sizeLine_eq
    obtain ⟨dx, tw, tl, to, f1, Tw, Tl, hx, hTw, hTl, hf, PA⟩ := id R.at_
    have O := PA.ok
    refine ⟨by show 1 ≤ sizeLine; omega, fun l nl => ?_⟩
    obtain ⟨cs, hcs⟩ : ∃ cs, cs = z.cps.toList := ⟨_, rfl⟩
    have zn : z.cps.size = cs.length := by rw [hcs, Array.length_toList]
    have rn : (TR.revS z).cps.size = cs.length := by
      show z.cps.toList.reverse.toArray.size = _
      rw [List.size_toArray, List.length_reverse, hcs]
    have le5 : cs.length ≤ 5000 := by
      have : z.cps.size ≤ 5000 := zl
      omega
    refine ⟨fun σ' H' => ∃ x3 x4 x5, σ' = [some (.ref x), some (.str z), some (.ref l), x3, x4, x5] ∧ Same H H' ∧ H' l = some (.lst ((viewsL ls cs).reverse.map V.int)), ?_, ?_⟩
    · refine ⟨_, rfl, z, rfl, by show z.cps.size ≤ sizeLine; omega, TR.revS z, rfl, for_it walk_str (fun i σ' H' => ∃ x3 x4 x5, σ' = [some (.ref x), some (.str z), some (.ref l), x3, x4, x5] ∧ Same H H' ∧ H' l = some (.lst ((viewsL ls (cs.reverse.take i).reverse).reverse.map V.int)))
        ⟨none, none, none, rfl, same_upd nl, upd_same⟩ (fun _ _ _ _ _ => trivial) (fun i y σ' H1 H2 hi hP hY => ?_) (fun σ' H1 hP => ?_)⟩
      · obtain ⟨x3, x4, x5, rfl, s1, hl⟩ := hP
        obtain ⟨rfl, c, hc, rfl⟩ := hY
        have hc2 : cs.reverse[i]? = some c := by
          have hc : z.cps.toList.reverse.toArray[i]? = some c := hc
          rw [List.getElem?_toArray, ← hcs] at hc
          exact hc
        obtain ⟨A, hA⟩ : ∃ A, A = (cs.reverse.take i).reverse := ⟨_, rfl⟩
        have eA : (cs.reverse.take (i + 1)).reverse = c :: A := by
          rw [List.take_add_one, hc2, List.reverse_append, hA]
          rfl
        rw [← hA] at hl
        have lA : A.length ≤ 5000 := by
          rw [hA, List.length_reverse, List.length_take, List.length_reverse]
          omega
        have hr := hd_range O A
        obtain ⟨hs, ms⟩ := atS_mem hr.1 hr.2
        obtain ⟨T1, hT1, kr⟩ := MD.paired_get PA.kl hs
        obtain ⟨d, o, rows, b1, b2, b3, b4⟩ := look_at (kr.same s1) ((PA.rl _ ms).same s1) (O.l _ ms)
        have ix : atI (Tl.map V.ref) (hd0 (viewsL ls A)) = some (.ref T1) := by
          have e : atI (Tl.map V.ref) ((((hd0 (viewsL ls A)).toNat : Nat)) : Int) = some (.ref T1) := atI_nat (by rw [List.getElem?_map, hT1]; rfl)
          rwa [show (((hd0 (viewsL ls A)).toNat : Nat) : Int) = hd0 (viewsL ls A) by omega] at e
        refine ⟨_, rfl, x, C, dx, _, _, rfl, s1 _ _ hx, T.cl, T.nl, rfl, _, rfl, 1, rfl, l, _, -1, _, rfl, rfl, .of hl, last_rev _ (viewsL_ne ls A), tl, _, _, _, rfl, rfl, same_tup s1 hTl, ix, ?_⟩
        refine ⟨T1, _, rfl, b1, rfl, _, _, rfl, _, _, rfl, rfl, ?_⟩
        refine ⟨_, rfl, .inl ⟨rfl, _, .of hl⟩, _, rfl, d, rfl, ⟨rows, b2⟩, _, rfl, _, rfl, .text (oneS c), rows, b2, b3, .atom rfl, (by show 0 ≤ 8; decide), ?_⟩
        have b4 := b4 c
        refine ⟨l, _, _, rfl, rfl, hl, by rw [List.length_map, List.length_reverse, viewsL_len]; omega, _, _, _, rfl, fun y o u => ?_, ?_⟩
        · rw [upd_ne (ne_of_none u nl)]
          exact s1 _ _ u
        · rw [upd_same, eA, b4]
          show _ = some (HO.lst ((lkD (atS ls (hd0 (viewsL ls A))) c :: viewsL ls A).reverse.map V.int))
          rw [List.reverse_cons, List.map_append]
          rfl
      · obtain ⟨x3, x4, x5, rfl, s1, hl⟩ := hP
        rw [rn, ← List.length_reverse (as := cs), List.take_length, List.reverse_reverse] at hl
        exact ⟨_, _, _, rfl, s1, hl⟩
    rintro σ1 H1 ⟨x3, x4, x5, rfl, s1, hl⟩
    refine ⟨_, rfl, l, _, rfl, .of hl, fun p np => q _ p (s1.trans (same_upd np)) ?_⟩
    rw [upd_same, ← List.map_reverse, List.reverse_reverse, hcs]
end
end K0
end
/-! ### MIN -/
section
set_option Elab.async false
set_option linter.all false
set_option maxRecDepth 100000
set_option maxHeartbeats 4000000
/-! k in d, for dicts of mixed keys. -/
namespace MD
open PySem PySem.Spec PyProof.Rows L2
section
variable {prog : Program} {w : World} {A : Around} {E : Value → Shared → Prop} {s : Shared} {d : Addr} {xs : List (NK × Value × Value)} {k : NK} {b : Addr}
theorem in_md (hu : A.units + 16 < cLine) (hs : (d == sysModules) = false) (m : At w s.heap d xs) (hk : NestedIs s.heap k (.ref b)) (dk : k.depth ≤ 8) {Q : Value → Shared → Prop} (q : Q (.bool (look xs k).isSome) { s with toks := s.toks + k.draws }) :
    wpAny (model prog w) A (compareOp .In (.ref b) (.ref d)) Q E s := by
  have ty := m.typeIs
  show wpAny _ _ (do return .bool (← contains (.ref d) (.ref b))) Q E s
  refine wpAny_bind ?_
  unfold contains
  try with_reducible refine wpAny_holding ?_
  refine wpAny_bind (wpAny_specialOf ty slot_dict_contains.lookup ?_)
  show wpAny _ _ (if (some (Value.builtin "dict.__contains__") == some Value.none) = true then _ else _) _ E s
  rw [if_neg (by rw [beq_builtin_none]; exact Bool.false_ne_true)]
  refine wpAny_bind (wpAny_callSpecialUnlessNone?_slot (name := Str.ofString "__contains__") ty slot_dict_contains
    (wpAny_call_entry slot_dict_contains ty entry_dict_contains ?_ (args_dict_contains _ _)))
  show wpAny _ _ (dictGet d (.ref b) >>= _) _ _ s
  refine wpAny_bind (get_md (by show A.units + _ + 8 < _; omega) m hk dk ?_)
  cases hf : look xs k with
  | some p =>
    rw [hf] at q
    show wpAny _ _ (ret (.bool true)) _ _ _
    exact wpAny_pure ⟨_, rfl, wpAny_truthy_bool (wpAny_pure q)⟩
  | none =>
    rw [hf] at q
    show wpAny _ _ (Builtin.Dict.pendingKey? d (.ref b) >>= _) _ _ _
    exact wpAny_bind (wpAny_pendingKey_other hs (wpAny_pure ⟨_, rfl, wpAny_truthy_bool (wpAny_pure q)⟩))
end
def tMIn (K : PySem.W.Frag) (w : World) (ty td : TE) : TE := fun σ H Q => ty σ H fun y H1 => td σ H1 fun x H2 => ∃ a b k kvs, x = .ref a ∧ y = .ref b ∧ H2 a = some (dM w a kvs) ∧ KeysV K H2 kvs ∧ KeyV K H2 y k ∧ k.depth ≤ 8 ∧ Q (.bl (look kvs k).isSome) H2
theorem pc_min {X : Cx} {i o : Expr} {ty td : TE} (hu : X.A.units + 64 < cLine) (hi : PE X i ty) (ho : PE X o td) : PC X .In i o (tMIn X.K X.w ty td) := by
  refine ⟨fun pins s σ H Q I h => ?_⟩
  refine thn (hi.run pins s σ H _ I h) fun iv s1 ⟨y, H1, I1, ry, q1⟩ => thn (ho.run pins s1 σ H1 _ I1 q1) fun u s2 ⟨x, H2, I2, rx, a, b, k, kvs, ex, ey, ed, ks, n, dk, q2⟩ => ?_
  subst ex ey
  obtain rfl : u = Value.ref a := rx
  obtain rfl : iv = Value.ref b := ry
  obtain ⟨_, hs, xs, r, m⟩ := atM I2 ed ks
  refine in_md (by omega) hs m (key_is I2 _ _ _ n rfl) dk ?_
  rw [← (prs_look (k := k) r).isSome_eq]
  exact ⟨.bl (look kvs k).isSome, H2, I2.tok _, rfl, q2⟩
end MD
end
/-! ### WA -/
section
set_option Elab.async false
set_option linter.all false
set_option maxRecDepth 100000
set_option maxHeartbeats 4000000
/-! written_at, last_at. -/
namespace K0
open PySem PySem.Spec PyProof.Rows L2
open MD (dM KeysV KeyV)
abbrev k1 (c : Nat) (v : Int) : MD.NK := .tup [.text (oneS c), .num v]
abbrev k2 (c : Nat) : MD.NK := .tup [.text (oneS c), .none]
/-- a found move: its tuple stands -/
theorem move_at {K : PySem.W.Frag} {H : Hp} {v : V} {d : PyData} {m : Int} (h : Dv K H v d) (g : isMoveD m d = true) : ∃ T, v = .ref T ∧ SqT K H T [.str (pairD d).1, .int (pairD d).2] := by
  obtain ⟨_, _, _, _, e⟩ := pair_range g
  rw [e] at h
  cases h with
  | tup h1 h2 =>
  cases h2 with
  | cons a1 a2 =>
  cases a2 with
  | cons a2 a3 =>
  cases a3
  cases a1
  cases a2
  exact ⟨_, rfl, h1⟩
theorem writer_at {K : PySem.W.Frag} {w : World} {H : Hp} {m n : Int} {T : Addr} : ∀ {s : StD}, KeptRow K w H T s → StOk K H s → wStD m n s = true →
    ∃ (d : Addr) (o : Int) (rows : List MD.Row), SqT K H T [.ref d, .int o, .str (lastD s)] ∧ H d = some (dM w d rows) ∧ KeysV K H rows ∧
      ∀ c v, (∃ T', MD.look rows (k1 c v) = some (.ref T') ∧ SqT K H T' [.str (wrD s c v).1, .int (wrD s c v).2]) ∨
        (MD.look rows (k1 c v) = none ∧ ((∃ T', MD.look rows (k2 c) = some (.ref T') ∧ SqT K H T' [.str (wrD s c v).1, .int (wrD s c v).2]) ∨ (MD.look rows (k2 c) = none ∧ wrD s c v = (oneS c, o))))
  | .bad, h, _, _ => h.elim
  | .good rs ys ds, h, g, l => by
    obtain ⟨d, rows, h1, h2, h3, h4⟩ := h
    obtain ⟨g1, g2⟩ := g
    match ds, l with
    | [od, ld], l =>
      have l : (isNumD 0 (m - 1) od && isWrittenD ld && rs.all fun r => isSeenD n r.2.1 && isMoveD m r.2.2) = true := l
      obtain ⟨l1, l2⟩ := Bool.and_eq_true_iff.mp l
      obtain ⟨l3, l4⟩ := Bool.and_eq_true_iff.mp l1
      cases g2 with
      | cons a1 a2 =>
      cases a2 with
      | cons a2 a3 =>
      cases a3
      obtain ⟨o, rfl, _⟩ := num_int a1 l3
      cases a1
      have hz : ∃ z, ld = .str z := by
        cases ld <;> first | exact ⟨_, rfl⟩ | cases l4
      obtain ⟨z, rfl⟩ := hz
      cases a2
      refine ⟨d, o, rows, h1, h2, h4, fun c v => ?_⟩
      have mv : ∀ {k r}, findR rs k = some r → ∃ T', r.1.2.2 = .ref T' ∧ SqT K H T' [.str (pairD r.2.2).1, .int (pairD r.2.2).2] := fun {k r} e => by
        have m := List.mem_of_find?_eq_some e
        exact move_at (g1.dat r m).2 (Bool.and_eq_true_iff.mp (List.all_eq_true.mp l2 r m)).2
      rw [find_perm h3 g1.nd, find_perm h3 g1.nd]
      have we : wrD (.good rs [.int o, .str z] [.int o, .str z]) c v = pairD ((((findR rs (k1 c v)).map fun r => r.2.2).or ((findR rs (k2 c)).map fun r => r.2.2)).getD (.tuple [.str (oneS c), .int o])) := rfl
      rw [we]
      cases e1 : findR rs (k1 c v) with
      | some r =>
        obtain ⟨T', b1, b2⟩ := mv e1
        exact .inl ⟨T', by rw [Option.map_some, b1], b2⟩
      | none =>
        refine .inr ⟨rfl, ?_⟩
        cases e2 : findR rs (k2 c) with
        | some r =>
          obtain ⟨T', b1, b2⟩ := mv e2
          exact .inl ⟨T', by rw [Option.map_some, b1], b2⟩
        | none => exact .inr ⟨rfl, rfl⟩
theorem scWrAt : FnScope ["cleaner", "state", "sign", "view", "moves", "other", "_"] ["cleaner", "state", "sign", "view"] (defScope (top iWrittenAt)) := ⟨rfl, rfl, rfl, by decide +kernel, rfl, by decide +kernel, by decide +kernel⟩
theorem scLastAt : FnScope ["cleaner", "state"] ["cleaner", "state"] (defScope (top iLastAt)) := ⟨rfl, rfl, rfl, by decide +kernel, rfl, by decide +kernel, by decide +kernel⟩
def spWrAt (K : PySem.W.Frag) (w : World) (C : Addr) : Sp := fun vs H Q _ => ∃ (x : Addr) (s : Int) (c : Nat) (v : Int) (ws ls : List StD) (ds : List PyData) (zs : List V), vs = [.ref x, .int s, .str (oneS c), .int v] ∧ ClR K w C H x ws ls ds zs ∧ 0 ≤ s ∧ s < ws.length ∧
  ∀ H' T, Same H H' → SqT K H' T [.str (wrD (atS ws s) c v).1, .int (wrD (atS ws s) c v).2] → Q (.ref T) H'
def spLastAt (K : PySem.W.Frag) (w : World) (C : Addr) : Sp := fun vs H Q _ => ∃ (x : Addr) (s : Int) (ws ls : List StD) (ds : List PyData) (zs : List V), vs = [.ref x, .int s] ∧ ClR K w C H x ws ls ds zs ∧ 0 ≤ s ∧ s < ws.length ∧ Q (.str (lastD (atS ws s))) H
theorem ix_at {Ts : List Addr} {i : Int} {T : Addr} (h0 : 0 ≤ i) (h : Ts[i.toNat]? = some T) : atI (Ts.map V.ref) i = some (.ref T) := by
  have e : atI (Ts.map V.ref) (((i.toNat : Nat)) : Int) = some (.ref T) := atI_nat (by rw [List.getElem?_map, h]; rfl)
  rwa [show ((i.toNat : Nat) : Int) = i by omega] at e
section
variable {P : Program} {w : World} {K : PySem.W.Frag} {mg : Str → Option Value} {base : Heap} {f C : Addr} {fd : FuncData}
theorem ok_lastAt {k : Nat} (F : FnP K "last_at" iLastAt f fd) (T : ClK K C) : FnOk P w K mg base CX0 (k + 1) f fd ["cleaner", "state"] (spLastAt K w C) := by
  refine F.ok scLastAt (fun vs H Q E h => ?_) (fun cdv A outer s H vs Q E hr h => ?_)
  · obtain ⟨x, s, ws, ls, ds, zs, rfl, _⟩ := h
    rfl
  · obtain ⟨x, i, ws, ls, ds, zs, rfl, R, i0, i1, q⟩ := h
    refine ⟨_, PSs.nox (pss_one (ps_ret (pe_ix ix_tup (pe_ix ix_tup (pe_fld (pv 0) rfl) (pv 1) (fun _ _ => rfl)) pe_int (fun _ _ => rfl)))), ?_⟩
    obtain ⟨dx, tw, tl, to, f1, Tw, Tl, hx, hTw, hTl, hf, PA⟩ := id R.at_
    obtain ⟨hs, ms⟩ := atS_mem i0 i1
    obtain ⟨T1, hT1, kr⟩ := MD.paired_get PA.kw hs
    obtain ⟨d, o, rows, b1, b2, b3, b4⟩ := writer_at kr (PA.rw _ ms) (PA.ok.w _ ms)
    exact ⟨_, rfl, x, C, dx, _, _, rfl, hx, T.cl, T.nw, rfl, _, rfl, tw, _, _, _, rfl, rfl, hTw, ix_at i0 hT1, T1, _, 2, _, rfl, rfl, b1, rfl, q⟩
theorem ok_wrAt {k : Nat} (F : FnP K "written_at" iWrittenAt f fd) (T : ClK K C) : FnOk P w K mg base CX0 (k + 1) f fd ["cleaner", "state", "sign", "view"] (spWrAt K w C) := by
  refine F.ok scWrAt (fun vs H Q E h => ?_) (fun cdv A outer s H vs Q E hr h => ?_)
  · obtain ⟨x, s, c, v, ws, ls, ds, zs, rfl, _⟩ := h
    rfl
  · obtain ⟨x, i, c, v, ws, ls, ds, zs, rfl, R, i0, i1, q⟩ := h
    refine ⟨_, PSs.nox (pss_cons (ps_asg (pe_ix ix_tup (pe_fld (pv 0) rfl) (pv 1) (fun _ _ => rfl)) (pg_tup rfl (pgs_cons (pg_name (i := 4) scWrAt.nd rfl (.inl rfl)) (pgs_cons (pg_name (i := 5) scWrAt.nd rfl (.inl rfl)) (pgs_cons (pg_name (i := 6) scWrAt.nd rfl (.inl rfl)) pgs_nil)))))
      (pss_cons (ps_if (pt_cmp (MD.pc_min hr.units (pe_tup (pa_cons (pv 2) (pa_cons (pv 3) pa_nil))) (pv 4))) (pss_one (ps_ret (MD.pe_mget hr.units (pv 4) (pe_tup (pa_cons (pv 2) (pa_cons (pv 3) pa_nil))) (fun _ _ => rfl)))) pss_nil)
      (pss_one (ps_ret (MD.pe_mget2 hr.units (pv 4) (pe_tup (pa_cons (pv 2) (pa_cons pe_non pa_nil))) (pe_tup (pa_cons (pv 2) (pa_cons (pv 5) pa_nil))) ⟨rfl, rfl, rfl, rfl⟩))))), ?_⟩
    have sl : sizeLine = 16777216 := sizeLine_eq
    obtain ⟨dx, tw, tl, to, f1, Tw, Tl, hx, hTw, hTl, hf, PA⟩ := id R.at_
    obtain ⟨hs, ms⟩ := atS_mem i0 i1
    obtain ⟨T1, hT1, kr⟩ := MD.paired_get PA.kw hs
    obtain ⟨d, o, rows, b1, b2, b3, b4⟩ := writer_at kr (PA.rw _ ms) (PA.ok.w _ ms)
    refine ⟨_, rfl, x, C, dx, _, _, rfl, hx, T.cl, T.nw, rfl, _, rfl, tw, _, _, _, rfl, rfl, hTw, ix_at i0 hT1, ?_⟩
    refine ⟨T1, _, rfl, b1, rfl, _, _, rfl, _, _, rfl, _, _, rfl, rfl, ?_⟩
    refine ⟨_, rfl, _, rfl, by show 2 ≤ sizeLine; omega, fun t1 n1 => ?_⟩
    have u1 := same_upd (o := .tup [.str (oneS c), .int v]) n1
    refine ⟨_, rfl, d, t1, k1 c v, rows, rfl, rfl, u1 _ _ b2, b3.same u1, .tup (.of upd_same) (.cons (.atom rfl) (.cons (.atom rfl) .nil)), by show 1 ≤ 8; decide, ?_⟩
    rcases b4 c v with ⟨T', c1, c2⟩ | ⟨c1, c2⟩
    · rw [c1]
      refine ⟨_, rfl, ite2 (fun _ => ?_) (fun e => absurd rfl e)⟩
      refine ⟨_, rfl, _, rfl, _, rfl, by show 2 ≤ sizeLine; omega, fun t2 n2 => ?_⟩
      have u2 := same_upd (o := .tup [.str (oneS c), .int v]) n2
      have u12 := u1.trans u2
      exact ⟨d, k1 c v, rows, _, rfl, u12 _ _ b2, b3.same u12, .tup (.of upd_same) (.cons (.atom rfl) (.cons (.atom rfl) .nil)), by show 1 ≤ 8; decide, c1, q _ T' u12 (same_tup u12 c2)⟩
    · rw [c1]
      refine ⟨_, rfl, ite2 (fun e => by cases e) (fun _ => ?_)⟩
      refine ⟨_, rfl, d, rfl, ⟨rows, u1 _ _ b2⟩, _, rfl, by show 2 ≤ sizeLine; omega, fun t2 n2 => ?_⟩
      have u2 := same_upd (o := .tup [.str (oneS c), .non]) n2
      refine ⟨_, rfl, _, rfl, by show 2 ≤ sizeLine; omega, fun t3 n3 => ?_⟩
      have u3 := same_upd (o := .tup [.str (oneS c), .int o]) n3
      have u12 := u1.trans (u2.trans u3)
      refine ⟨k2 c, rows, u12 _ _ b2, b3.same u12, .tup (.of (u3 _ _ upd_same)) (.cons (.atom rfl) (.cons (.atom rfl) .nil)), by show 1 ≤ 8; decide, ?_⟩
      rcases c2 with ⟨T', c2, c3⟩ | ⟨c2, c3⟩
      · rw [c2]
        exact q _ T' u12 (same_tup u12 c3)
      · rw [c2]
        refine q _ t3 u12 ?_
        rw [c3]
        exact .of upd_same
end
end K0
end
/-! ### ZL0 -/
section
set_option Elab.async false
set_option linter.all false
set_option maxRecDepth 100000
set_option maxHeartbeats 4000000
/-! list(zip(..)): the tuples that are given out stay. -/
namespace ZL
open PySem
open PySem.Sem (wp)
theorem zip_no_len : typeLookup (.type "zip") "__len__" = pure none := am_miss_of_fast (by decide +kernel)
theorem zip_no_hint : typeLookup (.type "zip") "__length_hint__" = pure none := am_miss_of_fast (by decide +kernel)
section
variable {prog : Program} {w : World} {A : Around} {E : Value → Shared → Prop} {s : Shared} {z TI TO i1 i2 T : Addr} {f : Bool} {oT : Obj} {fp1 fp2 : List Addr} {n1 n2 i : Nat} {P1 P2 : Nat → Value → Prop} {St1 St2 : Nat → Heap → Prop}
theorem held_item {Q : Value → Shared → Prop} (S : ZipSep2 z TI TO i1 i2 fp1 fp2) (D1 : Draws prog w A i1 fp1 n1 P1 St1) (D2 : Draws prog w A i2 fp2 n2 P2 St2)
    (hz : IsZipHeld s.heap z TI TO T f) (hT : s.heap.get? T = some oT) (hTI : IsTupOf2 s.heap TI (.ref i1) (.ref i2)) (st1 : St1 i s.heap) (st2 : St2 i s.heap) (hlt1 : i < n1) (hlt2 : i < n2)
    (hQ : ∀ x1 x2 h' tk, P1 i x1 → P2 i x2 → IsZipHeld h' z TI TO T true → St1 (i + 1) h' → St2 (i + 1) h' → IsTupOf2 h' s.heap.objs.size x1 x2 → h'.objs.size = s.heap.objs.size + 1 →
      (∀ c o, c ≠ z → c ≠ i1 → c ≠ i2 → s.heap.get? c = some o → h'.get? c = some o) → Q (.ref s.heap.objs.size) { s with heap := h', toks := tk }) :
    wpAny (model prog w) A (Builtin.«zip.__next__» ⟨[.ref z], []⟩) (fun fin s' => ∃ v, fin = .done (.ret v) ∧ Q v s') E s := by
  obtain ⟨hp, g, d, tk0, os⟩ := s
  show wpAny _ _ (field (.ref z) 2 >>= _) _ _ _
  refine wpAny_bind (wpAny_field hz rfl (x := .bool false) rfl ?_)
  show wpAny _ _ (field (.ref z) 3 >>= _) _ _ _
  refine wpAny_bind (wpAny_field hz rfl (x := .ref TI) rfl ?_)
  refine wpAny_bind (wpAny_seqItems hTI rfl ?_)
  show wpAny _ _ (Builtin.SmallTypes.ownedTupleIsFree (.ref z) >>= _) _ _ _
  refine wpAny_bind (wpAny_tupleHeld_zip hz hT fun g0 hz0 hs0 => ?_)
  replace hs0 : Heap.SameBut z hp g0 := hs0
  simp only [Bool.false_eq_true, if_false]
  refine wpAny_bind ?_
  rw [← Array.forIn_toList]
  simp only [List.forIn_cons, List.forIn_nil]
  refine wpAny_bind (wpAny_bind (wpAny_holding ?_))
  show wpAny _ _ (Builtin.SmallTypes.nextOf (.ref i1) >>= _) _ _ ⟨g0, g, d, tk0, os⟩
  refine wpAny_bind (D1.item i _ _ _ hlt1 (D1.over st1 hs0 S.zf1) fun x1 p1 tk1 hx1 sn1 hp1 => wpAny_pure ?_)
  replace hp1 : Heap.SameBut i1 g0 p1 := hp1
  refine wpAny_pure ?_
  refine wpAny_bind (wpAny_bind (wpAny_holding ?_))
  show wpAny _ _ (Builtin.SmallTypes.nextOf (.ref i2) >>= _) _ _ ⟨p1, g, d, tk1, os⟩
  refine wpAny_bind (D2.item i _ _ _ hlt2 (D2.over (D2.over st2 hs0 S.zf2) hp1 S.sep1_2) fun x2 p2 tk2 hx2 sn2 hp2 => wpAny_pure ?_)
  replace hp2 : Heap.SameBut i2 p1 p2 := hp2
  refine wpAny_pure (wpAny_pure ?_)
  show wpAny _ _ (newTuple [x1, x2] >>= _) _ _ ⟨p2, g, d, tk2, os⟩
  refine wpAny_bind (wpAny_newTuple ?_)
  have hsz : p2.objs.size = hp.objs.size := by rw [hp2.1, hp1.1, hs0.1]
  have hzz : IsZipHeld p2 z TI TO T true := hp2.extBut _ _ S.zi2 (hp1.extBut _ _ S.zi1 hz0)
  have hk : ∀ c o, c ≠ z → c ≠ i1 → c ≠ i2 → hp.get? c = some o → p2.get? c = some o := fun c o c1 c2 c3 e => hp2.extBut _ _ c3 (hp1.extBut _ _ c2 (hs0.extBut _ _ c1 e))
  have hj1 : St1 (i + 1) p2 := D1.over sn1 hp2 S.sep2_1
  refine wpAny_pure ⟨_, rfl, ?_⟩
  show Q (.ref p2.objs.size) _
  have hpr : IsTupOf2 (p2.push { cls := .type "tuple", data := .seq #[x1, x2] }) p2.objs.size x1 x2 := Heap.get?_push_size _ rfl
  have hz4 : (p2.push { cls := .type "tuple", data := .seq #[x1, x2] }).objs.size = p2.objs.size + 1 := Heap.size_push ..
  rw [hsz] at hpr hz4 ⊢
  exact hQ x1 x2 _ tk2 hx1 hx2 (Heap.get?_push_of_some _ hzz) (D1.frame _ _ _ hj1 fun b hb o e => Heap.get?_push_of_some _ e) (D2.frame _ _ _ sn2 fun b hb o e => Heap.get?_push_of_some _ e) hpr hz4 fun c o c1 c2 c3 e => Heap.get?_push_of_some _ (hk c o c1 c2 c3 e)
theorem held_end {Q : Fin → Shared → Prop} (S : ZipSep2 z TI TO i1 i2 fp1 fp2) (D1 : Draws prog w A i1 fp1 n1 P1 St1)
    (hz : IsZipHeld s.heap z TI TO T f) (hT : s.heap.get? T = some oT) (hTI : IsTupOf2 s.heap TI (.ref i1) (.ref i2)) (st1 : St1 n1 s.heap)
    (hE : ∀ h' e, (∀ c o, c ≠ z → c ≠ i1 → s.heap.get? c = some o → h'.get? c = some o) → (∃ o, h'.get? e = some o ∧ o.cls = .type "StopIteration") → E (.ref e) { s with heap := h' }) :
    wpAny (model prog w) A (Builtin.«zip.__next__» ⟨[.ref z], []⟩) Q E s := by
  obtain ⟨hp, g, d, tk0, os⟩ := s
  show wpAny _ _ (field (.ref z) 2 >>= _) _ _ _
  refine wpAny_bind (wpAny_field hz rfl (x := .bool false) rfl ?_)
  show wpAny _ _ (field (.ref z) 3 >>= _) _ _ _
  refine wpAny_bind (wpAny_field hz rfl (x := .ref TI) rfl ?_)
  refine wpAny_bind (wpAny_seqItems hTI rfl ?_)
  show wpAny _ _ (Builtin.SmallTypes.ownedTupleIsFree (.ref z) >>= _) _ _ _
  refine wpAny_bind (wpAny_tupleHeld_zip hz hT fun g0 hz0 hs0 => ?_)
  replace hs0 : Heap.SameBut z hp g0 := hs0
  simp only [Bool.false_eq_true, if_false]
  refine wpAny_bind ?_
  rw [← Array.forIn_toList]
  simp only [List.forIn_cons, List.forIn_nil]
  refine wpAny_bind (wpAny_bind (wpAny_holding ?_))
  show wpAny _ _ (Builtin.SmallTypes.nextOf (.ref i1) >>= _) _ _ ⟨g0, g, d, tk0, os⟩
  exact wpAny_bind (D1.done ⟨g0, g, d, tk0, os⟩ _ _ (D1.over st1 hs0 S.zf1) fun q e hq he => hE q e (fun c o c1 c2 x => hq _ _ c2 (hs0.extBut _ _ c1 x)) he)
theorem next_held {Q : Option Value → Shared → Prop} (S : ZipSep2 z TI TO i1 i2 fp1 fp2) (D1 : Draws prog w A.in1 i1 fp1 n1 P1 St1) (D2 : Draws prog w A.in1 i2 fp2 n2 P2 St2)
    (hz : IsZipHeld s.heap z TI TO T f) (hT : s.heap.get? T = some oT) (hTI : IsTupOf2 s.heap TI (.ref i1) (.ref i2)) (st1 : St1 i s.heap) (st2 : St2 i s.heap) (hlt1 : i < n1) (hlt2 : i < n2)
    (hQ : ∀ x1 x2 h' tk, P1 i x1 → P2 i x2 → IsZipHeld h' z TI TO T true → St1 (i + 1) h' → St2 (i + 1) h' → IsTupOf2 h' s.heap.objs.size x1 x2 → h'.objs.size = s.heap.objs.size + 1 →
      (∀ c o, c ≠ z → c ≠ i1 → c ≠ i2 → s.heap.get? c = some o → h'.get? c = some o) → Q (some (.ref s.heap.objs.size)) { s with heap := h', toks := tk }) : wpAny (model prog w) A (pyNext (.ref z)) Q E s := by
  have hTy : s.TypeIs (.ref z) "zip" := ⟨_, hz, rfl⟩
  unfold pyNext
  exact wpAny_bind (wpAny_attempt (wpAny_callSpecial?_slot (name := Str.ofString "__next__") hTy F.slot_zip_next
    (wpAny_call_entry F.slot_zip_next hTy F.entry_zip_next
      (held_item S D1 D2 hz hT hTI st1 st2 hlt1 hlt2 fun x1 x2 h' tk y1 y2 a1 a3 a4 a5 a6 a7 => wpAny_pure (hQ x1 x2 h' tk y1 y2 a1 a3 a4 a5 a6 a7)) (F.args_zip_next_1 _))))
theorem next_end {Q : Option Value → Shared → Prop} (S : ZipSep2 z TI TO i1 i2 fp1 fp2) (D1 : Draws prog w A.in1 i1 fp1 n1 P1 St1)
    (hz : IsZipHeld s.heap z TI TO T f) (hT : s.heap.get? T = some oT) (hTI : IsTupOf2 s.heap TI (.ref i1) (.ref i2)) (st1 : St1 n1 s.heap)
    (hQ : ∀ h', (∀ c o, c ≠ z → c ≠ i1 → s.heap.get? c = some o → h'.get? c = some o) → Q none { s with heap := h' }) : wpAny (model prog w) A (pyNext (.ref z)) Q E s := by
  have hTy : s.TypeIs (.ref z) "zip" := ⟨_, hz, rfl⟩
  unfold pyNext
  refine wpAny_bind (wpAny_attempt (wpAny_callSpecial?_slot (name := Str.ofString "__next__") hTy F.slot_zip_next
    (wpAny_call_entry F.slot_zip_next hTy F.entry_zip_next (held_end S D1 hz hT hTI st1 fun h' e hk he => ?_) (F.args_zip_next_1 _))))
  obtain ⟨o, ho, hc⟩ := he
  refine wpAny_bind (wpAny_isInstance (T := "StopIteration") (b := true) ⟨o, ho, hc⟩ isSubtype_stop ?_)
  exact wpAny_pure (hQ _ hk)
end
end ZL
end
/-! ### ZL1 -/
section
set_option Elab.async false
set_option linter.all false
set_option maxRecDepth 100000
set_option maxHeartbeats 4000000
/-! list(z), z a zip over two iterators with as many items, one at least. -/
namespace ZL
open PySem
open PySem.Sem (wp)
abbrev lstO (acc : Array Value) (c : Nat) : Obj := { cls := .type "list", dict := none, data := .seq acc c, slots := #[] }
structure Far (S z TI TO i1 i2 : Addr) (fp1 fp2 : List Addr) : Prop where
  z : S ≠ z
  TI : S ≠ TI
  TO : S ≠ TO
  i1 : S ≠ i1
  i2 : S ≠ i2
  f1 : S ∉ fp1
  f2 : S ∉ fp2
def ZSt (S z TI TO i1 i2 : Addr) (St1 St2 : Nat → Heap → Prop) (i : Nat) (h : Heap) : Prop := IsTupOf2 h TI (.ref i1) (.ref i2) ∧ St1 i h ∧ St2 i h ∧ (∃ oO, h.get? TO = some oO) ∧
  ((i = 0 ∧ IsZip h z TI TO .none ∧ ∃ a b, IsTupOf2 h TO a b) ∨ ∃ (T : Addr) (f : Bool) (oT : Obj), IsZipHeld h z TI TO T f ∧ h.get? T = some oT ∧ T ≠ z ∧ T ≠ i1 ∧ T ≠ i2 ∧ T ≠ S)
def Pairs (S z TO i1 i2 : Addr) (P1 P2 : Nat → Value → Prop) (acc : Array Value) (i : Nat) (h : Heap) : Prop := (acc.size = i ∧ acc.toList.Nodup) ∧
  ∀ j v, acc[j]? = some v → ∃ (T : Addr) (x1 x2 : Value), v = .ref T ∧ IsTupOf2 h T x1 x2 ∧ P1 j x1 ∧ P2 j x2 ∧ T ∉ [S, z, TO, i1, i2] ∧ S < T
theorem Pairs.keep {S z TO i1 i2 : Addr} {P1 P2 : Nat → Value → Prop} {acc : Array Value} {i : Nat} {h h' : Heap} (p : Pairs S z TO i1 i2 P1 P2 acc i h) (k : ∀ b o, b ∉ [S, z, TO, i1, i2] → h.get? b = some o → h'.get? b = some o) : Pairs S z TO i1 i2 P1 P2 acc i h' := ⟨p.1, fun j v e => by
  obtain ⟨T, x1, x2, e1, e2, e3, e4, e5, e6⟩ := p.2 j v e
  exact ⟨T, x1, x2, e1, k _ _ e5 e2, e3, e4, e5, e6⟩⟩
theorem Pairs.push {S z TO i1 i2 T : Addr} {P1 P2 : Nat → Value → Prop} {acc : Array Value} {i : Nat} {h : Heap} {x1 x2 : Value} (p : Pairs S z TO i1 i2 P1 P2 acc i h) (hT : IsTupOf2 h T x1 x2) (h1 : P1 i x1) (h2 : P2 i x2) (n : T ∉ [S, z, TO, i1, i2]) (lt : S < T) (new : Value.ref T ∉ acc.toList) : Pairs S z TO i1 i2 P1 P2 (acc.push (.ref T)) (i + 1) h := by
  refine ⟨⟨by rw [Array.size_push, p.1.1], by rw [Array.toList_push, List.nodup_append]; exact ⟨p.1.2, by simp, fun a ha b hb => by rw [List.mem_singleton.mp hb]; exact fun e => new (e ▸ ha)⟩⟩, fun j v hj => ?_⟩
  rw [Array.getElem?_push] at hj
  split at hj
  · rename_i e
    rw [p.1.1] at e
    cases hj
    rw [e]
    exact ⟨T, x1, x2, rfl, hT, h1, h2, n, lt⟩
  · exact p.2 j v hj
section
variable {prog : Program} {w : World} {A : Around} {z TI TO i1 i2 S : Addr} {fp1 fp2 : List Addr} {n : Nat} {P1 P2 : Nat → Value → Prop} {St1 St2 : Nat → Heap → Prop} {R : Result → Shared → Prop}
theorem loop (Z : ZipSep2 z TI TO i1 i2 fp1 fp2) (D1 : Draws prog w A.in1.in1 i1 fp1 n P1 St1) (D2 : Draws prog w A.in1.in1 i2 fp2 n P2 St2) (hn1 : 1 ≤ n) (hn : n ≤ sizeLine) (Fr : Far S z TI TO i1 i2 fp1 fp2) (res : Value) :
    ∀ (k i : Nat) (s : Shared) (acc : Array Value) (c : Nat), n - i = k → i ≤ n → ZSt S z TI TO i1 i2 St1 St2 i s.heap → s.heap.get? S = some (lstO acc c) → Pairs S z TO i1 i2 P1 P2 acc i s.heap →
    (∀ h' tk acc' c', (∀ b o, b ∉ [S, z, TO, i1, i2] → s.heap.get? b = some o → h'.get? b = some o) → h'.get? S = some (lstO acc' c') → Pairs S z TO i1 i2 P1 P2 acc' n h' → R (.ok (.ret res)) { s with heap := h', toks := tk }) →
    codeAny (model prog w) A (.builtin "list.extend.loop" ⟨[.ref S, .ref z, res], []⟩) R s := by
  intro k
  induction k with
  | zero =>
    intro i s acc c hk hi hst hS hacc hR
    have hin : i = n := by omega
    subst hin
    refine codeAny_builtin F.entry_extend_loop ?_
    rw [Around.under_plainId F.plain_extend_loop _]
    show wpAny _ A.in1 (pyNext (.ref z) >>= _) _ _ s
    obtain ⟨hTI, st1, st2, ⟨oO, hO⟩, hz⟩ := hst
    rcases hz with ⟨e0, _⟩ | ⟨T, f, oT, hz, hT, r1, r2, r3, r4⟩
    · omega
    · refine wpAny_bind (next_end Z D1 hz hT hTI st1 fun h' hk' => ?_)
      refine wpAny_pure (hR h' s.toks acc c (fun b o hb e => hk' b o (fun q => hb (by simp [q])) (fun q => hb (by simp [q])) e) (hk' S _ Fr.z Fr.i1 hS) (hacc.keep fun b o hb e => hk' b o (fun q => hb (by simp [q])) (fun q => hb (by simp [q])) e))
  | succ k ih =>
    intro i s acc c hk hi hst hS hacc hR
    have hlt : i < n := by omega
    refine codeAny_builtin F.entry_extend_loop ?_
    rw [Around.under_plainId F.plain_extend_loop _]
    show wpAny _ A.in1 (pyNext (.ref z) >>= _) _ _ s
    obtain ⟨hTI, st1, st2, ⟨oO, hO⟩, hz⟩ := hst
    have lt : ∀ {c o}, s.heap.get? c = some o → s.heap.objs.size ≠ c := fun e => Nat.ne_of_gt (Heap.lt_size e)
    have n1 : s.heap.objs.size ≠ i1 := by obtain ⟨_, e⟩ := D1.live _ _ st1; exact lt e
    have n2 : s.heap.objs.size ≠ i2 := by obtain ⟨_, e⟩ := D2.live _ _ st2; exact lt e
    have nS : s.heap.objs.size ≠ S := lt hS
    have nacc : Value.ref s.heap.objs.size ∉ acc.toList := fun q => by
      obtain ⟨j, hj⟩ := List.mem_iff_getElem?.mp q
      rw [Array.getElem?_toList] at hj
      obtain ⟨T, x1, x2, e1, e2, _⟩ := hacc.2 j _ hj
      cases e1
      exact absurd (Heap.lt_size e2) (Nat.lt_irrefl _)
    -- what follows one item
    have go : ∀ (x1 x2 : Value) (h1 : Heap) (tk : Nat), P1 i x1 → P2 i x2 → (∃ (T : Addr) (f : Bool) (oT : Obj), IsZipHeld h1 z TI TO T f ∧ h1.get? T = some oT ∧ T ≠ z ∧ T ≠ i1 ∧ T ≠ i2 ∧ T ≠ S) → St1 (i + 1) h1 → St2 (i + 1) h1 → (∃ oO, h1.get? TO = some oO) → IsTupOf2 h1 s.heap.objs.size x1 x2 → s.heap.objs.size ∉ [S, z, TO, i1, i2] →
        (∀ c o, c ∉ [z, TO, i1, i2] → s.heap.get? c = some o → h1.get? c = some o) →
        wpAny (model prog w) A.in1 (do updateSeq S (·.push (.ref s.heap.objs.size)); again (.builtin "list.extend.loop" ⟨[.ref S, .ref z, res], []⟩)) (fun fin s' => match fin with | .done f => R (.ok f) s' | .again c' => c'.quiet = true ∧ codeAny (model prog w) A c' R s') (fun e s' => R (.error e) s') { s with heap := h1, toks := tk } := by
      intro x1 x2 h1 tk p1 p2 hz' st1' st2' hO' hT' nT kp
      have hS' : h1.get? S = some (lstO acc c) := kp S _ (by simp [Fr.z, Fr.TO, Fr.i1, Fr.i2]) hS
      have hacc' : Pairs S z TO i1 i2 P1 P2 acc i h1 := hacc.keep fun b o hb e => kp b o (fun q => hb (List.mem_cons_of_mem _ q)) e
      refine wpAny_bind ?_
      refine wpAny_updateSeq (s := { s with heap := h1, toks := tk }) hS' rfl ?_ (by rw [hacc.1.1]; omega) (by show (acc.push _).size ≤ sizeLine + 1; rw [Array.size_push, hacc.1.1]; omega)
      refine wpAny_pure ⟨plainId_quiet F.plain_extend_loop _, ?_⟩
      have oth : ∀ b o, b ≠ S → h1.get? b = some o → (h1.update S (Obj.mapSeq (·.push (.ref s.heap.objs.size)))).get? b = some o := fun b o hb e => (Heap.get?_update_other _ _ (Ne.symm hb)).trans e
      have hTI' : IsTupOf2 h1 TI (.ref i1) (.ref i2) := kp TI _ (by simp [Z.TIz, Z.TITO, Z.TIi1, Z.TIi2]) hTI
      refine ih (i + 1) _ (acc.push (.ref s.heap.objs.size)) _ (by omega) hlt ⟨oth _ _ Fr.TI.symm hTI', D1.frame _ _ _ st1' fun b hb o e => oth b o (fun q => Fr.f1 (q ▸ hb)) e, D2.frame _ _ _ st2' fun b hb o e => oth b o (fun q => Fr.f2 (q ▸ hb)) e, hO'.elim fun oo he => ⟨oo, oth _ _ Fr.TO.symm he⟩, .inr ?_⟩ (Heap.get?_update_self _ hS' rfl) ((hacc'.push hT' p1 p2 nT (Heap.lt_size hS) nacc).keep fun b o hb e => oth b o (fun q => hb (by simp [q])) e) fun h' tk' acc' c' hk' hS'' hacc'' => ?_
      · obtain ⟨T, f, oT, e1, e2, e3, e4, e5, e6⟩ := hz'
        exact ⟨T, f, oT, oth _ _ Fr.z.symm e1, oth _ _ e6 e2, e3, e4, e5, e6⟩
      · exact hR h' tk' acc' c' (fun b o hb e => hk' b o hb (oth b o (fun q => hb (by simp [q])) (kp b o (fun q => hb (List.mem_cons_of_mem _ q)) e))) hS'' hacc''
    rcases hz with ⟨e0, hz, a, b, hTO⟩ | ⟨T, f, oT, hz, hT, r1, r2, r3, r4⟩
    · have nz : s.heap.objs.size ≠ z := lt hz
      have nTO : s.heap.objs.size ≠ TO := lt hTO
      refine wpAny_bind (wpAny_pyNext_zipD2_item Z D1 D2 hz hTI hTO st1 st2 hlt hlt fun x1 x2 h1 tk p1 p2 b1 b2 d1 d2 b5 b6 kp => ?_)
      exact go x1 x2 h1 tk p1 p2 ⟨s.heap.objs.size, false, _, b1, b5, nz, n1, n2, nS⟩ d1 d2 ⟨_, b2⟩ b5 (by simp [nS, nz, nTO, n1, n2]) fun c o hc e => kp c o (fun q => hc (by simp [q])) (fun q => hc (by simp [q])) (fun q => hc (by simp [q])) (fun q => hc (by simp [q])) e
    · have nz : s.heap.objs.size ≠ z := lt hz
      have nTO : s.heap.objs.size ≠ TO := lt hO
      refine wpAny_bind (next_held Z D1 D2 hz hT hTI st1 st2 hlt hlt fun x1 x2 h1 tk p1 p2 b1 d1 d2 b5 b6 kp => ?_)
      exact go x1 x2 h1 tk p1 p2 ⟨T, true, oT, b1, kp _ _ r1 r2 r3 hT, r1, r2, r3, r4⟩ d1 d2 ⟨oO, kp _ _ Z.TOz Z.Ti1 Z.Ti2 hO⟩ b5 (by simp [nS, nz, nTO, n1, n2]) fun c o hc e => kp c o (fun q => hc (by simp [q])) (fun q => hc (by simp [q])) (fun q => hc (by simp [q])) e
end
end ZL
end
/-! ### ZL2 -/
section
set_option Elab.async false
set_option linter.all false
set_option maxRecDepth 100000
set_option maxHeartbeats 4000000
/-! list(z) called; zip(text, list) called. -/
namespace ZL
open PySem
open PySem.Sem (wp)
section
variable {prog : Program} {w : World} {A : Around} {E : Value → Shared → Prop} {s : Shared} {z TI TO i1 i2 S : Addr} {fp1 fp2 : List Addr} {n : Nat} {P1 P2 : Nat → Value → Prop} {St1 St2 : Nat → Heap → Prop} {R : Result → Shared → Prop}
theorem extend (Z : ZipSep2 z TI TO i1 i2 fp1 fp2) (D1 : Draws prog w A.in1.in1 i1 fp1 n P1 St1) (D2 : Draws prog w A.in1.in1 i2 fp2 n P2 St2) (hn1 : 1 ≤ n) (hn : n ≤ sizeLine) (Fr : Far S z TI TO i1 i2 fp1 fp2) (res : Value)
    (hz : IsZip s.heap z TI TO .none) {a b : Value} (hTO : IsTupOf2 s.heap TO a b) (hTI : IsTupOf2 s.heap TI (.ref i1) (.ref i2)) (st1 : St1 0 s.heap) (st2 : St2 0 s.heap) {c₀ : Nat} (hS : s.heap.get? S = some (lstO #[] c₀))
    (hR : ∀ h' tk acc' c', (∀ b o, b ∉ [S, z, TO, i1, i2] → s.heap.get? b = some o → h'.get? b = some o) → h'.get? S = some (lstO acc' c') → Pairs S z TO i1 i2 P1 P2 acc' n h' → R (.ok (.ret res)) { s with heap := h', toks := tk }) :
    wpAny (model prog w) A.in1 (Builtin.List.listExtendWith (.ref S) (.ref z) res)
      (fun fin s' => match fin with | .done f => R (.ok f) s' | .again c' => c'.quiet = true ∧ codeAny (model prog w) A c' R s') (fun e s' => R (.error e) s') s := by
  have hSI : S ≠ z := Fr.z
  have hTy : s.TypeIs (.ref z) "zip" := ⟨_, hz, rfl⟩
  unfold Builtin.List.listExtendWith
  refine wpAny_bind (wpAny_typeOf hTy ?_)
  have h1 : Builtin.List.listSameRef (.ref S) (.ref z) = false := by simp [Builtin.List.listSameRef, hSI]
  have h2 : (Value.type "zip" == Value.type "list") = false := by decide
  have h3 : (Value.type "zip" == Value.type "tuple") = false := by decide
  simp only [h1, h2, h3, Bool.or_false, Bool.false_eq_true, if_false]
  refine wpAny_bind (wpAny_pyIter_zip hz ?_)
  refine wpAny_bind (wpAny_holding ?_)
  unfold Builtin.List.listLengthHint
  refine wpAny_bind (wpAny_specialOf hTy zip_no_len ?_)
  show wpAny _ A.in1 (specialOf (Value.ref z) (Str.ofString "__length_hint__") >>= _) _ _ _
  refine wpAny_bind (wpAny_specialOf hTy zip_no_hint ?_)
  refine wpAny_pure ?_
  show wpAny _ A.in1 (rule "list.extend.makes-room" >>= fun _ => Builtin.List.listTouch (.ref S) >>= fun _ =>
    again (.builtin "list.extend.loop" ⟨[.ref S, .ref z, res], []⟩)) _ _ _
  refine wpAny_bind (wpAny_rule ?_)
  refine wpAny_bind ?_
  show wpAny _ A.in1 (updateSeq S (·.push .none) >>= fun _ => updateSeq S (·.pop)) _ _ _
  refine wpAny_bind (wpAny_updateSeq hS rfl ?_)
  have hS₂ := Heap.get?_update_self (Obj.mapSeq (·.push Value.none)) hS rfl
  refine wpAny_updateSeq (hz := by seq_fits) hS₂ rfl ?_
  have hS₃ := Heap.get?_update_self (Obj.mapSeq (·.pop)) hS₂ rfl
  have oth : ∀ b o, b ≠ S → s.heap.get? b = some o → ((s.heap.update S (Obj.mapSeq (·.push Value.none))).update S (Obj.mapSeq (·.pop))).get? b = some o :=
    fun b o hb e => (Heap.get?_update_other _ _ (Ne.symm hb)).trans ((Heap.get?_update_other _ _ (Ne.symm hb)).trans e)
  refine wpAny_pure ⟨plainId_quiet F.plain_extend_loop _, loop Z D1 D2 hn1 hn Fr res n 0 _ #[] _ rfl (Nat.zero_le _)
    ⟨oth _ _ Fr.TI.symm hTI, D1.frame _ _ _ st1 fun b hb o e => oth b o (fun q => Fr.f1 (q ▸ hb)) e, D2.frame _ _ _ st2 fun b hb o e => oth b o (fun q => Fr.f2 (q ▸ hb)) e, ⟨_, oth _ _ Fr.TO.symm hTO⟩, .inl ⟨rfl, oth _ _ Fr.z.symm hz, a, b, oth _ _ Fr.TO.symm hTO⟩⟩
    hS₃ ⟨⟨rfl, by simp⟩, fun j v h => by simp at h⟩ fun h' tk acc' c' hk hS' hacc => ?_⟩
  exact hR h' tk acc' c' (fun b o hb e => hk b o hb (oth b o (fun q => hb (by simp [q])) e)) hS' hacc
theorem init (Z : ZipSep2 z TI TO i1 i2 fp1 fp2) (D1 : Draws prog w A.in1.in1 i1 fp1 n P1 St1) (D2 : Draws prog w A.in1.in1 i2 fp2 n P2 St2) (hn1 : 1 ≤ n) (hn : n ≤ sizeLine) (Fr : Far S z TI TO i1 i2 fp1 fp2)
    (hz : IsZip s.heap z TI TO .none) {a b : Value} (hTO : IsTupOf2 s.heap TO a b) (hTI : IsTupOf2 s.heap TI (.ref i1) (.ref i2)) (st1 : St1 0 s.heap) (st2 : St2 0 s.heap) (hS : s.heap.get? S = some { cls := .type "list", data := .seq #[] })
    (hR : ∀ h' tk acc' c', (∀ b o, b ∉ [S, z, TO, i1, i2] → s.heap.get? b = some o → h'.get? b = some o) → h'.get? S = some (lstO acc' c') → Pairs S z TO i1 i2 P1 P2 acc' n h' → R (.ok (.ret .none)) { s with heap := h', toks := tk }) :
    wpAny (model prog w) A.in1 (Builtin.«list.__init__» ⟨[.ref S, .ref z], []⟩)
      (fun fin s' => match fin with | .done f => R (.ok f) s' | .again c' => c'.quiet = true ∧ codeAny (model prog w) A c' R s') (fun e s' => R (.error e) s') s := by
  show wpAny _ A.in1 (do let old ← Builtin.List.listItems (.ref S); Builtin.List.listUpdate (.ref S) (fun _ => #[]); letGo old.toList.reverse; Builtin.List.listExtendWith (.ref S) (.ref z) .none) _ _ s
  refine wpAny_bind ?_
  unfold Builtin.List.listItems
  refine wpAny_bind (wpAny_seqItems hS rfl (wpAny_pure ?_))
  show wpAny _ A.in1 (updateSeq S (fun _ => #[]) >>= fun _ => letGo (#[] : Array Value).toList.reverse >>= fun _ => Builtin.List.listExtendWith (.ref S) (.ref z) .none) _ _ s
  refine wpAny_bind (wpAny_updateSeq hS rfl ?_)
  have hS₂ := Heap.get?_update_self (Obj.mapSeq (fun _ => (#[] : Array Value))) hS rfl
  have oth : ∀ b o, b ≠ S → s.heap.get? b = some o → (s.heap.update S (Obj.mapSeq (fun _ => (#[] : Array Value)))).get? b = some o :=
    fun b o hb e => (Heap.get?_update_other _ _ (Ne.symm hb)).trans e
  refine wpAny_bind (wpAny_letGo ?_)
  refine extend Z D1 D2 hn1 hn Fr .none (oth _ _ Fr.z.symm hz) (oth _ _ Fr.TO.symm hTO) (oth _ _ Fr.TI.symm hTI) (D1.frame _ _ _ st1 fun b hb o e => oth b o (fun q => Fr.f1 (q ▸ hb)) e) (D2.frame _ _ _ st2 fun b hb o e => oth b o (fun q => Fr.f2 (q ▸ hb)) e) hS₂ fun h' tk acc' c' hk hS' hacc => ?_
  exact hR h' tk acc' c' (fun b o hb e => hk b o hb (oth b o (fun q => hb (by simp [q])) e)) hS' hacc
theorem call_list {Q : Value → Shared → Prop} (Z : ZipSep2 z TI TO i1 i2 fp1 fp2) (D1 : Draws prog w A.in1.in1.in1 i1 fp1 n P1 St1) (D2 : Draws prog w A.in1.in1.in1 i2 fp2 n P2 St2) (hn1 : 1 ≤ n) (hn : n ≤ sizeLine) (Fr : Far s.heap.objs.size z TI TO i1 i2 fp1 fp2)
    (hz : IsZip s.heap z TI TO .none) {a b : Value} (hTO : IsTupOf2 s.heap TO a b) (hTI : IsTupOf2 s.heap TI (.ref i1) (.ref i2)) (st1 : St1 0 s.heap) (st2 : St2 0 s.heap)
    (hQ : ∀ h' tk acc' c', (∀ b o, b ∉ [z, TO, i1, i2] → s.heap.get? b = some o → h'.get? b = some o) → h'.get? s.heap.objs.size = some (lstO acc' c') → Pairs s.heap.objs.size z TO i1 i2 P1 P2 acc' n h' → Q (.ref s.heap.objs.size) { s with heap := h', toks := tk }) :
    wpAny (model prog w) A (call (.type "list") [.ref z]) Q E s := by
  refine callType_codes (Q₁ := fun obj s₁ => obj = .ref s.heap.objs.size ∧ s₁ = { s with heap := s.heap.push { cls := .type "list", data := .seq #[] } }) F.called_list (F.typeCall_list_1 _) F.entry_list_init
    (code_list_new _ ⟨rfl, rfl⟩) fun obj s₁ h₁ => ?_
  obtain ⟨rfl, rfl⟩ := h₁
  have hS : (s.heap.push { cls := .type "list", data := .seq #[] }).get? s.heap.objs.size = some { cls := .type "list", data := .seq #[] } := Heap.get?_push_size _ rfl
  have up : ∀ b o, s.heap.get? b = some o → (s.heap.push { cls := .type "list", data := .seq #[] }).get? b = some o := fun b o e => Heap.get?_push_of_some _ e
  refine ⟨⟨_, hS, rfl⟩, F.args_list_init_2 _ _, init Z D1 D2 hn1 hn Fr (up _ _ hz) (up _ _ hTO) (up _ _ hTI) (D1.frame _ _ _ st1 fun b _ o e => up b o e) (D2.frame _ _ _ st2 fun b _ o e => up b o e) hS fun h' tk acc' c' hk hS' hacc => ?_⟩
  refine ⟨rfl, hQ h' tk acc' c' (fun b o hb e => hk b o (fun q => ?_) (up b o e)) hS' hacc⟩
  rcases List.mem_cons.mp q with rfl | q
  · rw [Heap.get?_none_of_le (Nat.le_refl _)] at e; cases e
  · exact hb q
end
abbrev zsH1 (h : Heap) (x : Str) (t : Tok) : Heap := h.push { cls := .type "str_ascii_iterator", data := .fields #[.str x t, .int 0 0] }
abbrev zsH2 (h : Heap) (x : Str) (t : Tok) (l2 : Addr) : Heap := (zsH1 h x t).push { cls := .type "list_iterator", data := .fields #[.ref l2, .int 0 0] }
abbrev zsH3 (h : Heap) (x : Str) (t : Tok) (l2 : Addr) : Heap := (zsH2 h x t l2).push { cls := .type "tuple", data := .seq #[.ref h.objs.size, .ref (zsH1 h x t).objs.size] }
abbrev zsH4 (h : Heap) (x : Str) (t : Tok) (l2 : Addr) : Heap := (zsH3 h x t l2).push { cls := .type "tuple", data := .seq #[.none, .none] }
abbrev zsH5 (h : Heap) (x : Str) (t : Tok) (l2 : Addr) : Heap := (zsH4 h x t l2).push { cls := .type "zip", data := .fields #[.none, .bool false, .bool false, .ref (zsH2 h x t l2).objs.size, .ref (zsH3 h x t l2).objs.size] }
theorem meets_zipS_new (x : Str) (t : Tok) (l2 : Addr) (ys : Array Value) (ha : x.cps.all (· < 128) = true) :
    Meets (Builtin.«zip.__new__» ⟨[.type "zip", .str x t, .ref l2], []⟩) (fun _ R s => s.heap.IsList l2 ys ∧
      R (.ok (.ret (.ref (zsH4 s.heap x t l2).objs.size))) { s with heap := zsH5 s.heap x t l2 }) :=
  .of_wp fun prog w A R s h => by
    obtain ⟨hp, g, d, tk, os⟩ := s; obtain ⟨hl2, h⟩ := h
    have hsub := sub_zip
    have hL2 : Heap.IsList (Shared.heap ⟨hp.push { cls := .type "str_ascii_iterator", data := .fields #[.str x t, .int 0 0] }, g, d, tk, os⟩) l2 ys := Heap.IsList.push hl2 _
    wp_walk using wpAny_pyIter_ascii ha, wpAny_pyIter_list hL2
    exact ⟨_, rfl, h⟩
end ZL
end
/-! ### ZL3 -/
section
set_option Elab.async false
set_option linter.all false
set_option maxRecDepth 100000
set_option maxHeartbeats 4000000
/-! list(zip(text, list)) in the layer. -/
namespace ZL
open PySem PySem.Spec PyProof.Rows L2
open K0 (oneV oneS)
section
variable {prog : Program} {w : World} {A : Around} {E : Value → Shared → Prop} {s : Shared}
theorem call_zipS {x : Str} {t : Tok} {l2 : Addr} {ys : Array Value} {Q : Value → Shared → Prop} (ha : x.cps.all (· < 128) = true) (hl2 : s.heap.IsList l2 ys)
    (h : ∀ h', IsZip h' (s.heap.objs.size + 4) (s.heap.objs.size + 2) (s.heap.objs.size + 3) .none → IsTupOf2 h' (s.heap.objs.size + 2) (.ref s.heap.objs.size) (.ref (s.heap.objs.size + 1)) →
      IsTupOf2 h' (s.heap.objs.size + 3) .none .none → h'.IsStrIter s.heap.objs.size "str_ascii_iterator" x t 0 → h'.IsListIter (s.heap.objs.size + 1) l2 0 → h'.objs.size = s.heap.objs.size + 5 →
      (∀ c o, s.heap.get? c = some o → h'.get? c = some o) → Q (.ref (s.heap.objs.size + 4)) { s with heap := h' }) :
    wpAny (model prog w) A (call (.type "zip") [.str x t, .ref l2]) Q E s := by
  refine callType_new F.called_zip (by decide) (F.typeCall_zip_2 _ _) (F.newCall_zip_2 _ _) (fun obj => F.args_object_init_3 obj _ _) F.entry_zip_new
    (meets_zipS_new x t l2 ys ha) ⟨hl2, ?_⟩
  have z1 : (zsH1 s.heap x t).objs.size = s.heap.objs.size + 1 := Heap.size_push ..
  have z2 : (zsH2 s.heap x t l2).objs.size = s.heap.objs.size + 2 := by rw [Heap.size_push, z1]
  have z3 : (zsH3 s.heap x t l2).objs.size = s.heap.objs.size + 3 := by rw [Heap.size_push, z2]
  have z4 : (zsH4 s.heap x t l2).objs.size = s.heap.objs.size + 4 := by rw [Heap.size_push, z3]
  have z5 : (zsH5 s.heap x t l2).objs.size = s.heap.objs.size + 5 := by rw [Heap.size_push, z4]
  have g5 : (zsH5 s.heap x t l2).get? (zsH4 s.heap x t l2).objs.size = some _ := Heap.get?_push_size _ rfl
  have g4 : (zsH5 s.heap x t l2).get? (zsH3 s.heap x t l2).objs.size = some _ := Heap.get?_push_of_some _ (Heap.get?_push_size _ rfl)
  have g3 : (zsH5 s.heap x t l2).get? (zsH2 s.heap x t l2).objs.size = some _ := Heap.get?_push_of_some _ (Heap.get?_push_of_some _ (Heap.get?_push_size _ rfl))
  have g2 : (zsH5 s.heap x t l2).get? (zsH1 s.heap x t).objs.size = some _ := Heap.get?_push_of_some _ (Heap.get?_push_of_some _ (Heap.get?_push_of_some _ (Heap.get?_push_size _ rfl)))
  have g1 : (zsH5 s.heap x t l2).get? s.heap.objs.size = some _ := Heap.get?_push_of_some _ (Heap.get?_push_of_some _ (Heap.get?_push_of_some _ (Heap.get?_push_of_some _ (Heap.get?_push_size _ rfl))))
  show _ ∧ _
  rw [z2, z3, z4] at g5
  rw [z1, z2] at g3
  rw [z3] at g4
  rw [z1] at g2
  rw [z4]
  exact ⟨⟨_, g5, rfl⟩, h _ g5 g3 g4 ⟨_, g1, rfl, rfl⟩ ⟨_, g2, rfl, rfl⟩ z5 fun c o x =>
    Heap.get?_push_of_some _ (Heap.get?_push_of_some _ (Heap.get?_push_of_some _ (Heap.get?_push_of_some _ (Heap.get?_push_of_some _ x))))⟩
end
theorem refs_all : ∀ l : List Value, (∀ v ∈ l, ∃ T, v = Value.ref T) → ∃ ps : List Addr, l = ps.map Value.ref
  | [], _ => ⟨[], rfl⟩
  | v :: l, h => by
    obtain ⟨T, rfl⟩ := h v List.mem_cons_self
    obtain ⟨ps, e⟩ := refs_all l fun u hu => h u (List.mem_cons_of_mem _ hu)
    exact ⟨T :: ps, by rw [e]; rfl⟩
theorem refs_vals : ∀ ps : List Addr, Vals (ps.map V.ref) (ps.map Value.ref)
  | [] => .nil
  | _ :: ps => .cons rfl (refs_vals ps)
/-- the pairs of a text's signs and a list's items, tuples of their own, in a new list -/
def tZipS (K : PySem.W.Frag) (ta : TA) : TE := fun σ H Q => ta σ H fun vs H1 => ∃ (x : Str) (b : Addr) (ys : List V), vs = [.str x, .ref b] ∧ SqL K H1 b ys ∧ x.cps.all (· < 128) = true ∧ x.cps.size = ys.length ∧ 1 ≤ ys.length ∧ ys.length ≤ 1000 ∧
  ∀ (H' : Hp) (p : Addr) (ps : List Addr), (∀ b o, H1 b = some o → H' b = some o) → H1 p = none → H' p = some (.lst (ps.map V.ref)) → ps.length = ys.length → (∀ (j : Nat) (q : Addr), ps[j]? = some q → ∃ (c : Nat) (y : V), x.cps[j]? = some c ∧ ys[j]? = some y ∧ H' q = some (.tup [oneV c, y])) → Q (.ref p) H'
section
variable {X : Cx} {e1 e2 : Expr} {ta : TA} {p p2 pos pos2 : Pos}
theorem pe_listZipS (hg : Gl X "list") (hm : X.mg "list" = none) (hg2 : Gl X "zip") (hm2 : X.mg "zip" = none) (ha : PA X [e1, e2] ta)
    (hs : starEach [.Call (.Name "zip" p2) [e1, e2] [] pos2] X.env = [(false, eval (.Call (.Name "zip" p2) [e1, e2] [] pos2) X.env)] := by rfl)
    (hs2 : starEach [e1, e2] X.env = (false, eval e1 X.env) :: starEach [e2] X.env := by rfl) (hpl2 : (backTo pos2 (starEach [e2] X.env)).any (·.1) = false := by rfl) (hc : X.calm = true) :
    PE X (.Call (.Name "list" p) [.Call (.Name "zip" p2) [e1, e2] [] pos2] [] pos) (tZipS X.K ta) := by
  refine ⟨fun pins s σ H Q I h => ?_⟩
  refine wpAny_Call_Name_kw (ld_blt (u := .type "list") I hg hm (by decide +kernel) ?_)
  refine PyProof.Rows.callWith_type1 (rest := []) ?_ hs (by rfl)
  rw [hs]
  show wpAny _ _ (spliced [(false, eval (.Call (.Name "zip" p2) [e1, e2] [] pos2) X.env)]) _ _ s
  refine Calls.spliced_cons (wpAny_Call_Name_kw (ld_blt (u := .type "zip") I hg2 hm2 PyProof.Rows.boot_zip (PyProof.Rows.callWith_type1 (thn (ha.run pos2 pins s σ H _ I h) fun us s1 ⟨vs, H1, I1, r1, q1⟩ => ?_) hs2 hpl2)))
  obtain ⟨x, b, ys, ev, hb, asc, sz, n1, n1000, q⟩ := q1
  subst ev
  obtain ⟨u1, u2, rfl, ⟨t, rfl⟩, e2⟩ := vals2 r1
  obtain rfl : u2 = Value.ref b := e2
  obtain ⟨its, rv, pl, hz⟩ := I1.list hb
  have il : its.length = ys.length := rv.length.symm
  refine call_zipS asc pl.isList fun h1 hzp hTI hTO hi1 hi2 hsz kp => Calls.spliced_nil ?_
  -- list(z)
  have sl : sizeLine = 16777216 := sizeLine_eq
  have hd := I1.ok.hd hc
  have hl1 : h1.IsList b its.toArray := pl.isList.at fun o e => kp _ o e
  have bl : b < s1.heap.objs.size := by obtain ⟨o, ho, _⟩ := pl.isList; exact Heap.lt_size ho
  have ne : ∀ k : Nat, s1.heap.objs.size + k ≠ b := fun k e => absurd bl (by rw [← e]; exact Nat.not_lt.mpr (Nat.le_add_right _ _))
  have ne0 : s1.heap.objs.size ≠ b := ne 0
  have Z : ZipSep2 (s1.heap.objs.size + 4) (s1.heap.objs.size + 2) (s1.heap.objs.size + 3) s1.heap.objs.size (s1.heap.objs.size + 1) [s1.heap.objs.size] [s1.heap.objs.size + 1, b] := by
    constructor <;> simp [ne, ne0]
  have Fr : Far h1.objs.size (s1.heap.objs.size + 4) (s1.heap.objs.size + 2) (s1.heap.objs.size + 3) s1.heap.objs.size (s1.heap.objs.size + 1) [s1.heap.objs.size] [s1.heap.objs.size + 1, b] := by
    rw [hsz]
    constructor <;> simp [ne, ne0]
  have D1 := Draws.strAscii (prog := X.prog) (w := X.w) (A := X.A.in1.in1.in1) hd s1.heap.objs.size x t
  have D2 := Draws.list (prog := X.prog) (w := X.w) (A := X.A.in1.in1.in1) hd (s1.heap.objs.size + 1) b (ne 1).symm its.toArray
  have n2 : its.toArray.size = x.cps.size := by rw [List.size_toArray, il, sz]
  rw [n2] at D2
  refine call_list (s := { s1 with heap := h1 }) Z D1 D2 (by omega) (by omega) Fr hzp hTO hTI hi1 ⟨hi2, hl1⟩ fun h' tk acc c hk hS hP => ?_
  -- all old objects stand
  have k' : ∀ b o, s1.heap.get? b = some o → h'.get? b = some o := fun b o e => by
    have bl := Heap.lt_size e
    refine hk b o (fun z => ?_) (kp b o e)
    have z : b = s1.heap.objs.size + 4 ∨ b = s1.heap.objs.size + 3 ∨ b = s1.heap.objs.size ∨ b = s1.heap.objs.size + 1 := by simpa using z
    rcases z with z | z | z | z <;> rw [z] at bl <;> first | exact absurd bl (Nat.lt_irrefl _) | exact absurd bl (Nat.not_lt.mpr (Nat.le_add_right _ _))
  have I2 : Inv X pins σ H1 { s1 with heap := h', toks := tk } := I1.kept k'
  obtain ⟨ps, eps⟩ : ∃ ps : List Addr, acc.toList = ps.map Value.ref := refs_all acc.toList fun v hv => by
    obtain ⟨j, hj⟩ := List.mem_iff_getElem?.mp hv
    rw [Array.getElem?_toList] at hj
    obtain ⟨T, _, _, e, _⟩ := hP.2 j v hj
    exact ⟨T, e⟩
  have plen : ps.length = ys.length := by
    have h1 := congrArg List.length eps
    rw [Array.length_toList, List.length_map, hP.1.1] at h1
    omega
  have pnd : ps.Nodup := by
    have h1 := hP.1.2
    rw [eps] at h1
    exact (List.pairwise_map.mp h1).imp fun h e => h (by rw [e])
  have bigS : s1.heap.objs.size ≤ h1.objs.size := by rw [hsz]; exact Nat.le_add_right _ _
  have nS : H1 h1.objs.size = none := I1.hok.fresh bigS
  have I3 : Inv X pins σ (upd H1 h1.objs.size (.lst (ps.map V.ref))) { s1 with heap := h', toks := tk } := by
    refine I2.take (h' := h') (t' := tk) (fun b ob _ e => e) (I1.fpOk bigS nS) ⟨by rw [List.length_map]; omega, acc.toList, c, ?_, hS⟩
    rw [eps]
    exact refs_vals ps
  obtain ⟨H4, I4, g4, p4⟩ := DX.takeT (h' := h') (tk := tk) (P := fun a vs => ∃ (j : Nat) (cc : Nat) (y : V), ps[j]? = some a ∧ x.cps[j]? = some cc ∧ ys[j]? = some y ∧ vs = [oneV cc, y]) I1 ps _ I3 pnd fun a ha => by
    obtain ⟨j, hj⟩ := List.mem_iff_getElem?.mp ha
    have hj2 : acc[j]? = some (.ref a) := by rw [← Array.getElem?_toList, eps, List.getElem?_map, hj]; rfl
    obtain ⟨T, x1, x2, e1, e2, ⟨cc, u, e3, e4⟩, e5, e6, e7⟩ := hP.2 j _ hj2
    cases e1
    subst e4
    have e5 : its[j]? = some x2 := by rw [← List.getElem?_toArray]; exact e5
    have hjl : j < ys.length := by
      have := (List.getElem?_eq_some_iff.mp e5).1
      omega
    obtain ⟨y, hy⟩ : ∃ y, ys[j]? = some y := ⟨_, List.getElem?_eq_getElem hjl⟩
    obtain ⟨u2, hu2, ru2⟩ := rv.get hy
    rw [e5] at hu2
    cases hu2
    have big : s1.heap.objs.size ≤ a := Nat.le_trans bigS (Nat.le_of_lt e7)
    refine ⟨big, ?_, [oneV cc, y], ⟨j, cc, y, hj, e3, hy, rfl⟩, fun H2 => ⟨by show 2 ≤ sizeLine; omega, [.str ⟨#[cc]⟩ u, x2], .cons ⟨u, rfl⟩ (.cons ru2 .nil), ⟨_, e2, rfl, _, rfl⟩⟩⟩
    rw [upd_ne (Nat.ne_of_gt e7)]
    exact I1.hok.fresh big
  refine ⟨.ref h1.objs.size, H4, I4, rfl, q H4 _ ps (fun b o e => g4 _ _ (by rw [upd_ne (ne_of_none e nS)]; exact e)) nS (g4 _ _ upd_same) plen fun j a hj => ?_⟩
  obtain ⟨vs, ⟨j', cc, y, h1', h2', h3', rfl⟩, h5⟩ := p4 a (List.mem_of_getElem? hj)
  have ej : j = j' := (List.getElem?_inj (List.getElem?_eq_some_iff.mp hj).1 pnd).mp (hj.trans h1'.symm)
  subst ej
  exact ⟨cc, y, h2', h3', h5⟩
end
end ZL
end
/-! ### ZF -/
section
set_option Elab.async false
set_option linter.all false
set_option maxRecDepth 100000
set_option maxHeartbeats 4000000
/-! for .., .. in zip(text, list). -/
namespace ZL
open PySem PySem.Spec PyProof.Rows L2
open K0 (oneV oneS)
/-- the list at b as it stands at each turn, beside a text's signs, in new pairs -/
def ItzS (K : PySem.W.Frag) (z : Str) (b : Addr) : It :=
  ⟨fun i H => ∃ (ys : List V) (c : Nat) (y : V), SqL K H b ys ∧ z.cps[i]? = some c ∧ ys[i]? = some y,
    fun i H v H' => ∃ T c y, v = .ref T ∧ H T = none ∧ H' = upd H T (.tup [oneV c, y]) ∧ z.cps[i]? = some c ∧ ∀ ys, SqL K H b ys → ys[i]? = some y,
    fun i H => ∃ ys : List V, SqL K H b ys ∧ i ≤ z.cps.size ∧ i ≤ ys.length ∧ (i = z.cps.size ∨ i = ys.length)⟩
theorem turn_zipS {P : Program} {w : World} {K : PySem.W.Frag} {elts : List Expr} {kk : Nat} {tpos : Pos} {x : Str} {t : Tok} {b z TI TO i1 i2 : Addr} (D : ZipSep2 z TI TO i1 i2 [i1] [i2, b]) (ne : b ≠ i2) :
    Turn P w K (.Tuple elts kk tpos) (ItzS K x b) [z, TI, TO, i1, i2] z (fun i h => IsZip h z TI TO .none ∧ IsTupOf2 h TI (.ref i1) (.ref i2) ∧ (∃ x y, IsTupOf2 h TO x y) ∧ h.IsStrIter i1 "str_ascii_iterator" x t i ∧ h.IsListIter i2 b i) where
  mem := by simp
  obj := fun i h st c hc => by
    obtain ⟨hz, hTI, ⟨x, y, hTO⟩, ⟨o1, e1, _, d1⟩, ⟨o2, e2, _, d2⟩⟩ := st
    have e' : c = z ∨ c = TI ∨ c = TO ∨ c = i1 ∨ c = i2 := by simpa using hc
    rcases e' with q | q | q | q | q
    · rw [q]; exact ⟨_, hz, fun v q => nomatch q⟩
    · rw [q]; exact ⟨_, hTI, fun v q => nomatch q⟩
    · rw [q]; exact ⟨_, hTO, fun v q => nomatch q⟩
    · rw [q]; exact ⟨o1, e1, fun v q => by rw [d1] at q; cases q⟩
    · rw [q]; exact ⟨o2, e2, fun v q => by rw [d2] at q; cases q⟩
  keep := fun i h h' st k => by
    obtain ⟨hz, hTI, ⟨x, y, hTO⟩, ⟨o, ho, r⟩, h2⟩ := st
    exact ⟨k z (by simp) _ hz, k TI (by simp) _ hTI, ⟨x, y, k TO (by simp) _ hTO⟩, ⟨o, k i1 (by simp) o ho, r⟩, h2.at fun o q => k i2 (by simp) o q⟩
  item := by
    intro X hP hw hK hc i pins s σ H E I hf st hg
    subst hP hw hK
    obtain ⟨hz, hTI, ⟨x0, y0, hTO⟩, h1, h2⟩ := st
    obtain ⟨ys, c, y, hqy, hx, hy⟩ := hg
    obtain ⟨its2, rv2, p2, _⟩ := I.list hqy
    obtain ⟨u2, hu2, ru2⟩ := rv2.get hy
    have hzl : z < s.heap.objs.size := Heap.lt_size hz
    have hd := I.ok.hd hc
    have D1 := Draws.strAscii (prog := X.prog) (w := X.w) (A := X.A.in1) hd i1 x t
    have D2 := Draws.list (prog := X.prog) (w := X.w) (A := X.A.in1) hd i2 b ne its2.toArray
    have l1 : i < x.cps.size := (Array.getElem?_eq_some_iff.mp hx).1
    have l2 : i < its2.toArray.size := by
      rw [List.size_toArray]
      exact (List.getElem?_eq_some_iff.mp hu2).1
    refine wpAny_pyNext_zipD2_item D D1 D2 hz hTI hTO h1 ⟨h2, p2.isList⟩ l1 l2 fun x1 x2 h' tk y1 y2 z' TO' d1 d2 hT hsz hk => ?_
    obtain ⟨c', u, hc', rfl⟩ := y1
    obtain rfl : c = c' := by rw [hx] at hc'; exact Option.some.inj hc'
    have y2 : x2 = u2 := by
      have y2 : its2.toArray[i]? = some x2 := y2
      rw [List.getElem?_toArray, hu2] at y2
      exact (Option.some.inj y2).symm
    subst y2
    refine ⟨_, rfl, wpAny_letOwnedTupleGo_zip (s := { s with heap := h', toks := tk }) z' fun h'' z'' sb => ?_⟩
    have hT2 : h''.get? s.heap.objs.size = some { cls := .type "tuple", data := .seq #[.str ⟨#[c]⟩ u, x2] } := (sb.2 _ (Nat.ne_of_gt hzl)).trans hT
    have new : ObjOk X.prog X.w (upd H s.heap.objs.size (.tup [oneV c, y])) h'' s.heap.objs.size (.tup [oneV c, y]) :=
      ⟨by show 2 ≤ sizeLine; decide, [.str ⟨#[c]⟩ u, x2], .cons ⟨u, rfl⟩ (.cons ru2 .nil), ⟨_, hT2, rfl, _, rfl⟩⟩
    have I1 : Inv X pins σ (upd H s.heap.objs.size (.tup [oneV c, y])) { s with heap := h'', toks := tk } :=
      I.turnedNew (t' := tk) (ch := [z, TI, TO, i1, i2]) (fun c o hb q => (sb.2 c (fun q' => hb (by simp [q']))).trans (hk c o (fun q' => hb (by simp [q'])) (fun q' => hb (by simp [q'])) (fun q' => hb (by simp [q'])) (fun q' => hb (by simp [q'])) q)) hf (Nat.le_refl _) new
    refine ⟨.ref s.heap.objs.size, _, I1, rfl, ⟨_, c, y, rfl, I.hok.fresh (Nat.le_refl _), rfl, hx, fun l hl => by rw [I.list_inj hl hqy]; exact hy⟩, ⟨z'', ?_, ⟨.str ⟨#[c]⟩ u, x2, ?_⟩, ?_, ?_⟩, fun c hcm => ?_⟩
    · exact (sb.2 _ D.TIz).trans (hk _ _ D.TIz D.TITO D.TIi1 D.TIi2 hTI)
    · exact (sb.2 _ D.TOz).trans TO'
    · obtain ⟨o, ho, r⟩ := d1
      exact ⟨o, (sb.2 _ D.zi1.symm).trans ho, r⟩
    · exact d2.1.at fun o q => (sb.2 _ D.zi2.symm).trans q
    · have hlt : c < s.heap.objs.size := by
        have e' : c = z ∨ c = TI ∨ c = TO ∨ c = i1 ∨ c = i2 := by simpa using hcm
        rcases e' with q | q | q | q | q
        · rw [q]; exact hzl
        · rw [q]; exact Heap.lt_size hTI
        · rw [q]; exact Heap.lt_size hTO
        · rw [q]; obtain ⟨_, e1, _⟩ := h1; exact Heap.lt_size e1
        · rw [q]; obtain ⟨_, e2, _⟩ := h2; exact Heap.lt_size e2
      rw [upd_ne (Nat.ne_of_lt hlt)]
      exact (hf c hcm).1
  done := by
    intro X hP hw hK hc i pins s σ H E I hf st hg
    subst hP hw hK
    obtain ⟨hz, hTI, ⟨x0, y0, hTO⟩, h1, h2⟩ := st
    obtain ⟨ys, hqy, le1, le2, hend⟩ := hg
    obtain ⟨its2, rv2, p2, _⟩ := I.list hqy
    have l2 := rv2.length
    have hd := I.ok.hd hc
    have D1 := Draws.strAscii (prog := X.prog) (w := X.w) (A := X.A.in1) hd i1 x t
    have D2 := Draws.list (prog := X.prog) (w := X.w) (A := X.A.in1) hd i2 b ne its2.toArray
    have sz : its2.toArray.size = ys.length := by rw [List.size_toArray]; exact l2.symm
    exact wpAny_pyNext_zipD2_end D D1 D2 hz hTI hTO h1 ⟨h2, p2.isList⟩ le1 (by omega) (by omega) fun h' tk hk => ⟨rfl, I.turnedL (t' := tk) (ch := [z, TI, TO, i1, i2]) (fun c o hb q =>
      hk c o (fun q' => hb (by simp [q'])) (fun q' => hb (by simp [q'])) (fun q' => hb (by simp [q'])) (fun q' => hb (by simp [q'])) q) hf⟩
  self := fun A i s Q E st h => wpAny_pyIter_zip st.1 h
def iZipS (K : PySem.W.Frag) (ta : TA) : TI := fun σ H R => ta σ H fun vs H1 => ∃ (z : Str) (b : Addr) (ys : List V), vs = [.str z, .ref b] ∧ z.cps.all (· < 128) = true ∧ SqL K H1 b ys ∧ R (ItzS K z b) H1
theorem pi_zipS {X : Cx} {e e2 : Expr} {ta : TA} {p pos tpos : Pos} {elts : List Expr} {kk : Nat} (hg : Gl X "zip") (hm : X.mg "zip" = none) (ha : PA X [e, e2] ta)
    (hs : starEach [e, e2] X.env = (false, eval e X.env) :: starEach [e2] X.env := by rfl) (hpl : (backTo pos (starEach [e2] X.env)).any (·.1) = false := by rfl) :
    PI X (.Tuple elts kk tpos) (.Call (.Name "zip" p) [e, e2] [] pos) (iZipS X.K ta) := by
  refine ⟨fun pins s σ H R I h => ?_⟩
  refine Call_ (ld_blt I hg hm PyProof.Rows.boot_zip (PyProof.Rows.callWith_type1 (thn (ha.run pos pins s σ H _ I h) fun us s1 ⟨vs, H1, I1, r1, q1⟩ => ?_) hs hpl))
  obtain ⟨z, b, ys, ex, asc, hqy, q⟩ := q1
  subst ex
  cases r1 with
  | cons r rr =>
    cases rr with
    | cons r' rr =>
      cases rr
      obtain ⟨t, rfl⟩ := r
      cases r'
      have fresh5 : ∀ c, c ∈ [s1.heap.objs.size + 4, s1.heap.objs.size + 2, s1.heap.objs.size + 3, s1.heap.objs.size, s1.heap.objs.size + 1] → FpOk X pins H1 c := fun c hcm => by
        have e' : c = s1.heap.objs.size + 4 ∨ c = s1.heap.objs.size + 2 ∨ c = s1.heap.objs.size + 3 ∨ c = s1.heap.objs.size ∨ c = s1.heap.objs.size + 1 := by simpa using hcm
        have hle : s1.heap.objs.size ≤ c := by
          rcases e' with z | z | z | z | z
          · rw [z]; exact Nat.le_add_right _ _
          · rw [z]; exact Nat.le_add_right _ _
          · rw [z]; exact Nat.le_add_right _ _
          · rw [z]; exact Nat.le_refl _
          · rw [z]; exact Nat.le_add_right _ _
        exact I1.fpOk hle (I1.hok.fresh hle)
      obtain ⟨its2, rv2, p2, _⟩ := I1.list hqy
      have bl : b < s1.heap.objs.size := p2.lt
      have ne : ∀ k : Nat, s1.heap.objs.size + k ≠ b := fun k e => absurd bl (by rw [← e]; exact Nat.not_lt.mpr (Nat.le_add_right _ _))
      have ne0 : s1.heap.objs.size ≠ b := ne 0
      have Z : ZipSep2 (s1.heap.objs.size + 4) (s1.heap.objs.size + 2) (s1.heap.objs.size + 3) s1.heap.objs.size (s1.heap.objs.size + 1) [s1.heap.objs.size] [s1.heap.objs.size + 1, b] := by
        constructor <;> simp [ne, ne0]
      refine call_zipS asc p2.isList fun h' hz hTI hTO h1 h2 hsz hk => wpAny_pyIter_zip hz ?_
      have I2 : Inv X pins σ H1 { s1 with heap := h' } := I1.kept (t' := s1.toks) hk
      exact ⟨s1.heap.objs.size + 4, [s1.heap.objs.size + 4, s1.heap.objs.size + 2, s1.heap.objs.size + 3, s1.heap.objs.size, s1.heap.objs.size + 1], _, _, H1, rfl, I2, turn_zipS Z (ne 1).symm, ⟨hz, hTI, ⟨_, _, hTO⟩, h1, h2⟩, fresh5, q⟩
end ZL
end
/-! ### RO -/
section
set_option Elab.async false
set_option linter.all false
set_option maxRecDepth 100000
set_option maxHeartbeats 4000000
/-! result_of. -/
namespace ZL
open PySem PySem.Spec PyProof.Rows L2
open K0 (oneV oneS)
theorem walk_zipS {K : PySem.W.Frag} {z : Str} {b : Addr} {ys : List V} (e : z.cps.size = ys.length) : Walk (ItzS K z b) ys.length (fun H => SqL K H b ys) (fun i H v H' => ∃ T c y, v = .ref T ∧ H T = none ∧ H' = upd H T (.tup [oneV c, y]) ∧ z.cps[i]? = some c ∧ ys[i]? = some y) := by
  refine ⟨fun i _ hi q => ?_, fun _ q => ⟨ys, q, by omega, Nat.le_refl _, .inr rfl⟩, fun i H v H' _ q y => ?_⟩
  · exact ⟨ys, z.cps[i]'(by omega), ys[i], q, by simp [show i < z.cps.size by omega], by simp [hi]⟩
  · obtain ⟨T, c, x, h1, h2, h3, h4, h5⟩ := y
    exact ⟨T, c, x, h1, h2, h3, h4, h5 ys q⟩
end ZL
namespace K0
open PySem PySem.Spec PyProof.Rows L2
open MD (dM KeysV KeyV)
theorem cut_suf (xs : List V) (n : Nat) : cutV xs (some (n : Int)) none = xs.drop n := by
  show (xs.drop (HT.sIx xs.length 0 (some (n : Int)))).take (xs.length - HT.sIx xs.length 0 (some (n : Int))) = _
  rw [HT.sIx_nat]
  by_cases h : n ≤ xs.length
  · rw [Nat.min_eq_left h, List.take_of_length_le (by rw [List.length_drop]; exact Nat.le_refl _)]
  · rw [Nat.min_eq_right (by omega), List.drop_length, List.take_nil, List.drop_of_length_le (by omega)]
theorem asc_of {z : Str} (h : sgAll z = true) : z.cps.all (· < 128) = true := by
  rw [← Array.all_toList]
  refine List.all_eq_true.mpr fun c m => ?_
  have y := List.all_eq_true.mp h c m
  rw [sg_mem] at y
  have y := of_decide_eq_true y
  have all : (allSigns.cps.toList.all fun c => decide (c < 128)) = true := by decide +kernel
  exact List.all_eq_true.mp all c y
theorem sg_all {z : Str} (h : sgAll z = true) : ∀ c ∈ z.cps.toList, c ∈ allSigns.cps.toList := fun c m => by
  have y := List.all_eq_true.mp h c m
  rw [sg_mem] at y
  exact of_decide_eq_true y
theorem joinL_flat : ∀ l : List (List Nat), TL.joinL [] l = l.flatten
  | [] => rfl
  | [p] => by simp [TL.joinL]
  | p :: q :: r => by
    show p ++ ([] ++ TL.joinL [] (q :: r)) = _
    rw [joinL_flat (q :: r)]
    rfl
theorem join_cps (ys : List Str) : (Txt.join "" ys).cps.toList = (ys.map fun y => y.cps.toList).flatten := by
  rw [TL.join_eq]
  have z := TL.tl_join "" ys
  rw [show TL.tl (Str.ofString "") = [] from rfl, joinL_flat] at z
  exact z
theorem flat_len {n : Nat} : ∀ {l : List Str}, (∀ z ∈ l, z.length ≤ n) → (l.map (·.length)).sum ≤ n * l.length
  | [], _ => Nat.zero_le _
  | z :: l, h => by
    have a := flat_len fun y m => h y (List.mem_cons_of_mem _ m)
    have b := h z List.mem_cons_self
    rw [List.map_cons, List.sum_cons, List.length_cons, Nat.mul_succ]
    omega
theorem join_len (ys : List Str) : (Txt.join "" ys).length = (ys.map (·.length)).sum := by
  show (Txt.join "" ys).cps.size = _
  rw [← Array.length_toList, join_cps, List.length_flatten, List.map_map]
  rfl
def resV : Option Str → V
  | none => .non
  | some z => .str z
theorem scRes : FnScope ["cleaner", "text", "views", "state", "pieces", "sign", "view", "piece"] ["cleaner", "text"] (defScope (top iResult)) := ⟨rfl, rfl, rfl, by decide +kernel, rfl, by decide +kernel, by decide +kernel⟩
def spRes (K : PySem.W.Frag) (w : World) (C : Addr) : Sp := fun vs H Q _ => ∃ (x : Addr) (z : Str) (ws ls : List StD) (ds : List PyData) (zs : List V), vs = [.ref x, .str z] ∧ ClR K w C H x ws ls ds zs ∧ z.length ≤ 5000 ∧ sgAll z = true ∧
  ∀ H', Same H H' → Q (resV (resD ws ls ds z.cps.toList)) H'
theorem first_at {K : PySem.W.Frag} {w : World} {H : Hp} {Tw Tl : List Addr} {ws ls : List StD} {ds : List PyData} {zs : List V} (PA : PartsAt K w H Tw Tl ws ls ds zs) (cs : List Nat) :
    ∃ v, atI zs (hd0 (viewsL ls cs)) = some v ∧ ((v = .non ∧ firstQ ls ds cs = .none) ∨ ∃ q : Int, v = .int q ∧ firstQ ls ds cs = .int q ∧ 0 ≤ q ∧ q < ws.length) := by
  have hr := hd_range PA.ok cs
  have nf := PA.ok.nf
  have lt : (hd0 (viewsL ls cs)).toNat < ds.length := by omega
  have hd : ds[(hd0 (viewsL ls cs)).toNat]? = some (firstQ ls ds cs) := by
    unfold firstQ
    rw [List.getD_eq_getElem?_getD, List.getElem?_eq_getElem lt]
    rfl
  have zl := PA.fd.length
  have lz : (hd0 (viewsL ls cs)).toNat < zs.length := by omega
  have hz : zs[(hd0 (viewsL ls cs)).toNat]? = some zs[(hd0 (viewsL ls cs)).toNat] := List.getElem?_eq_getElem lz
  obtain ⟨d', hd', dv⟩ := PA.fd.get hz
  rw [hd] at hd'
  cases hd'
  have vw := PA.ok.f _ (List.mem_of_getElem? hd)
  have ix : atI zs (hd0 (viewsL ls cs)) = some zs[(hd0 (viewsL ls cs)).toNat] := by
    have e := atI_nat hz
    rwa [show ((((hd0 (viewsL ls cs)).toNat : Nat)) : Int) = hd0 (viewsL ls cs) by omega] at e
  refine ⟨_, ix, ?_⟩
  generalize zs[(hd0 (viewsL ls cs)).toNat] = v at dv
  generalize firstQ ls ds cs = d at dv vw
  cases dv with
  | non => exact .inl ⟨rfl, rfl⟩
  | int i =>
    have h : (decide (0 ≤ i) && decide (i ≤ (ws.length : Int) - 1)) = true := vw
    rw [Bool.and_eq_true, decide_eq_true_iff, decide_eq_true_iff] at h
    exact .inr ⟨i, rfl, rfl, h.1, by omega⟩
  | _ => cases vw
theorem pairs_get {ls : List StD} {cs : List Nat} {i : Nat} {c : Nat} {y : V} (h1 : cs[i]? = some c) (h2 : ((viewsL ls cs).tail.map V.int)[i]? = some y) : ∃ v, y = .int v ∧ (pairsL ls cs)[i]? = some (c, v) := by
  rw [List.getElem?_map] at h2
  obtain ⟨v, hv, rfl⟩ := Option.map_eq_some_iff.mp h2
  exact ⟨v, rfl, by unfold pairsL; rw [List.getElem?_zip_eq_some]; exact ⟨h1, hv⟩⟩
theorem pairs_mem {ls : List StD} {cs : List Nat} (h : ∀ c ∈ cs, c ∈ allSigns.cps.toList) : ∀ x ∈ pairsL ls cs, x.1 ∈ allSigns.cps.toList := fun x m => h _ (List.of_mem_zip m).1
section
variable {P : Program} {w : World} {K : PySem.W.Frag} {mg : Str → Option Value} {base : Heap} {f fV fW fL C : Addr} {fd fdV fdW fdL : FuncData}
theorem ok_res {k : Nat} (F : FnP K "result_of" iResult f fd) (T : ClK K C) (mzip : mg "zip" = none)
    (FV : FnOk P w K mg base CX0 (k + 1) fV fdV ["cleaner", "text"] (spViews K w C)) (gV : mg "views_at" = some (.ref fV)) (kV : PySem.W.keepIn K (.ref fV) = true) (bV : Binds K fdV ["cleaner", "text"] [])
    (FW : FnOk P w K mg base CX0 (k + 1) fW fdW ["cleaner", "state", "sign", "view"] (spWrAt K w C)) (gW : mg "written_at" = some (.ref fW)) (kW : PySem.W.keepIn K (.ref fW) = true) (bW : Binds K fdW ["cleaner", "state", "sign", "view"] [])
    (FL : FnOk P w K mg base CX0 (k + 1) fL fdL ["cleaner", "state"] (spLastAt K w C)) (gL : mg "last_at" = some (.ref fL)) (kL : PySem.W.keepIn K (.ref fL) = true) (bL : Binds K fdL ["cleaner", "state"] []) :
    FnOk P w K mg base CX0 (k + 2) f fd ["cleaner", "text"] (spRes K w C) := by
  refine F.ok scRes (fun vs H Q E h => ?_) (fun cdv A outer s H vs Q E hr h => ?_)
  · obtain ⟨x, z, ws, ls, ds, zs, rfl, _⟩ := h
    rfl
  · obtain ⟨x, z, ws, ls, ds, zs, rfl, R, zl, sg, q⟩ := h
    refine ⟨_, PSs.nox (pss_cons (ps_set (i := 2) scRes.nd rfl (.inl rfl) (pe_call FV hr (by rfl) gV kV bV .nil pass0 (pa_cons (pv 0) (pa_cons (pv 1) pa_nil))))
      (pss_cons (ps_set (i := 3) scRes.nd rfl (.inl rfl) (pe_ix ix_tup (pe_fld (pv 0) rfl) (pe_ix ix_list (pv 2) pe_int (fun _ _ => rfl)) (fun _ _ => rfl)))
      (pss_cons (ps_if (pt_cmp (pc_isN (pv 3))) (pss_one (ps_ret pe_non)) pss_nil)
      (pss_cons (ps_set (i := 4) scRes.nd rfl (.inl rfl) (pe_lst pa_nil))
      (C8.pss_cut (ps_for PassesOwn.never rfl (ZL.pi_zipS (by rfl) mzip (pa_cons (pv 1) (pa_cons (pe_slice sl_list (pv 2) (po_some pe_int) po_none) pa_nil))) (pg_tup rfl (pgs_cons (pg_name (i := 5) scRes.nd rfl (.inl rfl)) (pgs_cons (pg_name (i := 6) scRes.nd rfl (.inl rfl)) pgs_nil)))
        (pss_cons (ps_asg (pe_call FW hr (by rfl) gW kW bW .nil pass0 (pa_cons (pv 0) (pa_cons (pv 3) (pa_cons (pv 5) (pa_cons (pv 6) pa_nil))))) (pg_tup rfl (pgs_cons (pg_name (i := 7) scRes.nd rfl (.inl rfl)) (pgs_cons (pg_name (i := 3) scRes.nd rfl (.inl rfl)) pgs_nil))))
        (pss_one (ps_expr (pe_bm PySem.F.plainAttrs_list PySem.F.slot_list_append PySem.F.type_list_append mt_append (pv 4) (pa_cons (pv 7) pa_nil))))))
      (pss_one (ps_ret (pe_op op_add_str (pe_join pe_str (pv 4)) (pe_call FL hr (by rfl) gL kL bL .nil pass0 (pa_cons (pv 0) (pa_cons (pv 3) pa_nil))))))))))), ?_⟩
    have sl : sizeLine = 16777216 := sizeLine_eq
    obtain ⟨cs, hcs⟩ : ∃ cs, cs = z.cps.toList := ⟨_, rfl⟩
    have zn : z.cps.size = cs.length := by rw [hcs, Array.length_toList]
    have inS := sg_all sg
    rw [← hcs] at inS q
    refine ⟨_, rfl, _, rfl, x, z, ws, ls, ds, zs, rfl, R, zl, fun H1 l s1 hl => ?_⟩
    rw [← hcs] at hl
    obtain ⟨dx, tw, tl, to, f1, Tw, Tl, hx, hTw, hTl, hf, PA⟩ := (R.same s1).at_
    have O := PA.ok
    have vlen := viewsL_len ls cs
    obtain ⟨v0, ix0, hv0⟩ := first_at PA cs
    have ixl : atI ((viewsL ls cs).map V.int) 0 = some (.int (hd0 (viewsL ls cs))) := by
      have e : atI ((viewsL ls cs).map V.int) ((0 : Nat) : Int) = some (.int (hd0 (viewsL ls cs))) := atI_nat (by
        cases e : viewsL ls cs with
        | nil => exact absurd e (viewsL_ne ls cs)
        | cons a b => rfl)
      exact e
    refine ⟨_, rfl, x, C, dx, _, _, rfl, hx, T.cl, T.nf, rfl, _, rfl, l, _, 0, _, rfl, rfl, .of hl, ixl, f1, _, _, v0, rfl, rfl, hf, ix0, ?_⟩
    refine ⟨_, rfl, _, rfl, ite2 (fun e => ?_) (fun e => ?_)⟩
    · have e : v0 = .non := of_decide_eq_true e
      rcases hv0 with ⟨_, e2⟩ | ⟨qq, e2, _⟩
      · have er : resD ws ls ds cs = none := by
          unfold resD
          rw [e2]
        rw [er] at q
        exact q H1 s1
      · rw [e2] at e
        cases e
    have e : v0 ≠ .non := fun z => e (decide_eq_true z)
    obtain ⟨q0, rfl, e2, q1, q2⟩ := hv0.resolve_left fun z => e z.1
    have er : resD ws ls ds cs = some (Txt.join "" (goW ws q0 (pairsL ls cs)).1 ++ lastD (atS ws (goW ws q0 (pairsL ls cs)).2)) := by
      unfold resD
      rw [e2]
    rw [er] at q
    have np := pairsL_len ls cs
    have nyl : z.cps.size = ((viewsL ls cs).tail.map V.int).length := by rw [zn, List.length_map, List.length_tail, vlen]; omega
    refine ⟨by show 0 ≤ sizeLine; omega, fun pl npl => ?_⟩
    have u1 := same_upd (o := .lst []) npl
    have R1 := R.same (s1.trans u1)
    have hpl0 : H pl = none := back_none s1 npl
    -- the loop
    refine ⟨fun σ' H' => ∃ x5 x6 x7, σ' = [some (.ref x), some (.str z), some (.ref l), some (.int (goW ws q0 (pairsL ls cs)).2), some (.ref pl), x5, x6, x7] ∧ Same H H' ∧ H' pl = some (.lst ((goW ws q0 (pairsL ls cs)).1.map V.str)), ?_, ?_⟩
    · refine ⟨_, rfl, _, rfl, 1, rfl, l, _, rfl, .of (u1 _ _ hl), fun b nb => ⟨z, b, (viewsL ls cs).tail.map V.int, rfl, asc_of sg, .of ?_, ?_⟩⟩
      · rw [upd_same, show (1 : Int) = ((1 : Nat) : Int) from rfl, cut_suf, List.drop_one, List.map_tail]
      have u2 := same_upd (o := .lst (cutV ((viewsL ls cs).map V.int) (some 1) none)) nb
      have hb2 : upd (upd H1 pl (.lst [])) b (.lst (cutV ((viewsL ls cs).map V.int) (some 1) none)) b = some (.lst ((viewsL ls cs).tail.map V.int)) := by
        rw [upd_same, show (1 : Int) = ((1 : Nat) : Int) from rfl, cut_suf, List.drop_one, List.map_tail]
      have bpl : b ≠ pl := fun e => by rw [e, upd_same] at nb; cases nb
      have u02 := s1.trans (u1.trans u2)
      refine for_it (ZL.walk_zipS nyl) (fun i σ' H' => ∃ x5 x6 x7, σ' = [some (.ref x), some (.str z), some (.ref l), some (.int (goW ws q0 ((pairsL ls cs).take i)).2), some (.ref pl), x5, x6, x7] ∧ Same H H' ∧ H' pl = some (.lst ((goW ws q0 ((pairsL ls cs).take i)).1.map V.str)) ∧ H' b = some (.lst ((viewsL ls cs).tail.map V.int)))
        ⟨none, none, none, rfl, u02, u2 _ _ upd_same, hb2⟩ (fun i σ' H' _ hP => ?_) (fun i y σ' H' H'' hi hP hY => ?_) (fun σ' H' hP => ?_)
      · obtain ⟨_, _, _, _, _, _, hb⟩ := hP
        exact .of hb
      · obtain ⟨x5, x6, x7, rfl, s3, hpl, hb⟩ := hP
        obtain ⟨T1, c, y, rfl, nT, rfl, hc, hy⟩ := hY
        have hc2 : cs[i]? = some c := by rw [hcs, Array.getElem?_toList]; exact hc
        obtain ⟨v, rfl, hpr⟩ := pairs_get hc2 hy
        obtain ⟨g1, g2, g3, g4⟩ := goW_range O q1 q2 _ ((pairsL ls cs).take i) rfl fun y m => pairs_mem inS y (List.mem_of_mem_take m)
        have es := goW_succ (ws := ws) (q := q0) hpr
        have uT := same_upd (o := .tup [oneV c, .int v]) nT
        have s4 := s3.trans uT
        refine ⟨T1, _, rfl, .of upd_same, rfl, _, _, rfl, _, _, rfl, rfl, ?_⟩
        refine ⟨_, rfl, _, rfl, _, rfl, _, rfl, x, _, c, v, ws, ls, ds, zs, rfl, R.same s4, g1, g2, fun H5 T2 s5 hT2 => ?_⟩
        refine ⟨T2, _, rfl, hT2, rfl, _, _, rfl, _, _, rfl, rfl, ?_⟩
        have hpl5 := s5 _ _ (uT _ _ hpl)
        refine ⟨_, rfl, .inl ⟨rfl, _, .of hpl5⟩, _, rfl, pl, _, _, rfl, rfl, hpl5, by rw [List.length_map, g3, List.length_take]; have : z.cps.size ≤ 5000 := zl; omega, ?_⟩
        rw [es]
        refine ⟨_, _, _, rfl, fun y o u => ?_, ?_, ?_⟩
        · rw [upd_ne (ne_of_none u hpl0)]
          exact s5 _ _ (s4 _ _ u)
        · rw [upd_same]
          show _ = some (HO.lst (((goW ws q0 ((pairsL ls cs).take i)).1 ++ [_]).map V.str))
          rw [List.map_append]
          rfl
        · rw [upd_ne bpl]
          exact s5 _ _ (uT _ _ hb)
      · obtain ⟨x5, x6, x7, rfl, s3, hpl, hb⟩ := hP
        rw [List.length_map, List.length_tail, vlen, show cs.length + 1 - 1 = (pairsL ls cs).length by omega, List.take_length] at hpl
        refine ⟨x5, x6, x7, ?_, s3, hpl⟩
        rw [List.length_map, List.length_tail, vlen, show cs.length + 1 - 1 = (pairsL ls cs).length by omega, List.take_length]
    rintro σ1 H2 ⟨x5, x6, x7, rfl, s2, hpl⟩
    obtain ⟨g1, g2, g3, g4⟩ := goW_range O q1 q2 _ (pairsL ls cs) rfl (pairs_mem inS)
    have sum2 := flat_len (n := 2) fun y m => (g4 y m).2
    have z5 : z.cps.size ≤ 5000 := zl
    have ll := (last_range (O.w _ (atS_mem g1 g2).2)).2
    have jl := join_len (goW ws q0 (pairsL ls cs)).1
    refine ⟨⟨_, rfl⟩, _, rfl, _, _, (goW ws q0 (pairsL ls cs)).1, rfl, rfl, .inl (.of hpl), by show _ + _ * 0 ≤ _; omega, ?_⟩
    exact ⟨_, rfl, _, rfl, x, _, ws, ls, ds, zs, rfl, R.same s2, g1, g2, _, _, rfl, rfl, by omega, q H2 s2⟩
end
end K0
end
/-! ### SA -/
section
set_option Elab.async false
set_option linter.all false
set_option maxRecDepth 100000
set_option maxHeartbeats 4000000
/-! states_along. -/
namespace K0
open PySem PySem.Spec PyProof.Rows L2
open MD (dM KeysV KeyV)
theorem str_ext {a b : Str} (h : a.cps.toList = b.cps.toList) : a = b := by
  obtain ⟨⟨l⟩⟩ := a
  obtain ⟨⟨m⟩⟩ := b
  have h : l = m := h
  rw [h]
theorem join_snoc (ys : List Str) (z : Str) : Txt.join "" (ys ++ [z]) = Txt.join "" ys ++ z := by
  refine str_ext ?_
  rw [join_cps]
  have e := TL.tl_append (Txt.join "" ys) z
  have e2 : (Txt.join "" ys ++ z).cps.toList = (Txt.join "" ys).cps.toList ++ z.cps.toList := e
  rw [e2, join_cps, List.map_append, List.flatten_append]
  simp
/-- a step's state and what is written so far -/
def walkP (ws : List StD) (q : Int) (P : List (Nat × Int)) (i : Nat) : PyData := .tuple [.int (goW ws q (P.take i)).2, .str (Txt.join "" (goW ws q (P.take i)).1)]
def walkD (ws ls : List StD) (ds : List PyData) (cs : List Nat) : List PyData := match firstQ ls ds cs with
  | .int q => (List.range (cs.length + 1)).map (walkP ws q (pairsL ls cs))
  | _ => []
theorem scStates : FnScope ["cleaner", "text", "views", "state", "walk", "written", "sign", "view", "piece"] ["cleaner", "text"] (defScope (top iStates)) := ⟨rfl, rfl, rfl, by decide +kernel, rfl, by decide +kernel, by decide +kernel⟩
def spStates (K : PySem.W.Frag) (w : World) (C : Addr) : Sp := fun vs H Q _ => ∃ (x : Addr) (z : Str) (ws ls : List StD) (ds : List PyData) (zs : List V), vs = [.ref x, .str z] ∧ ClR K w C H x ws ls ds zs ∧ z.length ≤ 5000 ∧ sgAll z = true ∧
  ∀ H' l vs, Same H H' → H' l = some (.lst vs) → DvAll K H' vs (walkD ws ls ds z.cps.toList) → Q (.ref l) H'
section
variable {P : Program} {w : World} {K : PySem.W.Frag} {mg : Str → Option Value} {base : Heap} {f fV fW C : Addr} {fd fdV fdW : FuncData}
theorem ok_states {k : Nat} (F : FnP K "states_along" iStates f fd) (T : ClK K C) (mzip : mg "zip" = none)
    (FV : FnOk P w K mg base CX0 (k + 1) fV fdV ["cleaner", "text"] (spViews K w C)) (gV : mg "views_at" = some (.ref fV)) (kV : PySem.W.keepIn K (.ref fV) = true) (bV : Binds K fdV ["cleaner", "text"] [])
    (FW : FnOk P w K mg base CX0 (k + 1) fW fdW ["cleaner", "state", "sign", "view"] (spWrAt K w C)) (gW : mg "written_at" = some (.ref fW)) (kW : PySem.W.keepIn K (.ref fW) = true) (bW : Binds K fdW ["cleaner", "state", "sign", "view"] []) :
    FnOk P w K mg base CX0 (k + 2) f fd ["cleaner", "text"] (spStates K w C) := by
  refine F.ok scStates (fun vs H Q E h => ?_) (fun cdv A outer s H vs Q E hr h => ?_)
  · obtain ⟨x, z, ws, ls, ds, zs, rfl, _⟩ := h
    rfl
  · obtain ⟨x, z, ws, ls, ds, zs, rfl, R, zl, sg, q⟩ := h
    refine ⟨_, PSs.nox (pss_cons (ps_set (i := 2) scStates.nd rfl (.inl rfl) (pe_call FV hr (by rfl) gV kV bV .nil pass0 (pa_cons (pv 0) (pa_cons (pv 1) pa_nil))))
      (pss_cons (ps_set (i := 3) scStates.nd rfl (.inl rfl) (pe_ix ix_tup (pe_fld (pv 0) rfl) (pe_ix ix_list (pv 2) pe_int (fun _ _ => rfl)) (fun _ _ => rfl)))
      (pss_cons (ps_if (pt_cmp (pc_isN (pv 3))) (pss_one (ps_ret (pe_lst pa_nil))) pss_nil)
      (pss_cons (ps_set (i := 4) scStates.nd rfl (.inl rfl) (pe_lst (pa_cons (pe_tup (pa_cons (pv 3) (pa_cons pe_str pa_nil))) pa_nil)))
      (pss_cons (ps_set (i := 5) scStates.nd rfl (.inl rfl) pe_str)
      (C8.pss_cut (ps_for PassesOwn.never rfl (ZL.pi_zipS (by rfl) mzip (pa_cons (pv 1) (pa_cons (pe_slice sl_list (pv 2) (po_some pe_int) po_none) pa_nil))) (pg_tup rfl (pgs_cons (pg_name (i := 6) scStates.nd rfl (.inl rfl)) (pgs_cons (pg_name (i := 7) scStates.nd rfl (.inl rfl)) pgs_nil)))
        (pss_cons (ps_asg (pe_call FW hr (by rfl) gW kW bW .nil pass0 (pa_cons (pv 0) (pa_cons (pv 3) (pa_cons (pv 6) (pa_cons (pv 7) pa_nil))))) (pg_tup rfl (pgs_cons (pg_name (i := 8) scStates.nd rfl (.inl rfl)) (pgs_cons (pg_name (i := 3) scStates.nd rfl (.inl rfl)) pgs_nil))))
        (pss_cons (ps_set (i := 5) scStates.nd rfl (.inl rfl) (pe_op op_add_str (pv 5) (pv 8)))
        (pss_one (ps_expr (pe_bm PySem.F.plainAttrs_list PySem.F.slot_list_append PySem.F.type_list_append mt_append (pv 4) (pa_cons (pe_tup (pa_cons (pv 3) (pa_cons (pv 5) pa_nil))) pa_nil)))))))
      (pss_one (ps_ret (pv 4))))))))), ?_⟩
    have sl : sizeLine = 16777216 := sizeLine_eq
    obtain ⟨cs, hcs⟩ : ∃ cs, cs = z.cps.toList := ⟨_, rfl⟩
    have zn : z.cps.size = cs.length := by rw [hcs, Array.length_toList]
    have inS := sg_all sg
    rw [← hcs] at inS q
    refine ⟨_, rfl, _, rfl, x, z, ws, ls, ds, zs, rfl, R, zl, fun H1 l s1 hl => ?_⟩
    rw [← hcs] at hl
    obtain ⟨dx, tw, tl, to, f1, Tw, Tl, hx, hTw, hTl, hf, PA⟩ := (R.same s1).at_
    have O := PA.ok
    have vlen := viewsL_len ls cs
    obtain ⟨v0, ix0, hv0⟩ := first_at PA cs
    have ixl : atI ((viewsL ls cs).map V.int) 0 = some (.int (hd0 (viewsL ls cs))) := by
      have e : atI ((viewsL ls cs).map V.int) ((0 : Nat) : Int) = some (.int (hd0 (viewsL ls cs))) := atI_nat (by
        cases e : viewsL ls cs with
        | nil => exact absurd e (viewsL_ne ls cs)
        | cons a b => rfl)
      exact e
    refine ⟨_, rfl, x, C, dx, _, _, rfl, hx, T.cl, T.nf, rfl, _, rfl, l, _, 0, _, rfl, rfl, .of hl, ixl, f1, _, _, v0, rfl, rfl, hf, ix0, ?_⟩
    refine ⟨_, rfl, _, rfl, ite2 (fun e => ?_) (fun e => ?_)⟩
    · have e : v0 = .non := of_decide_eq_true e
      rcases hv0 with ⟨_, e2⟩ | ⟨qq, e2, _⟩
      · have er : walkD ws ls ds cs = [] := by
          unfold walkD
          rw [e2]
        rw [er] at q
        exact ⟨by show 0 ≤ sizeLine; omega, fun pl npl => q _ pl [] (s1.trans (same_upd npl)) upd_same .nil⟩
      · rw [e2] at e
        cases e
    have e : v0 ≠ .non := fun z => e (decide_eq_true z)
    obtain ⟨q0, rfl, e2, q1, q2⟩ := hv0.resolve_left fun z => e z.1
    have er : walkD ws ls ds cs = (List.range (cs.length + 1)).map (walkP ws q0 (pairsL ls cs)) := by
      unfold walkD
      rw [e2]
    rw [er] at q
    have np := pairsL_len ls cs
    have nyl : z.cps.size = ((viewsL ls cs).tail.map V.int).length := by rw [zn, List.length_map, List.length_tail, vlen]; omega
    refine ⟨_, rfl, by show 2 ≤ sizeLine; omega, fun t0 nt0 => ⟨by show 1 ≤ sizeLine; omega, fun pl npl => ?_⟩⟩
    have u0 := same_upd (o := .tup [.int q0, .str ""]) nt0
    have u1 := same_upd (o := .lst [.ref t0]) npl
    have hpl1 : H1 pl = none := back_none u0 npl
    have hpl0 : H pl = none := back_none s1 hpl1
    have t0pl : t0 ≠ pl := fun e => by rw [e, upd_same] at npl; cases npl
    have z5 : z.cps.size ≤ 5000 := zl
    -- the loop
    refine ⟨fun σ' H' => ∃ x3 x5 x6 x7 x8 vs, σ' = [some (.ref x), some (.str z), some (.ref l), x3, some (.ref pl), x5, x6, x7, x8] ∧ Same H H' ∧ H' pl = some (.lst vs) ∧ DvAll K (hid pl H') vs ((List.range (cs.length + 1)).map (walkP ws q0 (pairsL ls cs))), ?_, ?_⟩
    · refine ⟨_, rfl, _, rfl, 1, rfl, l, _, rfl, .of (u1 _ _ (u0 _ _ hl)), fun b nb => ⟨z, b, (viewsL ls cs).tail.map V.int, rfl, asc_of sg, .of ?_, ?_⟩⟩
      · rw [upd_same, show (1 : Int) = ((1 : Nat) : Int) from rfl, cut_suf, List.drop_one, List.map_tail]
      have u2 := same_upd (o := .lst (cutV ((viewsL ls cs).map V.int) (some 1) none)) nb
      obtain ⟨H2, hH2⟩ : ∃ H2, H2 = upd (upd (upd H1 t0 (.tup [.int q0, .str ""])) pl (.lst [.ref t0])) b (.lst (cutV ((viewsL ls cs).map V.int) (some 1) none)) := ⟨_, rfl⟩
      have hb2 : H2 b = some (.lst ((viewsL ls cs).tail.map V.int)) := by
        rw [hH2, upd_same, show (1 : Int) = ((1 : Nat) : Int) from rfl, cut_suf, List.drop_one, List.map_tail]
      have bpl : b ≠ pl := fun e => by rw [e, upd_same] at nb; cases nb
      have u02 : Same H H2 := by rw [hH2]; exact s1.trans (u0.trans (u1.trans u2))
      have hp2 : H2 pl = some (.lst [.ref t0]) := by rw [hH2]; exact u2 _ _ upd_same
      have ht2 : H2 t0 = some (.tup [.int q0, .str ""]) := by rw [hH2]; exact u2 _ _ (u1 _ _ upd_same)
      rw [← hH2]
      refine for_it (ZL.walk_zipS nyl) (fun i σ' H' => ∃ x6 x7 x8 vs, σ' = [some (.ref x), some (.str z), some (.ref l), some (.int (goW ws q0 ((pairsL ls cs).take i)).2), some (.ref pl), some (.str (Txt.join "" (goW ws q0 ((pairsL ls cs).take i)).1)), x6, x7, x8] ∧ Same H H' ∧ H' pl = some (.lst vs) ∧ DvAll K (hid pl H') vs ((List.range (i + 1)).map (walkP ws q0 (pairsL ls cs))) ∧ H' b = some (.lst ((viewsL ls cs).tail.map V.int)))
        ⟨none, none, none, [.ref t0], rfl, u02, hp2, .cons (.tup (.of (by rw [hid_ne t0pl]; exact ht2)) (.cons (.int _) (.cons (.str _) .nil))) .nil, hb2⟩ (fun i σ' H' _ hP => ?_) (fun i y σ' H' H'' hi hP hY => ?_) (fun σ' H' hP => ?_)
      · obtain ⟨_, _, _, _, _, _, _, _, hb⟩ := hP
        exact .of hb
      · obtain ⟨x6, x7, x8, vs, rfl, s3, hpl, dv, hb⟩ := hP
        obtain ⟨T1, c, y, rfl, nT, rfl, hc, hy⟩ := hY
        have hc2 : cs[i]? = some c := by rw [hcs, Array.getElem?_toList]; exact hc
        obtain ⟨v, rfl, hpr⟩ := pairs_get hc2 hy
        have lt : i < cs.length := (List.getElem?_eq_some_iff.mp hc2).1
        obtain ⟨g1, g2, g3, g4⟩ := goW_range O q1 q2 _ ((pairsL ls cs).take i) rfl fun y m => pairs_mem inS y (List.mem_of_mem_take m)
        have wr := wrD_range (O.w _ (atS_mem g1 g2).2) (inS c (List.mem_of_getElem? hc2)) v
        have es := goW_succ (ws := ws) (q := q0) hpr
        have uT := same_upd (o := .tup [oneV c, .int v]) nT
        have s4 := s3.trans uT
        have sum2 := flat_len (n := 2) fun y m => (g4 y m).2
        have jl := join_len (goW ws q0 ((pairsL ls cs).take i)).1
        have l3 : (goW ws q0 ((pairsL ls cs).take i)).1.length ≤ 5000 := by
          rw [g3, List.length_take]
          omega
        refine ⟨T1, _, rfl, .of upd_same, rfl, _, _, rfl, _, _, rfl, rfl, ?_⟩
        refine ⟨_, rfl, _, rfl, _, rfl, _, rfl, x, _, c, v, ws, ls, ds, zs, rfl, R.same s4, g1, g2, fun H5 T2 s5 hT2 => ?_⟩
        refine ⟨T2, _, rfl, hT2, rfl, _, _, rfl, _, _, rfl, rfl, ?_⟩
        have hpl5 := s5 _ _ (uT _ _ hpl)
        refine ⟨_, rfl, _, rfl, _, _, rfl, rfl, by omega, ?_⟩
        refine ⟨_, rfl, .inl ⟨rfl, _, .of hpl5⟩, _, rfl, _, rfl, by show 2 ≤ sizeLine; omega, fun T3 nT3 => ?_⟩
        have u3 := same_upd (o := .tup [.int (wrD (atS ws (goW ws q0 ((pairsL ls cs).take i)).2) c v).2, .str (Txt.join "" (goW ws q0 ((pairsL ls cs).take i)).1 ++ (wrD (atS ws (goW ws q0 ((pairsL ls cs).take i)).2) c v).1)]) nT3
        have hpl6 := u3 _ _ hpl5
        have vl := dv.length
        rw [List.length_map, List.length_range] at vl
        have T3pl : T3 ≠ pl := fun e => by rw [e, hpl5] at nT3; cases nT3
        refine ⟨pl, _, _, rfl, rfl, hpl6, by omega, ?_⟩
        have e3 : walkP ws q0 (pairsL ls cs) (i + 1) = .tuple [.int (wrD (atS ws (goW ws q0 ((pairsL ls cs).take i)).2) c v).2, .str (Txt.join "" (goW ws q0 ((pairsL ls cs).take i)).1 ++ (wrD (atS ws (goW ws q0 ((pairsL ls cs).take i)).2) c v).1)] := by
          unfold walkP
          rw [es]
          unfold stepW
          rw [join_snoc]
        refine ⟨some (oneV c), some (.int v), some (.str (wrD (atS ws (goW ws q0 ((pairsL ls cs).take i)).2) c v).1), vs ++ [.ref T3], ?_, fun y o u => ?_, upd_same, ?_, ?_⟩
        · rw [es]
          unfold stepW
          rw [join_snoc]
          rfl
        · rw [upd_ne (ne_of_none u hpl0)]
          exact u3 _ _ (s5 _ _ (s4 _ _ u))
        · rw [List.range_succ, List.map_append]
          have sh : ∀ {Ha Hb : Hp}, Same Ha Hb → Same (hid pl Ha) (hid pl (upd Hb pl (.lst (vs ++ [.ref T3])))) := fun s => hid_same fun y o n e => by
            rw [upd_ne n]
            exact s _ _ e
          refine DvAll.append (DvAll.same (sh (uT.trans (s5.trans u3))) _ _ dv) (.cons ?_ .nil)
          rw [e3]
          exact .tup (.of (by rw [hid_ne T3pl, upd_ne T3pl, upd_same])) (.cons (.int _) (.cons (.str _) .nil))
        · rw [upd_ne bpl]
          exact u3 _ _ (s5 _ _ (uT _ _ hb))
      · obtain ⟨x6, x7, x8, vs, rfl, s3, hpl, dv, hb⟩ := hP
        rw [List.length_map, List.length_tail, vlen, show cs.length + 1 - 1 = cs.length by omega] at dv
        exact ⟨_, _, x6, x7, x8, vs, rfl, s3, hpl, dv⟩
    rintro σ1 H2 ⟨x3, x5, x6, x7, x8, vs, rfl, s2, hpl, dv⟩
    exact ⟨_, rfl, q H2 pl vs s2 hpl (DvAll.same hid_out _ _ dv)⟩
end
end K0
end
/-! ### LV -/
section
set_option Elab.async false
set_option linter.all false
set_option maxRecDepth 100000
set_option maxHeartbeats 4000000
/-! _law_views, _law_result, _law_walk. -/
namespace K0
open PySem PySem.Spec PyProof.Rows L2
open MD (dM KeysV KeyV)
/-- a plain cleaner with all that it stands on -/
structure PlainAt (K : PySem.W.Frag) (w : World) (H : Hp) (t : Addr) (ws ls : List StD) (ds : List PyData) (zs : List V) : Prop where
  at_ : ∃ (R B S : Addr) (Tw Tl : List Addr), SqT K H t [.ref R, .ref B, .ref S] ∧ SqL K H R (Tw.map V.ref) ∧ SqL K H B (Tl.map V.ref) ∧ SqL K H S zs ∧ PartsAt K w H Tw Tl ws ls ds zs
theorem PlainAt.same {K : PySem.W.Frag} {w : World} {H H' : Hp} {t : Addr} {ws ls : List StD} {ds : List PyData} {zs : List V} (h : PlainAt K w H t ws ls ds zs) (e : Same H H') : PlainAt K w H' t ws ls ds zs := by
  obtain ⟨R, B, S, Tw, Tl, h1, h2, h3, h4, h5⟩ := h.at_
  exact ⟨R, B, S, Tw, Tl, same_tup e h1, e.seq h2, e.seq h3, e.seq h4, h5.same e⟩
theorem stx_kept {K : PySem.W.Frag} {w : World} {H : Hp} {n : Nat} {v : V} : ∀ {s : StD}, StX K w H n v s → fewS s → ∃ T, v = .ref T ∧ KeptRow K w H T s ∧ StOk K H s
  | .bad, _, g => g.elim
  | .good rs ys ds, h, _ => by
    obtain ⟨a, m, rfl, h1, h2, h3, h4, h5, h6⟩ := h
    exact ⟨a, rfl, ⟨m, _, h1, h4, .refl _, h5.ks⟩, h5, h2⟩
theorem stxs_kept {K : PySem.W.Frag} {w : World} {H : Hp} {n : Nat} : ∀ {xs : List V} {ss : List StD}, Paired (StX K w H n) xs ss → (∀ s ∈ ss, fewS s) → ∃ Ts : List Addr, xs = Ts.map V.ref ∧ Paired (KeptRow K w H) Ts ss ∧ ∀ s ∈ ss, StOk K H s
  | _, _, .nil, _ => ⟨[], rfl, .nil, fun _ m => nomatch m⟩
  | _, _, .cons h t, g => by
    obtain ⟨T, rfl, k, o⟩ := stx_kept h (g _ List.mem_cons_self)
    obtain ⟨Ts, rfl, ks, os⟩ := stxs_kept t fun s m => g s (List.mem_cons_of_mem _ m)
    exact ⟨T :: Ts, rfl, .cons k ks, fun s m => (List.mem_cons.mp m).elim (fun e => by rw [e]; exact o) (os s)⟩
theorem WildAt.plain {K : PySem.W.Frag} {w : World} {H : Hp} {t R B S : Addr} {xs ys zs : List V} {ws ls : List StD} {ds : List PyData} (h : WildAt K w H t R B S xs ys zs ws ls ds) (o : WildOk ws ls ds) : PlainAt K w H t ws ls ds zs := by
  obtain ⟨Tw, rfl, k1, o1⟩ := stxs_kept h.rows o.fw
  obtain ⟨Tl, rfl, k2, o2⟩ := stxs_kept h.back o.fl
  exact ⟨R, B, S, Tw, Tl, h.tup, h.rl, h.bl, h.sl, o.clean, k1, k2, o1, o2, h.starts⟩
theorem clR_of {K : PySem.W.Frag} {w : World} {C : Addr} {H : Hp} {x t fv : Addr} {ws ls : List StD} {ds : List PyData} {zs : List V} (ca : CleanerAt K w C H x ws ls (.ref fv)) (hf : SqT K H fv zs) (h : PlainAt K w H t ws ls ds zs) : ClR K w C H x ws ls ds zs := by
  obtain ⟨R, B, S, Tw, Tl, _, _, _, _, PA⟩ := h.at_
  obtain ⟨dx, tw, tl, to, h1, ⟨Uw, h2, k2⟩, ⟨Ul, h3, k3⟩⟩ := ca
  exact ⟨dx, tw, tl, to, fv, Uw, Ul, h1, h2, h3, hf, PA.ok, k2, k3, PA.rw, PA.rl, PA.fd⟩
theorem scLViews : FnScope ["cleaner", "text", "found", "sign", "moves", "other"] ["cleaner", "text"] (defScope (top iLViews)) := ⟨rfl, rfl, rfl, by decide +kernel, rfl, by decide +kernel, by decide +kernel⟩
def spLViews (K : PySem.W.Frag) (w : World) : Sp := fun vs H Q _ => ∃ (t : Addr) (z : Str) (ws ls : List StD) (ds : List PyData) (zs : List V), vs = [.ref t, .str z] ∧ PlainAt K w H t ws ls ds zs ∧ z.length ≤ 5000 ∧
  ∀ H' l, Same H H' → H' l = some (.lst ((viewsL ls z.cps.toList).map V.int)) → Q (.ref l) H'
theorem atI_0 {v : V} {vs : List V} : atI (v :: vs) 0 = some v := by
  have e : atI (v :: vs) ((0 : Nat) : Int) = some v := atI_nat rfl
  exact e
theorem head_views (ls : List StD) (cs : List Nat) : ∃ r, (viewsL ls cs).map V.int = .int (hd0 (viewsL ls cs)) :: r := by
  cases e : viewsL ls cs with
  | nil => exact absurd e (viewsL_ne ls cs)
  | cons a b => exact ⟨b.map V.int, rfl⟩
section
variable {P : Program} {w : World} {K : PySem.W.Frag} {mg : Str → Option Value} {base : Heap} {f fV : Addr} {fd fdV : FuncData}
theorem ok_lviews {k : Nat} (F : FnP K "_law_views" iLViews f fd) : FnOk P w K mg base CX0 (k + 1) f fd ["cleaner", "text"] (spLViews K w) := by
  refine F.ok scLViews (fun vs H Q E h => ?_) (fun cdv A outer s H vs Q E hr h => ?_)
  · obtain ⟨x, z, ws, ls, ds, zs, rfl, _⟩ := h
    rfl
  · obtain ⟨x, z, ws, ls, ds, zs, rfl, R, zl, q⟩ := h
    refine ⟨_, PSs.nox (pss_cons (ps_set (i := 2) scLViews.nd rfl (.inl rfl) (pe_lst (pa_cons pe_int pa_nil)))
      (C8.pss_cut (ps_for PassesOwn.never rfl (pi_str (TR.pe_revS (pv 1))) (pg_name (i := 3) scLViews.nd rfl (.inl rfl))
        (pss_cons (ps_asg (pe_ix ix_list (pe_ix ix_tup (pv 0) pe_int (fun _ _ => rfl)) (pe_ix ix_list (pv 2) pe_int (fun _ _ => rfl)) (fun _ _ => rfl)) (pg_tup rfl (pgs_cons (pg_name (i := 4) scLViews.nd rfl (.inl rfl)) (pgs_cons (pg_name (i := 5) scLViews.nd rfl (.inl rfl)) pgs_nil))))
        (pss_one (ps_expr (pe_bm PySem.F.plainAttrs_list PySem.F.slot_list_insert PySem.F.type_list_insert mt_insert (pv 2) (pa_cons pe_int (pa_cons (MD.pe_mget2 hr.units (pv 4) (pv 3) (pv 5) ⟨rfl, rfl, rfl, rfl⟩) pa_nil)))))))
      (pss_one (ps_ret (pv 2))))), ?_⟩
    have sl : sizeLine = 16777216 := sizeLine_eq
    obtain ⟨RR, B, S, Tw, Tl, hT, hR, hB, hS, PA⟩ := id R.at_
    have O := PA.ok
    refine ⟨by show 1 ≤ sizeLine; omega, fun l nl => ?_⟩
    obtain ⟨cs, hcs⟩ : ∃ cs, cs = z.cps.toList := ⟨_, rfl⟩
    have zn : z.cps.size = cs.length := by rw [hcs, Array.length_toList]
    have rn : (TR.revS z).cps.size = cs.length := by
      show z.cps.toList.reverse.toArray.size = _
      rw [List.size_toArray, List.length_reverse, hcs]
    have le5 : cs.length ≤ 5000 := by
      have : z.cps.size ≤ 5000 := zl
      omega
    refine ⟨fun σ' H' => ∃ x3 x4 x5, σ' = [some (.ref x), some (.str z), some (.ref l), x3, x4, x5] ∧ Same H H' ∧ H' l = some (.lst ((viewsL ls cs).map V.int)), ?_, ?_⟩
    · refine ⟨_, rfl, z, rfl, by show z.cps.size ≤ sizeLine; omega, TR.revS z, rfl, for_it walk_str (fun i σ' H' => ∃ x3 x4 x5, σ' = [some (.ref x), some (.str z), some (.ref l), x3, x4, x5] ∧ Same H H' ∧ H' l = some (.lst ((viewsL ls (cs.reverse.take i).reverse).map V.int)))
        ⟨none, none, none, rfl, same_upd nl, upd_same⟩ (fun _ _ _ _ _ => trivial) (fun i y σ' H1 H2 hi hP hY => ?_) (fun σ' H1 hP => ?_)⟩
      · obtain ⟨x3, x4, x5, rfl, s1, hl⟩ := hP
        obtain ⟨rfl, c, hc, rfl⟩ := hY
        have hc2 : cs.reverse[i]? = some c := by
          have hc : z.cps.toList.reverse.toArray[i]? = some c := hc
          rw [List.getElem?_toArray, ← hcs] at hc
          exact hc
        obtain ⟨A, hA⟩ : ∃ A, A = (cs.reverse.take i).reverse := ⟨_, rfl⟩
        have eA : (cs.reverse.take (i + 1)).reverse = c :: A := by
          rw [List.take_add_one, hc2, List.reverse_append, hA]
          rfl
        rw [← hA] at hl
        have lA : A.length ≤ 5000 := by
          rw [hA, List.length_reverse, List.length_take, List.length_reverse]
          omega
        have hr := hd_range O A
        obtain ⟨hs, ms⟩ := atS_mem hr.1 hr.2
        obtain ⟨T1, hT1, kr⟩ := MD.paired_get PA.kl hs
        obtain ⟨d, o, rows, b1, b2, b3, b4⟩ := look_at (kr.same s1) ((PA.rl _ ms).same s1) (O.l _ ms)
        obtain ⟨rv, erv⟩ := head_views ls A
        have ix0 : atI ((viewsL ls A).map V.int) 0 = some (.int (hd0 (viewsL ls A))) := by rw [erv]; exact atI_0
        refine ⟨_, rfl, x, _, 1, _, rfl, rfl, same_tup s1 hT, rfl, _, rfl, l, _, 0, _, rfl, rfl, .of hl, ix0, B, _, _, _, rfl, rfl, s1.seq hB, ix_at hr.1 hT1, ?_⟩
        refine ⟨T1, _, rfl, b1, rfl, _, _, rfl, _, _, rfl, rfl, ?_⟩
        refine ⟨_, rfl, .inl ⟨rfl, _, .of hl⟩, _, rfl, d, rfl, ⟨rows, b2⟩, _, rfl, _, rfl, .text (oneS c), rows, b2, b3, .atom rfl, (by show 0 ≤ 8; decide), ?_⟩
        have b4 := b4 c
        refine ⟨l, _, 0, _, rfl, rfl, hl, by rw [List.length_map, viewsL_len]; omega, by decide, by decide, _, _, _, rfl, fun y o u => ?_, ?_⟩
        · rw [upd_ne (ne_of_none u nl)]
          exact s1 _ _ u
        · rw [upd_same, eA, b4]
          rfl
      · obtain ⟨x3, x4, x5, rfl, s1, hl⟩ := hP
        rw [rn, ← List.length_reverse (as := cs), List.take_length, List.reverse_reverse] at hl
        exact ⟨_, _, _, rfl, s1, hl⟩
    rintro σ1 H1 ⟨x3, x4, x5, rfl, s1, hl⟩
    rw [hcs] at hl
    exact ⟨_, rfl, q _ l s1 hl⟩
end
end K0
end
/-! ### ES -/
section
set_option Elab.async false
set_option linter.all false
set_option maxRecDepth 100000
set_option maxHeartbeats 4000000
/-! enumerate(z) of a text. -/
namespace ET
open PySem PySem.Spec PyProof.Rows L2
/-- pairs of the place and the sign, each a new tuple -/
def Ites (z : Str) : It :=
  ⟨fun i H => i < z.cps.size, fun i H x H' => ∃ T c, x = .ref T ∧ H T = none ∧ H' = upd H T (.tup [.int (i : Nat), .str ⟨#[c]⟩]) ∧ z.cps[i]? = some c, fun i H => z.cps.size ≤ i⟩
theorem turn_enumS {P : Program} {w : World} {K : PySem.W.Frag} {elts : List Expr} {kk : Nat} {tpos : Pos} (z : Str) (t : Tok) (e it : Addr) :
    Turn P w K (.Tuple elts kk tpos) (Ites z) [e, it] e (fun i h => (∃ old, IsEnum h e it ((i : Nat) : Int) old) ∧ h.IsStrIter it (strIterType z) z t i ∧ e ≠ it ∧ i ≤ z.cps.size) where
  mem := by simp
  obj := fun i h st b hb => by
    obtain ⟨⟨old, he⟩, ⟨o, ho, hc, hd⟩, _⟩ := st
    rcases (show b = e ∨ b = it by simpa using hb) with z | z
    · rw [z]; exact ⟨_, he, fun v q => nomatch q⟩
    · rw [z]; exact ⟨o, ho, fun v q => by rw [hd] at q; exact nomatch q⟩
  keep := fun i h h' st k => let ⟨⟨old, he⟩, ⟨o, ho, r⟩, ne⟩ := st; ⟨⟨old, k e (by simp) _ he⟩, ⟨o, k it (by simp) o ho, r⟩, ne.1, ne.2⟩
  item := by
    intro X hP hw hK calm i pins s σ H E I far st go
    subst hP hw hK
    obtain ⟨⟨old, he⟩, hit, ne, lei⟩ := st
    have lt : i < z.cps.size := go
    have hel : e < s.heap.objs.size := Heap.lt_size he
    have hil : it < s.heap.objs.size := by obtain ⟨_, q, _⟩ := hit; exact Heap.lt_size q
    have D : Draws X.prog X.w X.A.in1 it [it] z.cps.size (fun i v => ∃ c u, z.cps[i]? = some c ∧ v = .str ⟨#[c]⟩ u) (fun i h => h.IsStrIter it (strIterType z) z t i) := by
      unfold strIterType
      split
      · exact Draws.strAscii (A := X.A.in1) (I.ok.hd calm) it z t
      · exact Draws.strWide (A := X.A.in1) (I.ok.hd calm) it z t
    refine wpAny_pyNext_enum_itemD D he hit lt ne (by simp [ne]) fun y h' tk py ho hst hT hsz hk => ?_
    obtain ⟨c, u, hc, rfl⟩ := py
    refine ⟨_, rfl, wpAny_letOwnedTupleGo_enum (s := { s with heap := h', toks := tk + 1 }) ho fun h'' he' sb => ?_⟩
    have hT2 : h''.get? s.heap.objs.size = some { cls := .type "tuple", data := .seq #[.int i tk, .str ⟨#[c]⟩ u] } := (sb.2 _ (Nat.ne_of_gt hel)).trans hT
    have new : ObjOk X.prog X.w (upd H s.heap.objs.size (.tup [.int (i : Nat), .str ⟨#[c]⟩])) h'' s.heap.objs.size (.tup [.int (i : Nat), .str ⟨#[c]⟩]) :=
      ⟨by show 2 ≤ sizeLine; decide, [.int i tk, .str ⟨#[c]⟩ u], .cons ⟨_, rfl⟩ (.cons ⟨u, rfl⟩ .nil), ⟨_, hT2, rfl, _, rfl⟩⟩
    have I1 : Inv X pins σ (upd H s.heap.objs.size (.tup [.int (i : Nat), .str ⟨#[c]⟩])) { s with heap := h'', toks := tk + 1 } :=
      I.turnedNew (t' := tk + 1) (ch := [e, it]) (fun b ob hb q => (sb.2 b (fun z => hb (by simp [z]))).trans (hk b ob (fun z => hb (by simp [z])) (fun z => hb (by simp [z])) q)) far (Nat.le_refl _) new
    refine ⟨.ref s.heap.objs.size, _, I1, rfl, ⟨_, c, rfl, I.hok.fresh (Nat.le_refl _), rfl, hc⟩, ⟨⟨_, by rw [show ((i + 1 : Nat) : Int) = (i : Int) + 1 by omega]; exact he'⟩, ?_, ne, lt⟩, fun b hb => ?_⟩
    · obtain ⟨o, ho, r⟩ := hst
      exact ⟨o, (sb.2 it (Ne.symm ne)).trans ho, r⟩
    · have lb : b < s.heap.objs.size := by
        rcases (show b = e ∨ b = it by simpa using hb) with z | z
        · rw [z]; exact hel
        · rw [z]; exact hil
      rw [upd_ne (Nat.ne_of_lt lb)]
      exact (far b hb).1
  done := by
    intro X hP hw hK calm i pins s σ H E I far st stop
    subst hP hw hK
    obtain ⟨⟨old, he⟩, hit, ne, lei⟩ := st
    obtain ⟨f0, f1, f2, f3, f4, f5⟩ := far it (by simp)
    have D : Draws X.prog X.w X.A.in1 it [it] z.cps.size (fun i v => ∃ c u, z.cps[i]? = some c ∧ v = .str ⟨#[c]⟩ u) (fun i h => h.IsStrIter it (strIterType z) z t i) := by
      unfold strIterType
      split
      · exact Draws.strAscii (A := X.A.in1) (I.ok.hd calm) it z t
      · exact Draws.strWide (A := X.A.in1) (I.ok.hd calm) it z t
    have stop : z.cps.size ≤ i := stop
    have ei : i = z.cps.size := by omega
    exact wpAny_pyNext_enum_endD D he (by rw [← ei]; exact hit) fun h' eb => ⟨rfl, I.turned (t' := s.toks) (fun b o hb q => eb b o hb q) f0 f1 f3 f4 f5⟩
  self := fun A i s Q E st h => let ⟨⟨_, he⟩, _⟩ := st; wpAny_pyIter_enum he h
def iEnumS (ta : TA) : TI := fun σ H R => ta σ H fun vs H1 => ∃ z, vs = [.str z] ∧ R (Ites z) H1
theorem pi_enumS {X : Cx} {e : Expr} {ta : TA} {p pos tpos : Pos} {elts : List Expr} {kk : Nat} (hg : Gl X "enumerate") (hm : X.mg "enumerate" = none) (ha : PA X [e] ta) (hs : starEach [e] X.env = [(false, eval e X.env)] := by rfl) :
    PI X (.Tuple elts kk tpos) (.Call (.Name "enumerate" p) [e] [] pos) (iEnumS ta) := by
  refine ⟨fun pins s σ H R I h => ?_⟩
  refine wpAny_Call_Name_kw (ld_blt I hg hm boot_enumerate (PyProof.Rows.callWith_type1 (thn (ha.run pos pins s σ H _ I h) fun us s1 ⟨vs, H1, I1, r1, z, ex, q⟩ => ?_) hs rfl))
  subst ex
  obtain ⟨u, rfl, ru⟩ := vals1 r1
  obtain ⟨t, rfl⟩ := ru
  refine call_enumerate_str fun g he hit _ up => wpAny_pyIter_enum he ?_
  have I2 : Inv X pins σ H1 { s1 with heap := g } := I1.kept (t' := s1.toks) up
  refine ⟨s1.heap.objs.size + 1, [s1.heap.objs.size + 1, s1.heap.objs.size], _, _, H1, rfl, I2, turn_enumS z t (s1.heap.objs.size + 1) s1.heap.objs.size, ⟨⟨.none, he⟩, hit, Nat.succ_ne_self _, Nat.zero_le _⟩, fun b hb => ?_, q⟩
  have big : s1.heap.objs.size ≤ b := by
    rcases (show b = s1.heap.objs.size + 1 ∨ b = s1.heap.objs.size by simpa using hb) with z | z
    · rw [z]; exact Nat.le_succ _
    · rw [z]; exact Nat.le_refl _
  exact I1.fpOk big (I1.hok.fresh big)
theorem walk_enumS {z : Str} : Walk (Ites z) z.cps.size (fun _ => True) (fun i H x H' => ∃ T c, x = .ref T ∧ H T = none ∧ H' = upd H T (.tup [.int (i : Nat), .str ⟨#[c]⟩]) ∧ z.cps[i]? = some c) :=
  ⟨fun _ _ hi _ => hi, fun _ _ => Nat.le_refl _, fun _ _ _ _ _ _ y => y⟩
end ET
end
/-! ### LR -/
section
set_option Elab.async false
set_option linter.all false
set_option maxRecDepth 100000
set_option maxHeartbeats 4000000
/-! _law_result. -/
namespace K0
open PySem PySem.Spec PyProof.Rows L2
open MD (dM KeysV KeyV)
theorem scLRes : FnScope ["cleaner", "text", "views", "written", "state", "at", "sign", "moves", "other", "last", "more"] ["cleaner", "text"] (defScope (top iLResult)) := ⟨rfl, rfl, rfl, by decide +kernel, rfl, by decide +kernel, by decide +kernel⟩
def spLRes (K : PySem.W.Frag) (w : World) : Sp := fun vs H Q _ => ∃ (t : Addr) (z : Str) (ws ls : List StD) (ds : List PyData) (zs : List V), vs = [.ref t, .str z] ∧ PlainAt K w H t ws ls ds zs ∧ z.length ≤ 5000 ∧ sgAll z = true ∧
  ∀ H', Same H H' → Q (resV (resD ws ls ds z.cps.toList)) H'
theorem scLWalk : FnScope ["cleaner", "text", "views", "state", "found", "written", "at", "sign", "moves", "other", "last", "more"] ["cleaner", "text"] (defScope (top iLWalk)) := ⟨rfl, rfl, rfl, by decide +kernel, rfl, by decide +kernel, by decide +kernel⟩
def spLWalk (K : PySem.W.Frag) (w : World) : Sp := fun vs H Q _ => ∃ (t : Addr) (z : Str) (ws ls : List StD) (ds : List PyData) (zs : List V), vs = [.ref t, .str z] ∧ PlainAt K w H t ws ls ds zs ∧ z.length ≤ 5000 ∧ sgAll z = true ∧
  ∀ H' l vs, Same H H' → H' l = some (.lst vs) → DvAll K H' vs (walkD ws ls ds z.cps.toList) → Q (.ref l) H'
theorem tail_get {ls : List StD} {cs : List Nat} {i : Nat} (h : i < cs.length) : ∃ v, (viewsL ls cs)[i + 1]? = some v ∧ (viewsL ls cs).tail[i]? = some v := by
  have vl := viewsL_len ls cs
  have e : (viewsL ls cs)[i + 1]? = some ((viewsL ls cs)[i + 1]'(by omega)) := List.getElem?_eq_getElem (by omega)
  exact ⟨_, e, by rw [List.getElem?_tail]; exact e⟩
section
variable {P : Program} {w : World} {K : PySem.W.Frag} {mg : Str → Option Value} {base : Heap} {f fV : Addr} {fd fdV : FuncData}
theorem ok_lres {k : Nat} (F : FnP K "_law_result" iLResult f fd) (menum : mg "enumerate" = none)
    (FV : FnOk P w K mg base CX0 (k + 1) fV fdV ["cleaner", "text"] (spLViews K w)) (gV : mg "_law_views" = some (.ref fV)) (kV : PySem.W.keepIn K (.ref fV) = true) (bV : Binds K fdV ["cleaner", "text"] []) :
    FnOk P w K mg base CX0 (k + 2) f fd ["cleaner", "text"] (spLRes K w) := by
  refine F.ok scLRes (fun vs H Q E h => ?_) (fun cdv A outer s H vs Q E hr h => ?_)
  · obtain ⟨x, z, ws, ls, ds, zs, rfl, _⟩ := h
    rfl
  · obtain ⟨x, z, ws, ls, ds, zs, rfl, R, zl, sg, q⟩ := h
    refine ⟨_, PSs.nox (C8.pss_cut (ps_par (i := 2) (j := 3) (by rfl) scLRes.nd rfl rfl (by decide) rfl rfl (pa_cons (pe_call FV hr (by rfl) gV kV bV .nil pass0 (pa_cons (pv 0) (pa_cons (pv 1) pa_nil))) (pa_cons (pe_lst pa_nil) pa_nil)) rfl)
      (pss_cons (ps_set (i := 4) scLRes.nd rfl (.inl rfl) (pe_ix ix_list (pe_ix ix_tup (pv 0) pe_int (fun _ _ => rfl)) (pe_ix ix_list (pv 2) pe_int (fun _ _ => rfl)) (fun _ _ => rfl)))
      (pss_cons (ps_if (pt_cmp (pc_isN (pv 4))) (pss_one (ps_ret pe_non)) pss_nil)
      (C8.pss_cut (ps_for PassesOwn.never rfl (ET.pi_enumS (by rfl) menum (pa_cons (pv 1) pa_nil)) (pg_tup rfl (pgs_cons (pg_name (i := 5) scLRes.nd rfl (.inl rfl)) (pgs_cons (pg_name (i := 6) scLRes.nd rfl (.inl rfl)) pgs_nil)))
        (pss_cons (ps_asg (pe_ix ix_list (pe_ix ix_tup (pv 0) pe_int (fun _ _ => rfl)) (pv 4) (fun _ _ => rfl)) (pg_tup rfl (pgs_cons (pg_name (i := 7) scLRes.nd rfl (.inl rfl)) (pgs_cons (pg_name (i := 8) scLRes.nd rfl (.inl rfl)) (pgs_cons (pg_name (i := 9) scLRes.nd rfl (.inl rfl)) pgs_nil)))))
        (pss_cons (ps_asg (MD.pe_mget2 hr.units (pv 7) (pe_tup (pa_cons (pv 6) (pa_cons (pe_ix ix_list (pv 2) (pe_op op_add (pv 5) pe_int) (fun _ _ => rfl)) pa_nil)))
            (MD.pe_mget2 hr.units (pv 7) (pe_tup (pa_cons (pv 6) (pa_cons pe_non pa_nil))) (pe_tup (pa_cons (pv 6) (pa_cons (pv 8) pa_nil))) ⟨rfl, rfl, rfl, rfl⟩) ⟨rfl, rfl, rfl, rfl⟩)
            (pg_tup rfl (pgs_cons (pg_name (i := 10) scLRes.nd rfl (.inl rfl)) (pgs_cons (pg_name (i := 4) scLRes.nd rfl (.inl rfl)) pgs_nil))))
        (pss_one (ps_expr (pe_bm PySem.F.plainAttrs_list PySem.F.slot_list_append PySem.F.type_list_append mt_append (pv 3) (pa_cons (pv 10) pa_nil)))))))
      (pss_one (ps_ret (pe_op op_add_str (pe_join pe_str (pv 3)) (pe_ix ix_tup (pe_ix ix_list (pe_ix ix_tup (pv 0) pe_int (fun _ _ => rfl)) (pv 4) (fun _ _ => rfl)) pe_int (fun _ _ => rfl))))))))), ?_⟩
    have sl : sizeLine = 16777216 := sizeLine_eq
    obtain ⟨cs, hcs⟩ : ∃ cs, cs = z.cps.toList := ⟨_, rfl⟩
    have zn : z.cps.size = cs.length := by rw [hcs, Array.length_toList]
    have z5 : z.cps.size ≤ 5000 := zl
    have inS := sg_all sg
    rw [← hcs] at inS q
    -- views, written
    refine ⟨fun σ' H' => ∃ l pl, σ' = [some (.ref x), some (.str z), some (.ref l), some (.ref pl), none, none, none, none, none, none, none] ∧ Same H H' ∧ H pl = none ∧ H' l = some (.lst ((viewsL ls cs).map V.int)) ∧ H' pl = some (.lst []) ∧ l ≠ pl, ?_, ?_⟩
    · refine ⟨_, rfl, _, rfl, x, z, ws, ls, ds, zs, rfl, R, zl, fun H1 l s1 hl => ⟨by show 0 ≤ sizeLine; omega, fun pl npl => ?_⟩⟩
      rw [← hcs] at hl
      have u1 := same_upd (o := .lst []) npl
      exact ⟨_, _, rfl, l, pl, rfl, s1.trans u1, back_none s1 npl, u1 _ _ hl, upd_same, fun e => by rw [e, npl] at hl; cases hl⟩
    rintro σ1 H1 ⟨l, pl, rfl, s1, hpl0, hl, hpl1, lpl⟩
    obtain ⟨RR, B, S, Tw, Tl, hT, hR, hB, hS, PA⟩ := (R.same s1).at_
    have O := PA.ok
    have vlen := viewsL_len ls cs
    obtain ⟨v0, ix0, hv0⟩ := first_at PA cs
    obtain ⟨rv, erv⟩ := head_views ls cs
    have ixl : atI ((viewsL ls cs).map V.int) 0 = some (.int (hd0 (viewsL ls cs))) := by rw [erv]; exact atI_0
    refine ⟨_, rfl, x, _, 2, _, rfl, rfl, hT, rfl, _, rfl, l, _, 0, _, rfl, rfl, .of hl, ixl, S, _, _, v0, rfl, rfl, hS, ix0, ?_⟩
    refine ⟨_, rfl, _, rfl, ite2 (fun e => ?_) (fun e => ?_)⟩
    · have e : v0 = .non := of_decide_eq_true e
      rcases hv0 with ⟨_, e2⟩ | ⟨qq, e2, _⟩
      · have er : resD ws ls ds cs = none := by
          unfold resD
          rw [e2]
        rw [er] at q
        exact q H1 s1
      · rw [e2] at e
        cases e
    have e : v0 ≠ .non := fun z => e (decide_eq_true z)
    obtain ⟨q0, rfl, e2, q1, q2⟩ := hv0.resolve_left fun z => e z.1
    have er : resD ws ls ds cs = some (Txt.join "" (goW ws q0 (pairsL ls cs)).1 ++ lastD (atS ws (goW ws q0 (pairsL ls cs)).2)) := by
      unfold resD
      rw [e2]
    rw [er] at q
    have np := pairsL_len ls cs
    -- the loop
    refine ⟨fun σ' H' => ∃ x5 x6 x7 x8 x9 x10, σ' = [some (.ref x), some (.str z), some (.ref l), some (.ref pl), some (.int (goW ws q0 (pairsL ls cs)).2), x5, x6, x7, x8, x9, x10] ∧ Same H H' ∧ H' pl = some (.lst ((goW ws q0 (pairsL ls cs)).1.map V.str)), ?_, ?_⟩
    · refine ⟨_, rfl, z, rfl, for_it ET.walk_enumS (fun i σ' H' => ∃ x5 x6 x7 x8 x9 x10, σ' = [some (.ref x), some (.str z), some (.ref l), some (.ref pl), some (.int (goW ws q0 ((pairsL ls cs).take i)).2), x5, x6, x7, x8, x9, x10] ∧ Same H H' ∧ H' l = some (.lst ((viewsL ls cs).map V.int)) ∧ H' pl = some (.lst ((goW ws q0 ((pairsL ls cs).take i)).1.map V.str)))
        ⟨none, none, none, none, none, none, rfl, s1, hl, hpl1⟩ (fun _ _ _ _ _ => trivial) (fun i y σ' H' H'' hi hP hY => ?_) (fun σ' H' hP => ?_)⟩
      · obtain ⟨x5, x6, x7, x8, x9, x10, rfl, s3, hl3, hpl3⟩ := hP
        obtain ⟨T1, c, rfl, nT, rfl, hc⟩ := hY
        have hc2 : cs[i]? = some c := by rw [hcs, Array.getElem?_toList]; exact hc
        have lt : i < cs.length := (List.getElem?_eq_some_iff.mp hc2).1
        obtain ⟨v, hv1, hv2⟩ := tail_get (ls := ls) lt
        obtain ⟨v', ev, hpr⟩ := pairs_get (ls := ls) (y := .int v) hc2 (by rw [List.getElem?_map, hv2]; rfl)
        cases ev
        obtain ⟨g1, g2, g3, g4⟩ := goW_range O q1 q2 _ ((pairsL ls cs).take i) rfl fun y m => pairs_mem inS y (List.mem_of_mem_take m)
        have es := goW_succ (ws := ws) (q := q0) hpr
        have uT := same_upd (o := .tup [.int (i : Nat), .str ⟨#[c]⟩]) nT
        have s4 := s3.trans uT
        obtain ⟨R4, B4, S4, Tw4, Tl4, hT4, hR4, hB4, hS4, PA4⟩ := (R.same s4).at_
        obtain ⟨hs, ms⟩ := atS_mem g1 g2
        obtain ⟨T2, hT2, kr⟩ := MD.paired_get PA4.kw hs
        obtain ⟨d, o, rows, b1, b2, b3, b4⟩ := writer_at kr (PA4.rw _ ms) (O.w _ ms)
        refine ⟨T1, _, rfl, .of upd_same, rfl, _, _, rfl, _, _, rfl, rfl, ?_⟩
        refine ⟨_, rfl, x, _, 0, _, rfl, rfl, hT4, rfl, _, rfl, R4, _, _, _, rfl, rfl, hR4, ix_at g1 hT2, ?_⟩
        refine ⟨T2, _, rfl, b1, rfl, _, _, rfl, _, _, rfl, _, _, rfl, rfl, ?_⟩
        have ixv : atI ((viewsL ls cs).map V.int) ((i : Nat) + 1 : Int) = some (.int v) := by
          have e : atI ((viewsL ls cs).map V.int) (((i + 1 : Nat)) : Int) = some (.int v) := atI_nat (by rw [List.getElem?_map, hv1]; rfl)
          exact e
        refine ⟨_, rfl, d, rfl, ⟨rows, b2⟩, _, rfl, _, rfl, _, rfl, _, _, rfl, rfl, l, _, _, _, rfl, rfl, .of (uT _ _ hl3), ixv, by show 2 ≤ sizeLine; omega, fun t1 n1 => ?_⟩
        have u1 := same_upd (o := .tup [.str (oneS c), .int v]) n1
        refine ⟨_, rfl, d, rfl, ⟨rows, u1 _ _ b2⟩, _, rfl, by show 2 ≤ sizeLine; omega, fun t2 n2 => ?_⟩
        have u2 := same_upd (o := .tup [.str (oneS c), .non]) n2
        refine ⟨_, rfl, _, rfl, by show 2 ≤ sizeLine; omega, fun t3 n3 => ?_⟩
        have u3 := same_upd (o := .tup [.str (oneS c), .int o]) n3
        have u12 := u1.trans (u2.trans u3)
        refine ⟨k2 c, rows, u12 _ _ b2, b3.same u12, .tup (.of (u3 _ _ upd_same)) (.cons (.atom rfl) (.cons (.atom rfl) .nil)), by show 1 ≤ 8; decide, ?_⟩
        refine ⟨k1 c v, rows, u12 _ _ b2, b3.same u12, .tup (.of ((u2.trans u3) _ _ upd_same)) (.cons (.atom rfl) (.cons (.atom rfl) .nil)), by show 1 ≤ 8; decide, ?_⟩
        have mv : ∃ T', (MD.look rows (k1 c v)).getD ((MD.look rows (k2 c)).getD (.ref t3)) = .ref T' ∧ SqT K (upd (upd (upd (upd H' T1 (.tup [.int (i : Nat), .str ⟨#[c]⟩])) t1 (.tup [.str (oneS c), .int v])) t2 (.tup [.str (oneS c), .non])) t3 (.tup [.str (oneS c), .int o])) T' [.str (wrD (atS ws (goW ws q0 ((pairsL ls cs).take i)).2) c v).1, .int (wrD (atS ws (goW ws q0 ((pairsL ls cs).take i)).2) c v).2] := by
          rcases b4 c v with ⟨T', c1, c2⟩ | ⟨c1, ⟨T', c2, c3⟩ | ⟨c2, c3⟩⟩
          · exact ⟨T', by rw [c1]; rfl, same_tup u12 c2⟩
          · exact ⟨T', by rw [c1, c2]; rfl, same_tup u12 c3⟩
          · exact ⟨t3, by rw [c1, c2]; rfl, by rw [c3]; exact .of upd_same⟩
        obtain ⟨T', em, hT'⟩ := mv
        rw [em]
        refine ⟨T', _, rfl, hT', rfl, _, _, rfl, _, _, rfl, rfl, ?_⟩
        have hpl5 := u12 _ _ (uT _ _ hpl3)
        refine ⟨_, rfl, .inl ⟨rfl, _, .of hpl5⟩, _, rfl, pl, _, _, rfl, rfl, hpl5, by rw [List.length_map, g3, List.length_take]; have : z.cps.size ≤ 5000 := zl; omega, ?_⟩
        rw [es]
        refine ⟨_, _, _, _, _, _, rfl, fun y o u => ?_, ?_, ?_⟩
        · rw [upd_ne (ne_of_none u hpl0)]
          exact u12 _ _ (s4 _ _ u)
        · rw [upd_ne lpl]
          exact u12 _ _ (uT _ _ hl3)
        · rw [upd_same]
          show _ = some (HO.lst (((goW ws q0 ((pairsL ls cs).take i)).1 ++ [_]).map V.str))
          rw [List.map_append]
          rfl
      · obtain ⟨x5, x6, x7, x8, x9, x10, rfl, s3, _, hpl⟩ := hP
        rw [zn, ← np, List.take_length] at hpl
        refine ⟨x5, x6, x7, x8, x9, x10, ?_, s3, hpl⟩
        rw [zn, ← np, List.take_length]
    rintro σ2 H2 ⟨x5, x6, x7, x8, x9, x10, rfl, s2, hpl⟩
    obtain ⟨g1, g2, g3, g4⟩ := goW_range O q1 q2 _ (pairsL ls cs) rfl (pairs_mem inS)
    have sum2 := flat_len (n := 2) fun y m => (g4 y m).2
    obtain ⟨R4, B4, S4, Tw4, Tl4, hT4, hR4, hB4, hS4, PA4⟩ := (R.same s2).at_
    obtain ⟨hs, ms⟩ := atS_mem g1 g2
    obtain ⟨T2, hT2, kr⟩ := MD.paired_get PA4.kw hs
    obtain ⟨d, o, rows, b1, b2, b3, b4⟩ := writer_at kr (PA4.rw _ ms) (O.w _ ms)
    have ll := (last_range (O.w _ ms)).2
    have jl := join_len (goW ws q0 (pairsL ls cs)).1
    refine ⟨⟨_, rfl⟩, _, rfl, _, _, (goW ws q0 (pairsL ls cs)).1, rfl, rfl, .inl (.of hpl), by show _ + _ * 0 ≤ _; omega, ?_⟩
    refine ⟨_, rfl, x, _, 0, _, rfl, rfl, hT4, rfl, _, rfl, R4, _, _, _, rfl, rfl, hR4, ix_at g1 hT2, T2, _, 2, _, rfl, rfl, b1, rfl, _, _, rfl, rfl, by omega, q H2 s2⟩
end
end K0
end
/-! ### LK -/
section
set_option Elab.async false
set_option linter.all false
set_option maxRecDepth 100000
set_option maxHeartbeats 4000000
/-! _law_walk. -/
namespace K0
open PySem PySem.Spec PyProof.Rows L2
open MD (dM KeysV KeyV)
section
variable {P : Program} {w : World} {K : PySem.W.Frag} {mg : Str → Option Value} {base : Heap} {f fV : Addr} {fd fdV : FuncData}
theorem ok_lwalk {k : Nat} (F : FnP K "_law_walk" iLWalk f fd) (menum : mg "enumerate" = none)
    (FV : FnOk P w K mg base CX0 (k + 1) fV fdV ["cleaner", "text"] (spLViews K w)) (gV : mg "_law_views" = some (.ref fV)) (kV : PySem.W.keepIn K (.ref fV) = true) (bV : Binds K fdV ["cleaner", "text"] []) :
    FnOk P w K mg base CX0 (k + 2) f fd ["cleaner", "text"] (spLWalk K w) := by
  refine F.ok scLWalk (fun vs H Q E h => ?_) (fun cdv A outer s H vs Q E hr h => ?_)
  · obtain ⟨x, z, ws, ls, ds, zs, rfl, _⟩ := h
    rfl
  · obtain ⟨x, z, ws, ls, ds, zs, rfl, R, zl, sg, q⟩ := h
    refine ⟨_, PSs.nox (pss_cons (ps_set (i := 2) scLWalk.nd rfl (.inl rfl) (pe_call FV hr (by rfl) gV kV bV .nil pass0 (pa_cons (pv 0) (pa_cons (pv 1) pa_nil))))
      (pss_cons (ps_par3 (i := 3) (j := 4) (l := 5) (by rfl) scLWalk.nd rfl rfl rfl (by decide) (by decide) (by decide) rfl rfl rfl
        (pa_cons (pe_ix ix_list (pe_ix ix_tup (pv 0) pe_int (fun _ _ => rfl)) (pe_ix ix_list (pv 2) pe_int (fun _ _ => rfl)) (fun _ _ => rfl)) (pa_cons (pe_lst pa_nil) (pa_cons pe_str pa_nil))) rfl)
      (pss_cons (ps_if (pt_cmp (pc_isN (pv 3))) (pss_one (ps_ret (pe_lst pa_nil))) pss_nil)
      (C8.pss_cut (ps_for PassesOwn.never rfl (ET.pi_enumS (by rfl) menum (pa_cons (pv 1) pa_nil)) (pg_tup rfl (pgs_cons (pg_name (i := 6) scLWalk.nd rfl (.inl rfl)) (pgs_cons (pg_name (i := 7) scLWalk.nd rfl (.inl rfl)) pgs_nil)))
        (pss_cons (ps_expr (pe_bm PySem.F.plainAttrs_list PySem.F.slot_list_append PySem.F.type_list_append mt_append (pv 4) (pa_cons (pe_tup (pa_cons (pv 3) (pa_cons (pv 5) pa_nil))) pa_nil)))
        (pss_cons (ps_asg (pe_ix ix_list (pe_ix ix_tup (pv 0) pe_int (fun _ _ => rfl)) (pv 3) (fun _ _ => rfl)) (pg_tup rfl (pgs_cons (pg_name (i := 8) scLWalk.nd rfl (.inl rfl)) (pgs_cons (pg_name (i := 9) scLWalk.nd rfl (.inl rfl)) (pgs_cons (pg_name (i := 10) scLWalk.nd rfl (.inl rfl)) pgs_nil)))))
        (pss_cons (ps_asg (MD.pe_mget2 hr.units (pv 8) (pe_tup (pa_cons (pv 7) (pa_cons (pe_ix ix_list (pv 2) (pe_op op_add (pv 6) pe_int) (fun _ _ => rfl)) pa_nil)))
            (MD.pe_mget2 hr.units (pv 8) (pe_tup (pa_cons (pv 7) (pa_cons pe_non pa_nil))) (pe_tup (pa_cons (pv 7) (pa_cons (pv 9) pa_nil))) ⟨rfl, rfl, rfl, rfl⟩) ⟨rfl, rfl, rfl, rfl⟩)
            (pg_tup rfl (pgs_cons (pg_name (i := 11) scLWalk.nd rfl (.inl rfl)) (pgs_cons (pg_name (i := 3) scLWalk.nd rfl (.inl rfl)) pgs_nil))))
        (pss_one (ps_set (i := 5) scLWalk.nd rfl (.inl rfl) (pe_op op_add_str (pv 5) (pv 11))))))))
      (pss_one (ps_ret (pe_op op_cat (pv 4) (pe_lst (pa_cons (pe_tup (pa_cons (pv 3) (pa_cons (pv 5) pa_nil))) pa_nil))))))))), ?_⟩
    have sl : sizeLine = 16777216 := sizeLine_eq
    obtain ⟨cs, hcs⟩ : ∃ cs, cs = z.cps.toList := ⟨_, rfl⟩
    have zn : z.cps.size = cs.length := by rw [hcs, Array.length_toList]
    have z5 : z.cps.size ≤ 5000 := zl
    have inS := sg_all sg
    rw [← hcs] at inS q
    -- views, state, found, written
    refine ⟨_, rfl, _, rfl, x, z, ws, ls, ds, zs, rfl, R, zl, fun H1 l s1 hl => ?_⟩
    rw [← hcs] at hl
    obtain ⟨RR, B, S, Tw, Tl, hT, hR, hB, hS, PA⟩ := (R.same s1).at_
    have O := PA.ok
    have vlen := viewsL_len ls cs
    obtain ⟨v0, ix0, hv0⟩ := first_at PA cs
    obtain ⟨rv, erv⟩ := head_views ls cs
    have ixl : atI ((viewsL ls cs).map V.int) 0 = some (.int (hd0 (viewsL ls cs))) := by rw [erv]; exact atI_0
    refine ⟨_, rfl, x, _, 2, _, rfl, rfl, hT, rfl, _, rfl, l, _, 0, _, rfl, rfl, .of hl, ixl, S, _, _, v0, rfl, rfl, hS, ix0, ?_⟩
    refine ⟨by show 0 ≤ sizeLine; omega, fun pl npl => ?_⟩
    have u1 := same_upd (o := .lst []) npl
    have hpl0 : H pl = none := back_none s1 npl
    have lpl : l ≠ pl := fun e => by rw [e, npl] at hl; cases hl
    refine ⟨_, _, _, rfl, ?_⟩
    refine ⟨_, rfl, _, rfl, ite2 (fun e => ?_) (fun e => ?_)⟩
    · have e : v0 = .non := of_decide_eq_true e
      rcases hv0 with ⟨_, e2⟩ | ⟨qq, e2, _⟩
      · have er : walkD ws ls ds cs = [] := by
          unfold walkD
          rw [e2]
        rw [er] at q
        exact ⟨by show 0 ≤ sizeLine; omega, fun p np => q _ p [] (s1.trans (u1.trans (same_upd np))) upd_same .nil⟩
      · rw [e2] at e
        cases e
    have e : v0 ≠ .non := fun z => e (decide_eq_true z)
    obtain ⟨q0, rfl, e2, q1, q2⟩ := hv0.resolve_left fun z => e z.1
    have er : walkD ws ls ds cs = (List.range (cs.length + 1)).map (walkP ws q0 (pairsL ls cs)) := by
      unfold walkD
      rw [e2]
    rw [er] at q
    have np := pairsL_len ls cs
    -- the loop
    refine ⟨fun σ' H' => ∃ x6 x7 x8 x9 x10 x11 vs, σ' = [some (.ref x), some (.str z), some (.ref l), some (.int (goW ws q0 (pairsL ls cs)).2), some (.ref pl), some (.str (Txt.join "" (goW ws q0 (pairsL ls cs)).1)), x6, x7, x8, x9, x10, x11] ∧ Same H H' ∧ H' pl = some (.lst vs) ∧ DvAll K (hid pl H') vs ((List.range cs.length).map (walkP ws q0 (pairsL ls cs))), ?_, ?_⟩
    · refine ⟨_, rfl, z, rfl, for_it ET.walk_enumS (fun i σ' H' => ∃ x6 x7 x8 x9 x10 x11 vs, σ' = [some (.ref x), some (.str z), some (.ref l), some (.int (goW ws q0 ((pairsL ls cs).take i)).2), some (.ref pl), some (.str (Txt.join "" (goW ws q0 ((pairsL ls cs).take i)).1)), x6, x7, x8, x9, x10, x11] ∧ Same H H' ∧ H' l = some (.lst ((viewsL ls cs).map V.int)) ∧ H' pl = some (.lst vs) ∧ DvAll K (hid pl H') vs ((List.range i).map (walkP ws q0 (pairsL ls cs))))
        ⟨none, none, none, none, none, none, [], rfl, s1.trans u1, u1 _ _ hl, upd_same, .nil⟩ (fun _ _ _ _ _ => trivial) (fun i y σ' H' H'' hi hP hY => ?_) (fun σ' H' hP => ?_)⟩
      · obtain ⟨x6, x7, x8, x9, x10, x11, vs, rfl, s3, hl3, hpl3, dv⟩ := hP
        obtain ⟨T1, c, rfl, nT, rfl, hc⟩ := hY
        have hc2 : cs[i]? = some c := by rw [hcs, Array.getElem?_toList]; exact hc
        have lt : i < cs.length := (List.getElem?_eq_some_iff.mp hc2).1
        obtain ⟨v, hv1, hv2⟩ := tail_get (ls := ls) lt
        obtain ⟨v', ev, hpr⟩ := pairs_get (ls := ls) (y := .int v) hc2 (by rw [List.getElem?_map, hv2]; rfl)
        cases ev
        obtain ⟨g1, g2, g3, g4⟩ := goW_range O q1 q2 _ ((pairsL ls cs).take i) rfl fun y m => pairs_mem inS y (List.mem_of_mem_take m)
        have es := goW_succ (ws := ws) (q := q0) hpr
        have uT := same_upd (o := .tup [.int (i : Nat), .str ⟨#[c]⟩]) nT
        have s4 := s3.trans uT
        have vl := dv.length
        rw [List.length_map, List.length_range] at vl
        have sum2 := flat_len (n := 2) fun y m => (g4 y m).2
        have jl := join_len (goW ws q0 ((pairsL ls cs).take i)).1
        have l3 : (goW ws q0 ((pairsL ls cs).take i)).1.length ≤ 5000 := by
          rw [g3, List.length_take]
          omega
        refine ⟨T1, _, rfl, .of upd_same, rfl, _, _, rfl, _, _, rfl, rfl, ?_⟩
        -- found.append((state, written))
        have hpl4 := uT _ _ hpl3
        refine ⟨_, rfl, .inl ⟨rfl, _, .of hpl4⟩, _, rfl, _, rfl, by show 2 ≤ sizeLine; omega, fun T3 nT3 => ?_⟩
        have u3 := same_upd (o := .tup [.int (goW ws q0 ((pairsL ls cs).take i)).2, .str (Txt.join "" (goW ws q0 ((pairsL ls cs).take i)).1)]) nT3
        have hpl6 := u3 _ _ hpl4
        have T3pl : T3 ≠ pl := fun e => by rw [e, hpl4] at nT3; cases nT3
        refine ⟨pl, _, _, rfl, rfl, hpl6, by omega, ?_⟩
        have sA : Same H (upd (upd (upd H' T1 (.tup [.int (i : Nat), .str ⟨#[c]⟩])) T3 (.tup [.int (goW ws q0 ((pairsL ls cs).take i)).2, .str (Txt.join "" (goW ws q0 ((pairsL ls cs).take i)).1)])) pl (.lst (vs ++ [.ref T3]))) := fun y o u => by
          rw [upd_ne (ne_of_none u hpl0)]
          exact u3 _ _ (s4 _ _ u)
        have dA : DvAll K (hid pl (upd (upd (upd H' T1 (.tup [.int (i : Nat), .str ⟨#[c]⟩])) T3 (.tup [.int (goW ws q0 ((pairsL ls cs).take i)).2, .str (Txt.join "" (goW ws q0 ((pairsL ls cs).take i)).1)])) pl (.lst (vs ++ [.ref T3])))) (vs ++ [.ref T3]) ((List.range (i + 1)).map (walkP ws q0 (pairsL ls cs))) := by
          rw [List.range_succ, List.map_append]
          refine DvAll.append (DvAll.same (hid_same fun y o n e => by
            rw [upd_ne n]
            exact u3 _ _ (uT _ _ e)) _ _ dv) (.cons ?_ .nil)
          exact .tup (.of (by rw [hid_ne T3pl, upd_ne T3pl, upd_same])) (.cons (.int _) (.cons (.str _) .nil))
        have hA : ∃ HA, HA = upd (upd (upd H' T1 (.tup [.int (i : Nat), .str ⟨#[c]⟩])) T3 (.tup [.int (goW ws q0 ((pairsL ls cs).take i)).2, .str (Txt.join "" (goW ws q0 ((pairsL ls cs).take i)).1)])) pl (.lst (vs ++ [.ref T3])) := ⟨_, rfl⟩
        obtain ⟨HA, hHA⟩ := hA
        rw [← hHA] at sA dA
        have hlA : HA l = some (.lst ((viewsL ls cs).map V.int)) := by
          rw [hHA, upd_ne lpl]
          exact u3 _ _ (uT _ _ hl3)
        have hplA : HA pl = some (.lst (vs ++ [.ref T3])) := by rw [hHA, upd_same]
        rw [← hHA]
        obtain ⟨R4, B4, S4, Tw4, Tl4, hT4, hR4, hB4, hS4, PA4⟩ := (R.same sA).at_
        obtain ⟨hs, ms⟩ := atS_mem g1 g2
        obtain ⟨T2, hT2, kr⟩ := MD.paired_get PA4.kw hs
        obtain ⟨d, o, rows, b1, b2, b3, b4⟩ := writer_at kr (PA4.rw _ ms) (O.w _ ms)
        have wr := wrD_range (O.w _ ms) (inS c (List.mem_of_getElem? hc2)) v
        refine ⟨_, rfl, x, _, 0, _, rfl, rfl, hT4, rfl, _, rfl, R4, _, _, _, rfl, rfl, hR4, ix_at g1 hT2, ?_⟩
        refine ⟨T2, _, rfl, b1, rfl, _, _, rfl, _, _, rfl, _, _, rfl, rfl, ?_⟩
        have ixv : atI ((viewsL ls cs).map V.int) ((i : Nat) + 1 : Int) = some (.int v) := by
          have e : atI ((viewsL ls cs).map V.int) (((i + 1 : Nat)) : Int) = some (.int v) := atI_nat (by rw [List.getElem?_map, hv1]; rfl)
          exact e
        refine ⟨_, rfl, d, rfl, ⟨rows, b2⟩, _, rfl, _, rfl, _, rfl, _, _, rfl, rfl, l, _, _, _, rfl, rfl, .of hlA, ixv, by show 2 ≤ sizeLine; omega, fun t1 n1 => ?_⟩
        have u1 := same_upd (o := .tup [.str (oneS c), .int v]) n1
        refine ⟨_, rfl, d, rfl, ⟨rows, u1 _ _ b2⟩, _, rfl, by show 2 ≤ sizeLine; omega, fun t2 n2 => ?_⟩
        have u2 := same_upd (o := .tup [.str (oneS c), .non]) n2
        refine ⟨_, rfl, _, rfl, by show 2 ≤ sizeLine; omega, fun t3 n3 => ?_⟩
        have u3 := same_upd (o := .tup [.str (oneS c), .int o]) n3
        have u12 := u1.trans (u2.trans u3)
        refine ⟨k2 c, rows, u12 _ _ b2, b3.same u12, .tup (.of (u3 _ _ upd_same)) (.cons (.atom rfl) (.cons (.atom rfl) .nil)), by show 1 ≤ 8; decide, ?_⟩
        refine ⟨k1 c v, rows, u12 _ _ b2, b3.same u12, .tup (.of ((u2.trans u3) _ _ upd_same)) (.cons (.atom rfl) (.cons (.atom rfl) .nil)), by show 1 ≤ 8; decide, ?_⟩
        have mv : ∃ T', (MD.look rows (k1 c v)).getD ((MD.look rows (k2 c)).getD (.ref t3)) = .ref T' ∧ SqT K (upd (upd (upd HA t1 (.tup [.str (oneS c), .int v])) t2 (.tup [.str (oneS c), .non])) t3 (.tup [.str (oneS c), .int o])) T' [.str (wrD (atS ws (goW ws q0 ((pairsL ls cs).take i)).2) c v).1, .int (wrD (atS ws (goW ws q0 ((pairsL ls cs).take i)).2) c v).2] := by
          rcases b4 c v with ⟨T', c1, c2⟩ | ⟨c1, ⟨T', c2, c3⟩ | ⟨c2, c3⟩⟩
          · exact ⟨T', by rw [c1]; rfl, same_tup u12 c2⟩
          · exact ⟨T', by rw [c1, c2]; rfl, same_tup u12 c3⟩
          · exact ⟨t3, by rw [c1, c2]; rfl, by rw [c3]; exact .of upd_same⟩
        obtain ⟨T', em, hT'⟩ := mv
        rw [em]
        refine ⟨T', _, rfl, hT', rfl, _, _, rfl, _, _, rfl, rfl, ?_⟩
        refine ⟨_, rfl, _, rfl, _, _, rfl, rfl, by omega, ?_⟩
        refine ⟨some (.int (i : Nat)), some (.str ⟨#[c]⟩), some (.ref d), some (.int o), some (.str (lastD (atS ws (goW ws q0 ((pairsL ls cs).take i)).2))), some (.str (wrD (atS ws (goW ws q0 ((pairsL ls cs).take i)).2) c v).1), vs ++ [.ref T3], ?_, sA.trans u12, u12 _ _ hlA, u12 _ _ hplA, DvAll.same (hid_same fun y o n e => u12 _ _ e) _ _ dA⟩
        rw [es]
        unfold stepW
        rw [join_snoc]
        rfl
      · obtain ⟨x6, x7, x8, x9, x10, x11, vs, rfl, s3, _, hpl, dv⟩ := hP
        rw [zn] at dv
        refine ⟨x6, x7, x8, x9, x10, x11, vs, ?_, s3, hpl, dv⟩
        rw [zn, ← np, List.take_length]
    rintro σ2 H2 ⟨x6, x7, x8, x9, x10, x11, vs, rfl, s2, hpl, dv⟩
    have vl := dv.length
    rw [List.length_map, List.length_range] at vl
    refine ⟨_, rfl, _, rfl, _, rfl, by show 2 ≤ sizeLine; omega, fun t1 n1 => ⟨by show 1 ≤ sizeLine; omega, fun t2 n2 => ?_⟩⟩
    have u1 := same_upd (o := .tup [.int (goW ws q0 (pairsL ls cs)).2, .str (Txt.join "" (goW ws q0 (pairsL ls cs)).1)]) n1
    have u2 := same_upd (o := .lst [.ref t1]) n2
    have u12 := u1.trans u2
    refine ⟨pl, t2, vs, [.ref t1], rfl, rfl, u12 _ _ hpl, upd_same, by show _ + 1 ≤ _; omega, fun p np3 => ?_⟩
    have u3 := same_upd (o := .lst (vs ++ [.ref t1])) np3
    refine q _ p _ (s2.trans (u12.trans u3)) upd_same ?_
    rw [List.range_succ, List.map_append]
    refine DvAll.append (DvAll.same (fun y o e => u3 _ _ (u12 _ _ (hid_out y o e))) _ _ dv) (.cons ?_ .nil)
    unfold walkP
    rw [← np, List.take_length]
    exact .tup (.of (u3 _ _ (u2 _ _ upd_same))) (.cons (.int _) (.cons (.str _) .nil))
end
end K0
end
/-! ### TX -/
section
set_option Elab.async false
set_option linter.all false
set_option maxRecDepth 100000
set_option maxHeartbeats 4000000
/-! All texts of some signs, by length, as a list. -/
namespace K0
open PySem PySem.Spec PyProof.Rows L2
theorem add_len (x y : Str) : (x ++ y).length = x.length + y.length := by
  show (x.cps ++ y.cps).size = _
  rw [Array.size_append]
  rfl
/-- the texts one sign longer than t -/
def longer (cs : List Nat) (t : Str) : List Str := cs.map fun c => t ++ oneS c
def level (cs : List Nat) : Nat → List Str
  | 0 => [""]
  | k + 1 => (level cs k).flatMap (longer cs)
def pre (cs : List Nat) : Nat → List Str
  | 0 => []
  | k + 1 => pre cs k ++ level cs k
def textsTo (cs : List Nat) (k : Nat) : List Str := pre cs (k + 1)
theorem flat_lenT (cs : List Nat) (l : List Str) : (l.flatMap (longer cs)).length = l.length * cs.length := by
  induction l with
  | nil => simp
  | cons t l ih =>
    rw [List.flatMap_cons, List.length_append, ih, List.length_cons, Nat.succ_mul]
    unfold longer
    rw [List.length_map]
    omega
theorem level_len (cs : List Nat) : ∀ k, (level cs k).length = cs.length ^ k
  | 0 => rfl
  | k + 1 => by
    rw [level, flat_lenT, level_len cs k, Nat.pow_succ]
theorem level_size {cs : List Nat} : ∀ (k : Nat) (t : Str), t ∈ level cs k → t.length = k
  | 0, t, h => by
    rw [List.mem_singleton.mp h]
    rfl
  | k + 1, t, h => by
    obtain ⟨u, hu, hc⟩ := List.mem_flatMap.mp h
    obtain ⟨c, _, rfl⟩ := List.mem_map.mp hc
    rw [add_len, level_size k u hu]
    rfl
theorem pow_small {n k : Nat} (hn : n ≤ 4) (hk : k ≤ 4) : n ^ k ≤ 256 := Nat.le_trans (Nat.pow_le_pow_left hn k) (Nat.le_trans (Nat.pow_le_pow_right (by decide) hk) (by decide))
theorem pre_len {cs : List Nat} (hc : cs.length ≤ 4) : ∀ k, k ≤ 5 → (pre cs k).length ≤ 256 * k
  | 0, _ => Nat.zero_le _
  | k + 1, hk => by
    have h1 := pre_len hc k (by omega)
    have h2 := pow_small hc (k := k) (by omega)
    rw [pre, List.length_append, level_len]
    omega
theorem scTexts : FnScope ["signs", "upto", "found", "start", "turn", "end", "at", "sign"] ["signs", "upto"] (defScope (top iLTexts)) := ⟨rfl, rfl, rfl, by decide +kernel, rfl, by decide +kernel, by decide +kernel⟩
def spTexts (K : PySem.W.Frag) : Sp := fun vs H Q _ => ∃ (t : Addr) (cs : List Nat) (n : Nat), vs = [.ref t, .int (n : Nat)] ∧ SqT K H t (cs.map oneV) ∧ cs.length ≤ 4 ∧ n ≤ 4 ∧ ∀ H' l, Same H H' → H' l = some (.lst ((textsTo cs n).map V.str)) → Q (.ref l) H'
theorem mr_extend {X : Cx} : MtR X "list.extend" rExtend := mt_extend
section
variable {P : Program} {w : World} {K : PySem.W.Frag} {mg : Str → Option Value} {base : Heap} {f : Addr} {fd : FuncData}
theorem ok_texts {k : Nat} (F : FnP K "_law_texts" iLTexts f fd) (mrange : mg "range" = none) (mlen : mg "len" = none) : FnOk P w K mg base CX0 (k + 1) f fd ["signs", "upto"] (spTexts K) := by
  refine F.ok scTexts (fun vs H Q E h => ?_) (fun cdv A outer s H vs Q E hr h => ?_)
  · obtain ⟨t, cs, n, rfl, _⟩ := h
    rfl
  · obtain ⟨t, cs, n, rfl, hT0, c4, n3, q⟩ := h
    refine ⟨_, PSs.nox (C8.pss_cut (ps_asg (pe_tup (pa_cons (pe_lst (pa_cons pe_str pa_nil)) (pa_cons pe_int pa_nil))) (pg_tup rfl (pgs_cons (pg_name (i := 2) scTexts.nd rfl (.inr rfl)) (pgs_cons (pg_name (i := 3) scTexts.nd rfl (.inl rfl)) pgs_nil))))
      (C8.pss_cut (ps_for PassesOwn.never rfl (pi_range1 (by rfl) mrange (pa_cons (pv 1) pa_nil)) (pg_name (i := 4) scTexts.nd rfl (.inl rfl))
        (pss_cons (ps_set (i := 5) scTexts.nd rfl (.inl rfl) (pe_callB call_len_seq (by rfl) mlen PySem.boot_len (pa_cons (pv 2) pa_nil)))
        (C8.pss_cut (ps_for PassesOwn.never rfl (pi_range2 (by rfl) mrange (pa_cons (pv 3) (pa_cons (pv 5) pa_nil))) (pg_name (i := 6) scTexts.nd rfl (.inr rfl))
          (pss_one (ps_expr (pe_bm PySem.F.plainAttrs_list PySem.F.slot_list_extend PySem.F.type_list_extend mr_extend (pv 2) (pa_cons (pe_lc (own := [("sign", 7)]) (g := gName 7) (te := tOp (fun x y H Q => ∃ i j, x = .str i ∧ y = .str j ∧ i.length + j.length ≤ sizeLine ∧ Q (.str (i ++ j)) H) (tOp (rIxL K) (tVar 2) (tVar 6)) (tVar 7)) (tt := tYes) rfl scTexts.nd (pi_tup (pv 0)) (blkOk_by (N := ["signs", "upto", "found", "start", "turn", "end", "at", "sign"]) (sc := defScope (top iLTexts)) (by decide +kernel))
            (fun _ _ _ _ _ => pg_name (i := 7) scTexts.nd rfl (Or.inl rfl)) (fun _ _ _ _ _ => pts_nil) (fun _ _ _ _ _ => pe_op op_add_str (pe_ix ix_list (pv 2) (pv 6) (fun _ _ => rfl)) (pv 7))) pa_nil)))))
        (pss_one (ps_set (i := 3) scTexts.nd rfl (.inl rfl) (pv 5))))))
      (pss_one (ps_ret (pv 2))))), ?_⟩
    refine ⟨fun σ' H' => ∃ l : Addr, σ' = [some (.ref t), some (.int (n : Nat)), some (.ref l), some (.int 0), none, none, none, none] ∧ H l = none ∧ Same H H' ∧ H' l = some (.lst ((pre cs 1).map V.str)), ?_, ?_⟩
    · refine ⟨by show 1 ≤ sizeLine; decide, fun l nl => ⟨by show 2 ≤ sizeLine; decide, fun T nT => ⟨T, _, rfl, .of upd_same, rfl, _, _, rfl, _, _, rfl, rfl, l, rfl, nl, (same_upd nl).trans (same_upd nT), same_upd nT _ _ upd_same⟩⟩⟩
    rintro σ1 H1 ⟨l, rfl, nl, s1, e1⟩
    refine ⟨fun σ' H' => ∃ a3 a4 a5 a6, σ' = [some (.ref t), some (.int (n : Nat)), some (.ref l), a3, a4, a5, a6, none] ∧ Same H H' ∧ H' l = some (.lst ((textsTo cs n).map V.str)), ?_, ?_⟩
    · refine ⟨_, rfl, _, rfl, by omega, by omega, for_range (lo := 0) (n := n) (fun k σ' H' => ∃ a4 a5 a6, σ' = [some (.ref t), some (.int (n : Nat)), some (.ref l), some (.int ((pre cs k).length : Nat)), a4, a5, a6, none] ∧ Same H H' ∧ H' l = some (.lst ((pre cs (k + 1)).map V.str))) ⟨none, none, none, rfl, s1, e1⟩ (fun k σ' H' hk hP => ?_) (fun σ' H' hP => ?_)⟩
      · obtain ⟨a4, a5, a6, rfl, s2, e2⟩ := hP
        have pl := pre_len c4 (k + 1) (by omega)
        have pe : (pre cs (k + 1)).length = (pre cs k).length + (level cs k).length := by rw [pre, List.length_append]
        refine ⟨_, rfl, l, _, rfl, .inl (.of e2), ?_⟩
        refine ⟨fun σ' H' => ∃ a6, σ' = [some (.ref t), some (.int (n : Nat)), some (.ref l), some (.int ((pre cs k).length : Nat)), some (.int (0 + (k : Int))), some (.int ((pre cs (k + 1)).length : Nat)), a6, none] ∧ Same H H' ∧ H' l = some (.lst ((pre cs (k + 2)).map V.str)), ?_, ?_⟩
        · refine ⟨_, rfl, _, rfl, _, _, rfl, ⟨by omega, by omega, by rw [List.length_map]; omega, by rw [List.length_map]; omega⟩, for_range (lo := ((pre cs k).length : Nat)) (fun j σ' H' => ∃ a6, σ' = [some (.ref t), some (.int (n : Nat)), some (.ref l), some (.int ((pre cs k).length : Nat)), some (.int (0 + (k : Int))), some (.int ((pre cs (k + 1)).length : Nat)), a6, none] ∧ Same H H' ∧ H' l = some (.lst ((pre cs (k + 1) ++ ((level cs k).take j).flatMap (longer cs)).map V.str))) ⟨a6, ?_, s2, ?_⟩ (fun j σ' H' hj hP => ?_) (fun σ' H' hP => ?_)⟩
          · first
              | (rw [List.length_map]; rfl)
              | simp
          · rw [List.take_zero, List.flatMap_nil, List.append_nil]
            exact e2
          · obtain ⟨a6', rfl, s3, e3⟩ := hP
            have hj : j < (level cs k).length := by
              rw [List.length_map] at hj
              omega
            obtain ⟨T, hT⟩ : ∃ T, (level cs k)[j]? = some T := ⟨_, List.getElem?_eq_getElem hj⟩
            have Tl : T.length = k := level_size k T (List.mem_of_getElem? hT)
            have tT : SqT K H' t (cs.map oneV) := same_tup s3 hT0
            have at0 : atI ((pre cs (k + 1) ++ ((level cs k).take j).flatMap (longer cs)).map V.str) (((pre cs k).length : Nat) + (j : Int)) = some (.str T) := by
              rw [show (((pre cs k).length : Nat) : Int) + (j : Int) = (((pre cs k).length + j : Nat) : Int) by omega]
              refine atI_nat ?_
              rw [List.getElem?_map, pre, List.append_assoc, List.getElem?_append_right (by omega), Nat.add_sub_cancel_left, List.getElem?_append_left hj, hT]
              rfl
            have small : (pre cs (k + 1) ++ ((level cs k).take j).flatMap (longer cs)).length ≤ 2400 := by
              rw [List.length_append, flat_lenT, List.length_take]
              have p1 := pow_small c4 (k := k) (by omega)
              rw [← level_len] at p1
              have p2 : min j (level cs k).length * cs.length ≤ 256 * 4 := Nat.mul_le_mul (by omega) c4
              omega
            refine ⟨_, rfl, .inl ⟨rfl, _, .of e3⟩, _, rfl, t, rfl, ⟨_, tT⟩, fun D nD => lc_it (walk_tup (xs := cs.map oneV)) (fun m H5 => Same H' H5 ∧ H5 D = some (.lst (((cs.take m).map fun c => T ++ oneS c).map V.str))) ⟨same_upd nD, upd_same⟩ (fun _ H5 _ hP => same_tup hP.1 tT) (fun m x H5 H6 hm hP hY => ?_) (fun H5 hP => ?_)⟩
            · obtain ⟨s5, e5⟩ := hP
              obtain ⟨rfl, hx⟩ := hY
              rw [List.getElem?_map] at hx
              obtain ⟨c, hc, rfl⟩ := Option.map_eq_some_iff.mp hx
              refine ⟨rfl, _, rfl, _, rfl, l, _, _, _, rfl, rfl, .of (s5 _ _ e3), at0, _, rfl, T, oneS c, rfl, rfl, by rw [Tl, sizeLine_eq]; show k + 1 ≤ _; omega, _, e5, by rw [List.length_map, List.length_map, List.length_take]; exact small1000 (by omega), fun y o u => by rw [upd_ne (ne_of_none u nD)]; exact s5 _ _ u, ?_⟩
              rw [upd_same, List.take_add_one, hc, List.map_append, List.map_append]
              rfl
            · obtain ⟨s5, e5⟩ := hP
              have tk : cs.take (cs.map oneV).length = cs := List.take_of_length_le (by rw [List.length_map]; exact Nat.le_refl _)
              rw [tk] at e5
              refine ⟨l, D, _, _, rfl, rfl, s5 _ _ e3, e5, by rw [List.length_map, List.length_map, List.length_map]; rw [sizeLine_eq]; omega, _, rfl, fun y o u => ?_, ?_⟩
              · rw [upd_ne (ne_of_none u nl)]
                exact s5 _ _ (s3 _ _ u)
              · rw [upd_same, List.take_add_one, hT, ← List.map_append, List.flatMap_append, ← List.append_assoc]
                show some (HO.lst (List.map V.str ((pre cs (k + 1) ++ ((level cs k).take j).flatMap (longer cs)) ++ longer cs T))) = some (HO.lst (List.map V.str ((pre cs (k + 1) ++ ((level cs k).take j).flatMap (longer cs)) ++ [T].flatMap (longer cs))))
                rw [List.flatMap_cons, List.flatMap_nil, List.append_nil]
          · obtain ⟨a6', rfl, s3, e3⟩ := hP
            rw [List.take_of_length_le (by rw [List.length_map]; omega)] at e3
            exact ⟨a6', rfl, s3, e3⟩
        rintro σ3 H3 ⟨a6, rfl, s3, e3⟩
        exact ⟨_, rfl, _, _, _, rfl, s3, e3⟩
      · obtain ⟨a4, a5, a6, rfl, s2, e2⟩ := hP
        exact ⟨_, _, _, _, rfl, s2, e2⟩
    rintro σ2 H2 ⟨a3, a4, a5, a6, rfl, s2, e2⟩
    exact ⟨_, rfl, q H2 l s2 e2⟩
end
end K0
end
/-! ### JX -/
section
set_option Elab.async false
set_option linter.all false
set_option maxRecDepth 100000
set_option maxHeartbeats 4000000
/-! The draws' promises and the tuples' rules under names that do not unfold. -/
namespace K0.J
open PySem PySem.Spec PyProof.Rows L2
@[irreducible] def spOne (K : PySem.W.Frag) : Sp := K0.spOne K
@[irreducible] def spRoll : Sp := K0.spRoll
@[irreducible] def spMixed (K : PySem.W.Frag) : Sp := K0.spMixed K
@[irreducible] def spLWord (K : PySem.W.Frag) : Sp := K0.spLWord K
@[irreducible] def rRepA (K : PySem.W.Frag) : R2 := K0.rRepA K
@[irreducible] def rCatA (K : PySem.W.Frag) : R2 := L2.rCatA K
@[irreducible] def rSlA (K : PySem.W.Frag) : V → Option Int → Option Int → Hp → VK → Prop := L2.rSlA K
theorem spOne_eq (K : PySem.W.Frag) : spOne K = K0.spOne K := by unfold spOne; rfl
theorem spRoll_eq : spRoll = K0.spRoll := by unfold spRoll; rfl
theorem spMixed_eq (K : PySem.W.Frag) : spMixed K = K0.spMixed K := by unfold spMixed; rfl
theorem spLWord_eq (K : PySem.W.Frag) : spLWord K = K0.spLWord K := by unfold spLWord; rfl
theorem rRepA_eq (K : PySem.W.Frag) : rRepA K = K0.rRepA K := by unfold rRepA; rfl
theorem rCatA_eq (K : PySem.W.Frag) : rCatA K = L2.rCatA K := by unfold rCatA; rfl
theorem rSlA_eq (K : PySem.W.Frag) : rSlA K = L2.rSlA K := by unfold rSlA; rfl
theorem op_repA {X : Cx} : OpR X (binaryOp .Mult) (rRepA X.K) := by rw [rRepA_eq]; exact K0.op_repA
theorem op_catA {X : Cx} : OpR X (binaryOp .Add) (rCatA X.K) := by rw [rCatA_eq]; exact L2.op_catA
theorem sl_tupA {X : Cx} : SlR X (rSlA X.K) := by rw [rSlA_eq]; exact L2.sl_tupA
theorem roll_at {p : Addr} {H : Hp} {t : Int} {Q : VK} {E : XK} (d : Dice p H) (h1 : 1 ≤ t) (h2 : t ≤ 1000) (q : ∀ r, 0 ≤ r → r < t → ∀ H', Keep p H H' → Q (.int r) H') : spRoll [.ref p, .int t] H Q E := by
  rw [spRoll_eq]
  exact K0.roll_at d h1 h2 q
theorem one_at {K : PySem.W.Frag} {p : Addr} {H : Hp} {v : V} {xs : List V} {Q : VK} {E : XK} (d : Dice p H) (hs : Its K (hid p H) v xs) (ne : xs ≠ []) (sz : xs.length ≤ 1000) (q : ∀ x ∈ xs, ∀ H', Keep p H H' → Q x H') : spOne K [.ref p, v] H Q E := by
  rw [spOne_eq]
  exact K0.one_at d hs ne sz q
theorem one_new {K : PySem.W.Frag} {p l : Addr} {H : Hp} {xs : List V} {Q : VK} {E : XK} (d : Dice p H) (nl : H l = none) (ne : xs ≠ []) (sz : xs.length ≤ 1000) (q : ∀ x ∈ xs, ∀ H', Keep p H H' → Q x H') : spOne K [.ref p, .ref l] (upd H l (.lst xs)) Q E := by
  rw [spOne_eq]
  exact K0.one_new d nl ne sz q
section
variable {P : Program} {w : World} {K : PySem.W.Frag} {mg : Str → Option Value} {base : Heap} {CX : CXT} {k : Nat} {f : Addr} {fd : FuncData} {ps : List Str}
theorem one (F : FnOk P w K mg base CX k f fd ps (K0.spOne K)) : FnOk P w K mg base CX k f fd ps (spOne K) := by rw [spOne_eq]; exact F
theorem roll (F : FnOk P w K mg base CX k f fd ps K0.spRoll) : FnOk P w K mg base CX k f fd ps spRoll := by rw [spRoll_eq]; exact F
theorem mixed (F : FnOk P w K mg base CX k f fd ps (K0.spMixed K)) : FnOk P w K mg base CX k f fd ps (spMixed K) := by rw [spMixed_eq]; exact F
theorem lword (F : FnOk P w K mg base CX k f fd ps (K0.spLWord K)) : FnOk P w K mg base CX k f fd ps (spLWord K) := by rw [spLWord_eq]; exact F
end
end K0.J
end
/-! ### WC2 -/
section
set_option Elab.async false
set_option linter.all false
set_option maxRecDepth 100000
set_option maxHeartbeats 4000000
namespace K0
open PySem PySem.Spec PyProof.Rows L2
open MD (dM KeysV KeyV)
theorem notin {H : Hp} {t : Addr} {S : List Addr} (n : H t = none) (h : ∀ b ∈ S, ∃ o, H b = some o) : t ∉ S := fun m => by
  obtain ⟨o, e⟩ := h t m
  rw [e] at n
  cases n
theorem Dice.at {p : Addr} {H : Hp} (d : Dice p H) : ∃ o, H p = some o := let ⟨a, b, c, e⟩ := d; ⟨_, e⟩
theorem Dice.new {p q : Addr} {H : Hp} {o : HO} (d : Dice p H) (n : H q = none) : Dice p (upd H q o) := d.same (same_upd n)
theorem lword_at {K : PySem.W.Frag} {p sg : Addr} {cs : List Nat} {H : Hp} {Q : VK} {E : XK} (d : Dice p H) (hT : SqT K (hid p H) sg (cs.map oneV)) (ne : cs ≠ []) (l3 : cs.length ≤ 15) (mem : ∀ c ∈ cs, c ∈ allSigns.cps.toList) (q : ∀ z H', Keep p H H' → sgAll z = true → z.length ≤ 2 → Q (.str z) H') : spLWord K [.ref p, .ref sg, .int 2] H Q E := by
  obtain ⟨a, b, c, e⟩ := d
  exact ⟨p, sg, a, b, c, cs, rfl, e, hT, ne, l3, mem, fun H' z k h1 h2 => q z H' k h1 h2⟩
theorem mixed_at {K : PySem.W.Frag} {p q0 : Addr} {xs : List V} {H : Hp} {Q : VK} {E : XK} (d : Dice p H) (hs : SqL K H q0 xs) (sz : xs.length ≤ 1000) (q : ∀ H' l ys, Keep p H H' → ys.Perm xs → H' l = some (.lst ys) → l ≠ p → Q (.ref l) H') : spMixed K [.ref p, .ref q0] H Q E := by
  obtain ⟨a, b, c, e⟩ := d
  exact ⟨p, a, b, c, q0, xs, rfl, e, hs, sz, q⟩
theorem sqt_hid {K : PySem.W.Frag} {p a : Addr} {H H' : Hp} {xs : List V} (k : KeepS [p] H H') (h : SqT K (hid p H) a xs) : SqT K (hid p H') a xs := same_tup hid_hids (same_tup k.hids (same_tup hids_hid h))
theorem ps_mputK {X : Cx} {K : PySem.W.Frag} {w : World} {o i value : Expr} {pos pos' : Pos} {td ty tv : TE} (eK : X.K = K) (ew : X.w = w) (hu : X.A.units + 64 < cLine) (ho : PE X o td) (hi : PE X i ty) (hv : PE X value tv) (hs : swapsWith value (some (.Subscript o i pos')) pos.line X.env = pure false) :
    PS X (.Assign [.Subscript o i pos'] value pos) (MD.sMPut K w td ty tv) := by
  subst eK ew
  exact MD.ps_mput hu ho hi hv hs
theorem call_mdictK {X : Cx} {K : PySem.W.Frag} {w : World} (eK : X.K = K) (ew : X.w = w) (hc : X.calm = true) (hu : X.A.units + 64 < cLine) : CallR X (.type "dict") (MD.rMDict K w) := by
  subst eK ew
  exact MD.call_mdict hc hu
/-- states drawn so far, in a list -/
def RowsIn (K : PySem.W.Frag) (w : World) (S : List Addr) (n : Nat) (g : StD → Bool) (H : Hp) (R : Addr) (k : Nat) : Prop := ∃ xs ws, H R = some (.lst xs) ∧ ws.length = k ∧ Paired (StX K w (hids S H) n) xs ws ∧ ∀ s ∈ ws, g s = true
section
variable {P : Program} {w : World} {K : PySem.W.Frag} {mg : Str → Option Value} {base : Heap} {f fR fO fM fW : Addr} {fd fdR fdO fdM fdW : FuncData}
def lkRow (q : Nat × Int) : RX := ((.text (oneS q.1), oneV q.1, .int q.2), .str (oneS q.1), .int q.2)
theorem oneS_inj {c e : Nat} (h : oneS c = oneS e) : c = e := congrArg codeS h
theorem lkRows {K : PySem.W.Frag} {H : Hp} {vw : Int} {ps : List (Nat × Int)} (nd : (ps.map (·.1)).Nodup) (few : ps.length ≤ 100) (mem : ∀ q ∈ ps, q.1 ∈ allSigns.cps.toList) (num : ∀ q ∈ ps, 0 ≤ q.2 ∧ q.2 < vw) :
    RowsX K H (ps.map lkRow) ∧ ((ps.map lkRow).all fun r => isSignD r.2.1 && isNumD 0 (vw - 1) r.2.2) = true := by
  refine ⟨⟨fun r hr => ?_, ?_, by rw [List.length_map]; omega, fun r hr => ?_, fun r hr => ?_⟩, List.all_eq_true.mpr fun r hr => ?_⟩
  · obtain ⟨x, hx, rfl⟩ := List.mem_map.mp hr
    obtain ⟨q, hq, rfl⟩ := List.mem_map.mp hx
    exact ⟨.atom rfl, by show 0 ≤ 8; decide⟩
  · rw [List.map_map, List.map_map]
    have e : ((fun x : MD.Row => x.1) ∘ (fun x : RX => x.1) ∘ lkRow) = (fun c => (.text (oneS c) : MD.NK)) ∘ (fun q : Nat × Int => q.1) := rfl
    have z : (ps.map (((fun x : MD.Row => x.1) ∘ (fun x : RX => x.1) ∘ lkRow))).Nodup := by
      rw [e, ← List.map_map]
      refine List.Pairwise.map _ (fun a b h z => h ?_) nd
      injection z with z
      exact oneS_inj z
    exact z
  · obtain ⟨q, hq, rfl⟩ := List.mem_map.mp hr
    exact ⟨.str _, .int _⟩
  · obtain ⟨q, hq, rfl⟩ := List.mem_map.mp hr
    have fits := List.all_eq_true.mp signs_fit q.1 (mem q hq)
    rw [Bool.and_eq_true, Bool.and_eq_true, Bool.and_eq_true, Bool.and_eq_true] at fits
    obtain ⟨f1, f2⟩ := fitK_ok fits.1.1.1.1
    exact ⟨f2, by show 0 ≤ 10000; decide, f1⟩
  · obtain ⟨q, hq, rfl⟩ := List.mem_map.mp hr
    have fits := List.all_eq_true.mp signs_fit q.1 (mem q hq)
    rw [Bool.and_eq_true] at fits
    obtain ⟨n0, n1⟩ := num q hq
    show (isSignD (.str (oneS q.1)) && (decide (0 ≤ q.2) && decide (q.2 ≤ vw - 1))) = true
    rw [fits.2, decide_eq_true n0, decide_eq_true (by omega)]
    rfl
namespace J
theorem lword_at {K : PySem.W.Frag} {p sg : Addr} {cs : List Nat} {H : Hp} {Q : VK} {E : XK} (d : Dice p H) (hT : SqT K (hid p H) sg (cs.map oneV)) (ne : cs ≠ []) (l3 : cs.length ≤ 15) (mem : ∀ c ∈ cs, c ∈ allSigns.cps.toList) (q : ∀ z H', Keep p H H' → sgAll z = true → z.length ≤ 2 → Q (.str z) H') : spLWord K [.ref p, .ref sg, .int 2] H Q E := by
  rw [spLWord_eq]
  exact K0.lword_at d hT ne l3 mem q
theorem mixed_at {K : PySem.W.Frag} {p q0 : Addr} {xs : List V} {H : Hp} {Q : VK} {E : XK} (d : Dice p H) (hs : SqL K H q0 xs) (sz : xs.length ≤ 1000) (q : ∀ H' l ys, Keep p H H' → ys.Perm xs → H' l = some (.lst ys) → l ≠ p → Q (.ref l) H') : spMixed K [.ref p, .ref q0] H Q E := by
  rw [spMixed_eq]
  exact K0.mixed_at d hs sz q
set_option maxHeartbeats 8000000 in
theorem ok_wild {k : Nat} (F : FnP K "_law_wild_cleaner" iWild f fd) (mlist : mg "list" = none) (mrange : mg "range" = none) (mdict : mg "dict" = none)
    (FR : FnOk P w K mg base CX0 (k + 3) fR fdR ["dice", "total"] spRoll) (gR : mg "_law_roll" = some (.ref fR)) (kR : PySem.W.keepIn K (.ref fR) = true) (bR : Binds K fdR ["dice", "total"] [])
    (FO : FnOk P w K mg base CX0 (k + 3) fO fdO ["dice", "items"] (spOne K)) (gO : mg "_law_one_of" = some (.ref fO)) (kO : PySem.W.keepIn K (.ref fO) = true) (bO : Binds K fdO ["dice", "items"] [])
    (FM : FnOk P w K mg base CX0 (k + 3) fM fdM ["dice", "items"] (spMixed K)) (gM : mg "_law_mixed" = some (.ref fM)) (kM : PySem.W.keepIn K (.ref fM) = true) (bM : Binds K fdM ["dice", "items"] [])
    (FW : FnOk P w K mg base CX0 (k + 3) fW fdW ["dice", "signs", "upto"] (spLWord K)) (gW : mg "_law_word" = some (.ref fW)) (kW : PySem.W.keepIn K (.ref fW) = true) (bW : Binds K fdW ["dice", "signs", "upto"] []) :
    FnOk P w K mg base CX0 (k + 4) f fd ["dice", "signs"] (spWild K w) := by
  refine F.ok scWild (fun vs H Q E h => ?_) (fun cdv A outer s H vs Q E hr h => ?_)
  · obtain ⟨p, sg, cs, rfl, _⟩ := h
    rfl
  · obtain ⟨p, sg, cs, rfl, d0, hT, nd, ne, l3, mem, q⟩ := h
    refine ⟨_, PSs.nox (C8.pss_cut (ps_asg (pe_tup (pa_cons (pe_call FO hr (by rfl) gO kO bO .nil pass0 (pa_cons (pv 0) (pa_cons (pe_lst (pa_cons pe_int (pa_cons pe_int (pa_cons pe_int pa_nil)))) pa_nil)))
          (pa_cons (pe_op op_add pe_int (pe_call FR hr (by rfl) gR kR bR .nil pass0 (pa_cons (pv 0) (pa_cons pe_int pa_nil)))) (pa_cons (pe_lst pa_nil) pa_nil)))) (pg_tup rfl (pgs_cons (pg_name (i := 2) scWild.nd rfl (.inr rfl)) (pgs_cons (pg_name (i := 3) scWild.nd rfl (.inr rfl)) (pgs_cons (pg_name (i := 4) scWild.nd rfl (.inl rfl)) pgs_nil)))))
      (C8.pss_cut (ps_for PassesOwn.never rfl (pi_range1 (by rfl) mrange (pa_cons (pv 3) pa_nil)) (pg_name (i := 5) scWild.nd rfl (.inl rfl))
        (pss_cons (ps_set (i := 6) scWild.nd rfl (.inl rfl) MD.pe_mnew)
        (C8.pss_cut (ps_for PassesOwn.never rfl (pi_list (pe_call FM hr (by rfl) gM kM bM .nil pass0 (pa_cons (pv 0) (pa_cons (pe_callTy call_list_of (by rfl) mlist (by decide +kernel) (pa_cons (pv 1) pa_nil)) pa_nil)))) (pg_name (i := 7) scWild.nd rfl (.inl rfl))
          (pss_one (ps_if (pt_cmpR op_eq (pe_call FR hr (by rfl) gR kR bR .nil pass0 (pa_cons (pv 0) (pa_cons pe_int pa_nil))) pe_int (nomark _))
            (pss_cons (ps_set (i := 8) scWild.nd rfl (.inl rfl) (pe_call FO hr (by rfl) gO kO bO .nil pass0 (pa_cons (pv 0) (pa_cons (pe_op op_cat (pe_lst (pa_cons pe_non pa_nil)) (pe_callTy (call_list_r12 rfl) (by rfl) mlist (by decide +kernel) (pa_cons (pe_callTy cr_range1 (by rfl) mrange (by decide +kernel) (pa_cons (pv 2) pa_nil)) pa_nil))) pa_nil))))
            (pss_cons (ps_set (i := 9) scWild.nd rfl (.inl rfl) (pe_lst (pa_cons pe_str (pa_cons pe_str (pa_cons (pv 7) (pa_cons (pe_call FW hr (by rfl) gW kW bW .nil pass0 (pa_cons (pv 0) (pa_cons (pv 1) (pa_cons pe_int pa_nil)))) pa_nil))))))
            (pss_one (ps_mputK (K := K) (w := w) rfl rfl hr.units (pv 6) (pe_tup (pa_cons (pv 7) (pa_cons (pv 8) pa_nil))) (pe_tup (pa_cons (pe_call FO hr (by rfl) gO kO bO .nil pass0 (pa_cons (pv 0) (pa_cons (pv 9) pa_nil))) (pa_cons (pe_call FR hr (by rfl) gR kR bR .nil pass0 (pa_cons (pv 0) (pa_cons (pv 3) pa_nil))) pa_nil))) rfl)))) pss_nil)))
        (pss_one (ps_expr (pe_bm PySem.F.plainAttrs_list PySem.F.slot_list_append PySem.F.type_list_append mt_append (pv 4) (pa_cons (pe_tup (pa_cons (pv 6) (pa_cons (pe_call FR hr (by rfl) gR kR bR .nil pass0 (pa_cons (pv 0) (pa_cons (pv 3) pa_nil)))
          (pa_cons (pe_call FO hr (by rfl) gO kO bO .nil pass0 (pa_cons (pv 0) (pa_cons (pe_lst (pa_cons pe_str (pa_cons pe_str (pa_cons pe_str (pa_cons (pe_call FW hr (by rfl) gW kW bW .nil pass0 (pa_cons (pv 0) (pa_cons (pv 1) (pa_cons pe_int pa_nil)))) pa_nil))))) pa_nil))) pa_nil)))) pa_nil)))))))
      (pss_cons (ps_set (i := 10) scWild.nd rfl (.inl rfl) (pe_lst pa_nil))
      (C8.pss_cut (ps_for PassesOwn.never rfl (pi_range1 (by rfl) mrange (pa_cons (pv 2) pa_nil)) (pg_name (i := 8) scWild.nd rfl (.inl rfl))
        (C8.pss_cut (ps_setLc (i := 11) (own := [("sign", 7)]) (g := gName 7) (te := tVar 7) (by rfl) scWild.nd rfl rfl (sw_true rfl rfl rfl rfl) (pi_tup (pv 1)) (blkOk_by (N := wiN) (sc := defScope (top iWild)) (by decide +kernel))
          (fun _ _ _ _ _ => pg_name (i := 7) scWild.nd rfl (Or.inl rfl)) (fun _ _ _ _ _ => pts_one (pt_cmpR op_eq (pe_call FR hr (by rfl) gR kR bR .nil pass0 (pa_cons (pv 0) (pa_cons pe_int pa_nil))) pe_int (nomark _))) (fun _ _ _ _ _ => pv 7))
        (pss_one (ps_expr (pe_bm PySem.F.plainAttrs_list PySem.F.slot_list_append PySem.F.type_list_append mt_append (pv 10) (pa_cons (pe_tup (pa_cons (pe_callTy (call_mdictK (K := K) (w := w) rfl rfl rfl hr.units) (by rfl) mdict (by decide +kernel) (pa_cons
            (pe_lc (own := [("sign", 7)]) (g := gName 7) (tt := tYes) rfl scWild.nd (pi_list (pv 11)) (blkOk_by (N := wiN) (sc := defScope (top iWild)) (by decide +kernel))
              (fun _ _ _ _ _ => pg_name (i := 7) scWild.nd rfl (Or.inl rfl)) (fun _ _ _ _ _ => pts_nil) (fun _ _ _ _ _ => pe_tup (pa_cons (pv 7) (pa_cons (pe_call FR hr (by rfl) gR kR bR .nil pass0 (pa_cons (pv 0) (pa_cons (pv 2) pa_nil))) pa_nil)))) pa_nil))
          (pa_cons (pe_call FR hr (by rfl) gR kR bR .nil pass0 (pa_cons (pv 0) (pa_cons (pv 2) pa_nil))) pa_nil))) pa_nil))))))
      (C8.pss_cut (ps_setLc (i := 12) (own := [("view", 8)]) (g := gName 8) (tt := tYes) (by rfl) scWild.nd rfl rfl (sw_true rfl rfl rfl rfl) (pi_range1 (by rfl) mrange (pa_cons (pv 2) pa_nil)) (blkOk_by (N := wiN) (sc := defScope (top iWild)) (by decide +kernel))
          (fun _ _ _ _ _ => pg_name (i := 8) scWild.nd rfl (Or.inl rfl)) (fun _ _ _ _ _ => pts_nil) (fun _ _ _ _ _ => pe_call FO hr (by rfl) gO kO bO .nil pass0 (pa_cons (pv 0) (pa_cons (pe_lst (pa_cons pe_int (pa_cons pe_int (pa_cons pe_int (pa_cons pe_int (pa_cons
            (pe_call FR hr (by rfl) gR kR bR .nil pass0 (pa_cons (pv 0) (pa_cons (pv 3) pa_nil))) (pa_cons pe_non pa_nil))))))) pa_nil))))
      (pss_one (ps_ret (pe_tup (pa_cons (pv 4) (pa_cons (pv 10) (pa_cons (pv 12) pa_nil)))))))))))
      , ?_⟩
    have sl : sizeLine = 16777216 := sizeLine_eq
    have kh0 : Keep p H H := d0.keep
    -- views, size, rows
    refine ⟨fun σ' H' => ∃ (vw : Int) (n : Nat) (R : Addr) (H2 : Hp), σ' = [some (.ref p), some (.ref sg), some (.int vw), some (.int (n : Nat)), some (.ref R), none, none, none, none, none, none, none, none] ∧ (vw = 1 ∨ vw = 2) ∧ 1 ≤ n ∧ n ≤ 3 ∧ Keep p H H2 ∧ H2 R = none ∧ Same (upd H2 R (.lst [])) H', ?_, ?_⟩
    · refine ⟨_, rfl, by show 3 ≤ sizeLine; omega, fun l nl => one_new d0 nl (by simp) (by decide) fun x mx H1 k1 => ?_⟩
      obtain ⟨vw, rfl, hv⟩ : ∃ vw : Int, x = .int vw ∧ (vw = 1 ∨ vw = 2) := by
        simp only [List.mem_cons, List.not_mem_nil, or_false] at mx
        rcases mx with rfl | rfl | rfl
        · exact ⟨1, rfl, .inl rfl⟩
        · exact ⟨1, rfl, .inl rfl⟩
        · exact ⟨2, rfl, .inr rfl⟩
      refine ⟨_, rfl, roll_at k1.2 (by decide) (by decide) fun r r0 r1 H2 k2 => ⟨_, _, rfl, rfl, by show 0 ≤ sizeLine; omega, fun R nR => ?_⟩⟩
      refine ⟨by show 3 ≤ sizeLine; omega, fun T nT => ⟨T, _, rfl, .of upd_same, rfl, _, _, rfl, _, _, rfl, _, _, rfl, rfl, vw, (1 + r).toNat, R, H2, ?_, hv, by omega, by omega, k1.trans k2, nR, same_upd nT⟩⟩
      rw [show (((1 + r).toNat : Nat) : Int) = 1 + r by omega]
      rfl
    rintro σ1 H1 ⟨vw, n, R, H2, rfl, hv, n1, n3, k2, nR, s1⟩
    have hR1 : H1 R = some (.lst []) := s1 _ _ upd_same
    have kS1 : KeepS [p] H2 H1 := .same ((same_upd nR).trans s1)
    have d2 : Dice p H2 := k2.2
    have d1 : Dice p H1 := (d2.new nR).same s1
    have Rp : R ≠ p := fun z => by
      obtain ⟨a, b, c, e⟩ := d2
      rw [z, e] at nR
      cases nR
    -- the rows
    refine ⟨fun σ' H' => ∃ x5 x6 x7 x8 x9, σ' = [some (.ref p), some (.ref sg), some (.int vw), some (.int (n : Nat)), some (.ref R), x5, x6, x7, x8, x9, none, none, none] ∧ Dice p H' ∧ KeepS [p] H2 H' ∧ RowsIn K w [p, R] 3 (fun s => wStD n vw s && fewB s) H' R n, ?_, ?_⟩
    · refine ⟨_, rfl, _, rfl, by omega, by omega, for_it (walk_range (lo := 0) (n := ((n : Nat) : Int).toNat)) (fun i σ' H' => ∃ x5 x6 x7 x8 x9, σ' = [some (.ref p), some (.ref sg), some (.int vw), some (.int (n : Nat)), some (.ref R), x5, x6, x7, x8, x9, none, none, none] ∧ Dice p H' ∧ KeepS [p] H2 H' ∧ RowsIn K w [p, R] 3 (fun s => wStD n vw s && fewB s) H' R i)
        ⟨none, none, none, none, none, rfl, d1, kS1, [], [], hR1, rfl, .nil, fun _ m => nomatch m⟩ (fun _ _ _ _ _ => trivial) (fun i x σ' H'0 H' hi hP hY => ?_) (fun σ' H' hP => ?_)⟩
      · obtain ⟨x5, x6, x7, x8, x9, rfl, d3, k3, xs, ws, hR, wl, hPr, gd⟩ := hP
        obtain ⟨rfl, rfl⟩ := hY
        intro m nm
        have Rm : m ≠ R := (ne_of_none hR nm).symm
        have pm : m ≠ p := fun z => by
          obtain ⟨a, b, c, e⟩ := d3
          rw [z, e] at nm
          cases nm
        have s3 := same_upd (o := dM w m []) nm
        have d3' := d3.same s3
        -- the moves
        refine ⟨fun σ' Hx => ∃ x7 x8 x9, σ' = [some (.ref p), some (.ref sg), some (.int vw), some (.int (n : Nat)), some (.ref R), some (.int (0 + (i : Nat))), some (.ref m), x7, x8, x9, none, none, none] ∧ Dice p Hx ∧ KeepS [p] H' Hx ∧ ∃ rs tk, MovesAt K w Hx [p, m, R] m n vw tk rs ∧ tk.length ≤ 3, ?_, ?_⟩
        · refine ⟨_, rfl, _, rfl, sg, _, rfl, .inr (same_tup hid_out (sqt_hid ((k2.s (List.mem_singleton.mpr rfl)).trans (k3.trans (.same s3))) hT)), fun q0 nq => mixed_at (d3'.new nq) (.of upd_same) (by rw [List.length_map]; omega) fun H4 l ys k4 pm' el nlp => ⟨l, rfl, ⟨ys, .of el⟩, ?_⟩⟩
          obtain ⟨cs2, pc, rfl⟩ := perm_codes (f := oneV) (g := codeV) (fun c => rfl) pm'
          have cl := pc.length_eq
          have s4 : Same (upd H' m (dM w m [])) (upd (upd H' m (dM w m [])) q0 (.lst (cs.map oneV))) := same_upd nq
          have m4 : H4 m = some (dM w m []) := k4.1 _ _ pm (s4 _ _ upd_same)
          have nlm : l ≠ m := fun z => by
            rw [z, m4] at el
            cases el
          have kH4 : KeepS [p] H' H4 := (KeepS.same (s3.trans s4)).trans (k4.s (List.mem_singleton.mpr rfl))
          refine for_it (walk_list (xs := cs2.map oneV)) (fun j σ' Hj => ∃ x7 x8 x9, σ' = [some (.ref p), some (.ref sg), some (.int vw), some (.int (n : Nat)), some (.ref R), some (.int (0 + (i : Nat))), some (.ref m), x7, x8, x9, none, none, none] ∧ Dice p Hj ∧ KeepS [p, m] H4 Hj ∧ ∃ rs, MovesAt K w Hj [p, m, R] m n vw (cs2.take j) rs)
            ⟨x7, x8, x9, rfl, k4.2, KeepS.refl _ _, [], m4, ⟨fun _ z => (nomatch z), List.nodup_nil, by decide, fun _ z => (nomatch z), fun _ z => (nomatch z)⟩, fun _ z => (nomatch z), fun _ z => (nomatch z), Nat.zero_le _⟩ (fun j σ' Hj _ hP => ?_) (fun j x σ' Hj Hj' hj hP hY => ?_) (fun σ' Hj hP => ?_)
          · obtain ⟨_, _, _, _, _, kj, _⟩ := hP
            exact .of (kj _ _ (by simp [nlp, nlm]) el)
          · obtain ⟨y7, y8, y9, rfl, dj, kj, rs, mv⟩ := hP
            obtain ⟨rfl, hx⟩ := hY
            rw [List.getElem?_map] at hx
            obtain ⟨c, hc, rfl⟩ := Option.map_eq_some_iff.mp hx
            have mc : c ∈ allSigns.cps.toList := mem c (pc.mem_iff.mp (List.mem_of_getElem? hc))
            have tk : cs2.take (j + 1) = cs2.take j ++ [c] := by rw [List.take_add_one, hc]; rfl
            have newc : c ∉ cs2.take j := fun z => by
              have nd2 := pc.nodup_iff.mpr nd
              obtain ⟨i2, hi2⟩ := List.mem_iff_getElem?.mp z
              have lt := (List.getElem?_eq_some_iff.mp hi2).1
              rw [List.length_take] at lt
              rw [List.getElem?_take_of_lt (by omega)] at hi2
              have := (List.getElem?_inj (List.getElem?_eq_some_iff.mp hi2).1 nd2).mp (hi2.trans hc.symm)
              omega
            have hRj : ∃ o, Hj' R = some o := ⟨_, kj _ _ (by simp [Rm.symm, Rp]) (kH4 _ _ (by simp [Rp]) hR)⟩
            refine ⟨_, rfl, roll_at dj (by decide) (by decide) fun r r0 r1 H5 k5 => ⟨rfl, _, rfl, ite2 (fun e => ?_) (fun e => ?_)⟩⟩
            · refine ⟨_, rfl, by show 1 ≤ sizeLine; omega, fun l1 nl1 => ⟨_, rfl, vw, rfl, fun rg nrg => ⟨rg, vw, rfl, upd_same, hv, fun l2 nl2 => ?_⟩⟩⟩
              have a1 := k5.new2 (o := .lst [.non]) nl1
              have a2 := a1.new2 (o := .rng 0 vw) nrg
              have a3 := a2.new2 (o := .lst (r12 vw)) nl2
              have e1 : upd (upd (upd H5 l1 (.lst [.non])) rg (.rng 0 vw)) l2 (.lst (r12 vw)) l1 = some (.lst [.non]) := by
                rw [upd_ne (ne_of_none (by rw [upd_ne (ne_of_none upd_same nrg), upd_same]) nl2), upd_ne (ne_of_none upd_same nrg), upd_same]
              have rl : (r12 vw).length ≤ 2 := by rcases hv with rfl | rfl <;> decide
              refine ⟨l1, l2, _, _, rfl, rfl, e1, upd_same, by show 1 + _ ≤ sizeLine; omega, fun q1 nq1 => one_new a3.2 nq1 (by simp) (by rw [List.length_append]; show 1 + _ ≤ 1000; omega) fun vv mvv H6 k6 => ?_⟩
              obtain ⟨vd, nk, hview⟩ : ∃ vd nk, ViewV vw vv vd nk := by
                rcases List.mem_append.mp mvv with z | z
                · rw [List.mem_singleton.mp z]
                  exact ⟨_, _, .inl ⟨rfl, rfl, rfl⟩⟩
                · rcases hv with rfl | rfl
                  · have z : vv ∈ [V.int 0] := z
                    rw [List.mem_singleton.mp z]
                    exact ⟨_, _, .inr ⟨0, rfl, rfl, rfl, by decide, by decide⟩⟩
                  · have z : vv ∈ [V.int 0, V.int 1] := z
                    simp only [List.mem_cons, List.not_mem_nil, or_false] at z
                    rcases z with rfl | rfl
                    · exact ⟨_, _, .inr ⟨0, rfl, rfl, rfl, by decide, by decide⟩⟩
                    · exact ⟨_, _, .inr ⟨1, rfl, rfl, rfl, by decide, by decide⟩⟩
              have a4 := a3.trans k6
              have kj' : KeepS [p, m] H' Hj' := (kH4.more (by simp)).trans kj
              have tHj : KeepS [p] H' Hj' := KeepS.new (m := m) (kj'.more (by simp)) nm
              have hT6 : SqT K (hid p H6) sg (cs.map oneV) := sqt_hid ((k2.s (List.mem_singleton.mpr rfl)).trans (k3.trans (tHj.trans (a4.s (List.mem_singleton.mpr rfl))))) hT
              refine ⟨_, rfl, _, rfl, _, rfl, lword_at a4.2 hT6 ne (by omega) mem fun wd H7 k7 sg7 l7 => ⟨by show 4 ≤ sizeLine; omega, fun L nL => ?_⟩⟩
              have a5 := a4.trans k7
              have a6 := a5.new2 (o := .lst [.str "", .str "", oneV c, .str wd]) nL
              have Lp : L ≠ p := fun z => by
                obtain ⟨a, b, c, e⟩ := a5.2
                rw [z, e] at nL
                cases nL
              refine ⟨_, rfl, _, rfl, one_at (xs := [.str "", .str "", oneV c, .str wd]) a6.2 (.inl ⟨L, rfl, .inl (.of (by rw [hid_ne Lp]; exact upd_same))⟩) (by simp) (by show 4 ≤ 1000; decide) fun zv mz H8 k8 => ?_⟩
              obtain ⟨z, rfl, hz, lz⟩ : ∃ z : Str, zv = .str z ∧ sgAll z = true ∧ z.length ≤ 2 := by
                simp only [List.mem_cons, List.not_mem_nil, or_false] at mz
                rcases mz with rfl | rfl | rfl | rfl
                · exact ⟨_, rfl, by decide +kernel, by decide⟩
                · exact ⟨_, rfl, by decide +kernel, by decide⟩
                · exact ⟨_, rfl, sg_one mc, by show 1 ≤ 2; decide⟩
                · exact ⟨_, rfl, sg7, l7⟩
              have a7 := a6.trans k8
              refine ⟨_, rfl, _, rfl, roll_at a7.2 (by omega) (by omega) fun r2 g0 g1 H9 k9 => ⟨by show 2 ≤ sizeLine; omega, fun T2 nT2 => ⟨_, rfl, _, rfl, _, rfl, by show 2 ≤ sizeLine; omega, fun T3 nT3 => ?_⟩⟩⟩
              have a8 := a7.trans k9
              have a9 := a8.new2 (o := .tup [.str z, .int r2]) nT2
              have a10 := a9.new2 (o := .tup [oneV c, vv]) nT3
              have inS : ∀ Hc, Keep p Hj' Hc → ∀ b ∈ [p, m, R], ∃ o, Hc b = some o := fun Hc kc b hb => by
                simp only [List.mem_cons, List.not_mem_nil, or_false] at hb
                rcases hb with rfl | rfl | rfl
                · exact Dice.at kc.2
                · exact ⟨_, kc.1 _ _ pm mv.at_⟩
                · obtain ⟨o, e⟩ := hRj
                  exact ⟨o, kc.1 _ _ Rp e⟩
              have t2 := notin nT2 (inS _ a8)
              have t3 := notin nT3 (inS _ a9)
              have mv10 : MovesAt K w _ [p, m, R] m n vw (cs2.take j) rs := mv.keep (a10.s (by simp)) ((a10.1 _ _ pm mv.at_).trans mv.at_.symm)
              have e2 : SqT K (hids [p, m, R] (upd (upd H9 T2 (.tup [.str z, .int r2])) T3 (.tup [oneV c, vv]))) T2 [.str z, .int r2] := .of (by rw [hids_of t2]; exact same_upd nT3 _ _ upd_same)
              have e3 : SqT K (hids [p, m, R] (upd (upd H9 T2 (.tup [.str z, .int r2])) T3 (.tup [oneV c, vv]))) T3 [.str (oneS c), vv] := .of (by rw [hids_of t3]; exact upd_same)
              obtain ⟨pe, mvp⟩ := MovesAt.put mv10 (by simp) mc newc hview hv hz lz g0 g1 (by omega) (by rw [List.length_take]; omega) e2 e3
              have few : (cs2.take j).length ≤ 3 := by rw [List.length_take]; omega
              have lrs := mv.len
              refine ⟨m, .tup [.text (oneS c), nk], rs.map (·.1), rfl, mv10.at_, mv10.ok.ks.same hids_out, .tup (same_tup hids_out e3) (.cons (.atom rfl) (.cons (view_dv hview).2.1 .nil)), ?_, by rw [List.length_map]; omega, ?_⟩
              · rcases hview with ⟨_, _, rfl⟩ | ⟨_, _, _, rfl, _⟩ <;> (show 1 ≤ 8; decide)
              · rw [pe, tk]
                refine ⟨_, _, _, rfl, ?_, ?_, _, mvp⟩
                · obtain ⟨a, b, c, e⟩ := a10.2
                  exact ⟨a, b, c, by rw [upd_ne pm.symm]; exact e⟩
                · exact (kj.trans (a10.s (by simp))).trans (KeepS.mut (by simp))
            · refine ⟨_, _, _, rfl, k5.2, kj.trans (k5.s (by simp)), rs, ?_⟩
              rw [tk]
              exact (mv.keep (k5.s (by simp)) ((k5.1 _ _ pm mv.at_).trans mv.at_.symm)).more c
          · obtain ⟨y7, y8, y9, rfl, dj, kj, rs, mv⟩ := hP
            exact ⟨y7, y8, y9, rfl, dj, KeepS.new (m := m) (((kH4.more (by simp)).trans kj).more (by simp)) nm, rs, _, mv, by rw [List.length_take]; omega⟩
        rintro σ4 Hx ⟨y7, y8, y9, rfl, dx, kx, rs, tk, mv, tk3⟩
        have hRx : Hx R = some (.lst xs) := kx _ _ (by simp [Rp]) hR
        have inS : ∀ Hc, Keep p Hx Hc → ∀ b ∈ [p, m, R], ∃ o, Hc b = some o := fun Hc kc b hb => by
          simp only [List.mem_cons, List.not_mem_nil, or_false] at hb
          rcases hb with rfl | rfl | rfl
          · exact Dice.at kc.2
          · exact ⟨_, kc.1 _ _ pm mv.at_⟩
          · exact ⟨_, kc.1 _ _ Rp hRx⟩
        refine ⟨_, rfl, .inl ⟨rfl, xs, .of hRx⟩, _, rfl, _, rfl, _, rfl, roll_at dx (by omega) (by omega) fun r r0 r1 H5 k5 => ?_⟩
        have hT5 : SqT K (hid p H5) sg (cs.map oneV) := sqt_hid ((k2.s (List.mem_singleton.mpr rfl)).trans (k3.trans (kx.trans (k5.s (List.mem_singleton.mpr rfl))))) hT
        refine ⟨_, rfl, _, rfl, _, rfl, lword_at k5.2 hT5 ne (by omega) mem fun wd H6 k6 sg6 l6 => ⟨by show 4 ≤ sizeLine; omega, fun L nL => one_new k6.2 nL (by simp) (by show 4 ≤ 1000; decide) fun zv mz H7 k7 => ?_⟩⟩
        obtain ⟨z, rfl, hz, lz⟩ : ∃ z : Str, zv = .str z ∧ sgAll z = true ∧ z.length ≤ 2 := by
          simp only [List.mem_cons, List.not_mem_nil, or_false] at mz
          rcases mz with rfl | rfl | rfl | rfl
          · exact ⟨_, rfl, by decide +kernel, by decide⟩
          · exact ⟨_, rfl, by decide +kernel, by decide⟩
          · exact ⟨_, rfl, by decide +kernel, by decide⟩
          · exact ⟨_, rfl, sg6, l6⟩
        have b1 := (k5.trans k6).trans k7
        refine ⟨by show 3 ≤ sizeLine; omega, fun T nT => ?_⟩
        have b2 := b1.new2 (o := .tup [.ref m, .int r, .str z]) nT
        have tT := notin nT (inS _ b1)
        have hRT := b2.1 _ _ Rp hRx
        have nTp : T ≠ R := fun e => tT (by simp [e])
        have wf : wStD n vw (.good rs [.int r, .str z] [.int r, .str z]) = true := by
          show (decide (0 ≤ r) && decide (r ≤ (n : Int) - 1) && (sgAll z && decide (z.length ≤ 2)) && rs.all fun q => isSeenD vw q.2.1 && isMoveD n q.2.2) = true
          rw [decide_eq_true r0, decide_eq_true (by omega), hz, decide_eq_true lz, show (rs.all fun q => isSeenD vw q.2.1 && isMoveD n q.2.2) = true from List.all_eq_true.mpr mv.good]
          rfl
        have kpR : KeepS [p, R] H' (upd (upd H7 T (.tup [.ref m, .int r, .str z])) R (.lst (xs ++ [.ref T]))) := ((kx.more (by simp)).trans (b2.s (by simp))).trans (KeepS.mut (by simp))
        have kpM : KeepS [p, m, R] Hx (upd (upd H7 T (.tup [.ref m, .int r, .str z])) R (.lst (xs ++ [.ref T]))) := (b2.s (by simp)).trans (KeepS.mut (by simp))
        have mRx : upd (upd H7 T (.tup [.ref m, .int r, .str z])) R (.lst (xs ++ [.ref T])) m = some (dM w m (rs.map (·.1))) := by
          rw [upd_ne Rm]
          exact b2.1 _ _ pm mv.at_
        have sub2 : ∀ b ∈ [p, R], b ∈ [p, m, R] := fun b hb => by
          simp only [List.mem_cons, List.not_mem_nil, or_false] at hb
          rcases hb with rfl | rfl <;> simp
        have st : StX K w (hids [p, R] (upd (upd H7 T (.tup [.ref m, .int r, .str z])) R (.lst (xs ++ [.ref T])))) 3 (.ref T) (.good rs [.int r, .str z] [.int r, .str z]) := by
          refine ⟨T, m, rfl, .of ?_, .cons (.int r) (.cons (.str z) .nil), rfl, ?_, (mv.ok.same kpM.hids).same (hids_sub sub2), fun dd hd => ?_⟩
          · rw [hids_of (fun e => tT (sub2 _ e)), upd_ne nTp, upd_same]
          · rw [hids_of (by simp [pm, Rm])]
            exact mRx
          · simp only [List.mem_cons, List.not_mem_nil, or_false] at hd
            rcases hd with rfl | rfl
            · show 0 ≤ 1000; decide
            · show z.length ≤ 1000; omega
        refine ⟨R, xs, .ref T, rfl, rfl, hRT, by have := MD.paired_len hPr; omega, _, _, _, _, _, rfl, ?_, KeepS.new (m := R) (((k3.trans kx).trans (b2.s (by simp))).more (by simp) |>.trans (KeepS.mut (by simp))) nR, xs ++ [.ref T], ws ++ [.good rs [.int r, .str z] [.int r, .str z]], upd_same, by rw [List.length_append, wl]; rfl, paired_snoc st (pairedI2 (fun _ _ y => y.same kpR.hids) hPr), fun s ms => ?_⟩
        · obtain ⟨a, b, c, e⟩ := b2.2
          exact ⟨a, b, c, by rw [upd_ne Rp.symm]; exact e⟩
        · rcases List.mem_append.mp ms with ms | ms
          · exact gd s ms
          · rw [List.mem_singleton.mp ms]
            show (wStD n vw (.good rs [.int r, .str z] [.int r, .str z]) && decide (rs.length ≤ 9)) = true
            rw [wf, decide_eq_true (by have := mv.len; omega)]
            rfl
      · rw [show ((n : Nat) : Int).toNat = n by omega] at hP
        exact hP
    rintro σ2 H3 ⟨x5, x6, x7, x8, x9, rfl, d3, k3, rowsR⟩
    obtain ⟨vn, rfl⟩ : ∃ vn : Nat, vw = vn := ⟨vw.toNat, by omega⟩
    obtain ⟨xsR, wsR, hR3, wl3, hP3, gd3⟩ := rowsR
    refine ⟨by show 0 ≤ sizeLine; omega, fun B nB => ?_⟩
    have Bp : B ≠ p := fun z => by
      obtain ⟨a, b, c, e⟩ := d3
      rw [z, e] at nB
      cases nB
    have RB : R ≠ B := ne_of_none hR3 nB
    have tS : ∀ {Hc : Hp}, KeepS [p] H3 Hc → SqT K (hid p Hc) sg (cs.map oneV) := fun kc => sqt_hid ((k2.s (List.mem_singleton.mpr rfl)).trans (k3.trans kc)) hT
    -- the back
    refine ⟨fun σ' H' => ∃ x5 x6 x7 x8 x9 x11, σ' = [some (.ref p), some (.ref sg), some (.int (vn : Nat)), some (.int (n : Nat)), some (.ref R), x5, x6, x7, x8, x9, some (.ref B), x11, none] ∧ Dice p H' ∧ KeepS [p] H3 H' ∧ RowsIn K w [p, B] 2 (fun s => lStD (vn : Nat) s && fewB s) H' B vn, ?_, ?_⟩
    · refine ⟨_, rfl, _, rfl, by omega, by omega, for_it (walk_range (lo := 0) (n := ((vn : Nat) : Int).toNat)) (fun i σ' H' => ∃ x5 x6 x7 x8 x9 x11, σ' = [some (.ref p), some (.ref sg), some (.int (vn : Nat)), some (.int (n : Nat)), some (.ref R), x5, x6, x7, x8, x9, some (.ref B), x11, none] ∧ Dice p H' ∧ KeepS [p] H3 H' ∧ RowsIn K w [p, B] 2 (fun s => lStD (vn : Nat) s && fewB s) H' B i)
        ⟨x5, x6, x7, x8, x9, none, rfl, d3.new nB, .same (same_upd nB), [], [], upd_same, rfl, .nil, fun _ m => nomatch m⟩ (fun _ _ _ _ _ => trivial) (fun i x σ' H'0 H' hi hP hY => ?_) (fun σ' H' hP => ?_)⟩
      · obtain ⟨y5, y6, y7, y8, y9, y11, rfl, d4, k4, ys, ls, hB, ll, hPb, gb⟩ := hP
        obtain ⟨rfl, rfl⟩ := hY
        -- the signs chosen
        refine ⟨fun σ' H5 => ∃ (L : Addr) (cs3 : List Nat), σ' = [some (.ref p), some (.ref sg), some (.int (vn : Nat)), some (.int (n : Nat)), some (.ref R), y5, y6, y7, some (.int (0 + (i : Nat))), y9, some (.ref B), some (.ref L), none] ∧ Dice p H5 ∧ KeepS [p] H' H5 ∧ H5 L = some (.lst (cs3.map oneV)) ∧ cs3.Sublist cs ∧ L ≠ p, ?_, ?_⟩
        · refine ⟨_, rfl, sg, rfl, ⟨_, same_tup hid_out (tS k4)⟩, fun D nD => lc_it (walk_tup (xs := cs.map oneV)) (fun j Hj => Dice p Hj ∧ KeepS [p] H' Hj ∧ ∃ cs3 : List Nat, Hj D = some (.lst (cs3.map oneV)) ∧ cs3.Sublist (cs.take j))
            ⟨d4.new nD, .same (same_upd nD), [], upd_same, by rw [List.take_zero]; exact List.Sublist.refl _⟩ (fun j Hj _ hP => ?_) (fun j x Hj Hj' hj hP hY => ?_) (fun Hj hP => ?_)⟩
          · exact same_tup hid_out (tS (k4.trans hP.2.1))
          · obtain ⟨dj, kj, cs3, hD, sub⟩ := hP
            obtain ⟨rfl, hx⟩ := hY
            rw [List.getElem?_map] at hx
            obtain ⟨c, hc, rfl⟩ := Option.map_eq_some_iff.mp hx
            have tk : cs.take (j + 1) = cs.take j ++ [c] := by rw [List.take_add_one, hc]; rfl
            have Dp : D ≠ p := fun z => by
              obtain ⟨a, b, c, e⟩ := d4
              rw [z, e] at nD
              cases nD
            refine ⟨rfl, _, rfl, roll_at dj (by decide) (by decide) fun r r0 r1 H6 k6 => ⟨rfl, _, rfl, ite2 (fun e => ?_) (fun e => ?_)⟩⟩
            · have lc := sub.length_le
              rw [List.length_take] at lc
              refine ⟨_, rfl, cs3.map oneV, k6.1 _ _ Dp hD, by rw [List.length_map]; exact small1000 (by omega), ?_, KeepS.new (m := D) (((kj.trans (k6.s (by simp))).more (by simp)).trans (KeepS.mut (by simp))) nD, cs3 ++ [c], by rw [upd_same, List.map_append]; rfl, by rw [tk]; exact sub.append (List.Sublist.refl _)⟩
              obtain ⟨a, b, c, e⟩ := k6.2
              exact ⟨a, b, c, by rw [upd_ne Dp.symm]; exact e⟩
            · exact ⟨k6.2, kj.trans (k6.s (by simp)), cs3, k6.1 _ _ Dp hD, by rw [tk]; exact List.Sublist.trans sub (List.sublist_append_left _ _)⟩
          · obtain ⟨dj, kj, cs3, hD, sub⟩ := hP
            rw [List.length_map, List.take_length] at sub
            refine ⟨D, cs3, rfl, dj, kj, hD, sub, fun z => ?_⟩
            obtain ⟨a, b, c, e⟩ := d4
            rw [z, e] at nD
            cases nD
        rintro σ5 H5 ⟨L, cs3, rfl, d5, k5, hL, sub, Lp⟩
        have hB5 : H5 B = some (.lst ys) := k5 _ _ (by simp [Bp]) hB
        have c3 := sub.length_le
        refine ⟨_, rfl, .inl ⟨rfl, ys, .of hB5⟩, _, rfl, L, rfl, ⟨_, .of hL⟩, fun D nD => lc_it (walk_list (xs := cs3.map oneV)) (fun j Hj => Dice p Hj ∧ KeepS [p] H5 Hj ∧ ∃ (Ts : List Addr) (ps : List (Nat × Int)), Hj D = some (.lst (Ts.map V.ref)) ∧ ps.map (·.1) = cs3.take j ∧ (∀ q ∈ ps, 0 ≤ q.2 ∧ q.2 < (vn : Nat)) ∧ Paired (fun T (q : Nat × Int) => SqT K (hids [p, D] Hj) T [oneV q.1, .int q.2]) Ts ps)
            ⟨d5.new nD, .same (same_upd nD), [], [], upd_same, rfl, (fun _ z => nomatch z), .nil⟩ (fun j Hj _ hP => ?_) (fun j x Hj Hj' hj hP hY => ?_) (fun Hj hP => ?_)⟩
        · exact .of (hP.2.1 _ _ (by simp [Lp]) hL)
        · obtain ⟨dj, kj, Ts, ps, hD, ep, num, hPt⟩ := hP
          obtain ⟨rfl, hx⟩ := hY
          rw [List.getElem?_map] at hx
          obtain ⟨c, hc, rfl⟩ := Option.map_eq_some_iff.mp hx
          have tk : cs3.take (j + 1) = cs3.take j ++ [c] := by rw [List.take_add_one, hc]; rfl
          have Dp : D ≠ p := fun z => by
            obtain ⟨a, b, c, e⟩ := d5
            rw [z, e] at nD
            cases nD
          refine ⟨rfl, _, rfl, _, rfl, _, rfl, roll_at dj (by omega) (by omega) fun r r0 r1 H6 k6 => ⟨by show 2 ≤ sizeLine; omega, fun T nT => ?_⟩⟩
          have kk := k6.new2 (o := .tup [oneV c, .int r]) nT
          have tT : T ∉ [p, D] := notin nT fun b hb => by
            simp only [List.mem_cons, List.not_mem_nil, or_false] at hb
            rcases hb with rfl | rfl
            · exact Dice.at k6.2
            · exact ⟨_, k6.1 _ _ Dp hD⟩
          have DT : T ≠ D := fun z => tT (by simp [z])
          have kS : KeepS [p, D] Hj' (upd (upd H6 T (.tup [oneV c, .int r])) D (.lst (Ts.map V.ref ++ [.ref T]))) := (kk.s (by simp)).trans (KeepS.mut (by simp))
          have lps : Ts.length ≤ 3 := by
            rw [MD.paired_len hPt, ← List.length_map (as := ps) (f := fun q => q.1), ep, List.length_take]
            omega
          refine ⟨Ts.map V.ref, kk.1 _ _ Dp hD, by rw [List.length_map]; omega, ?_, KeepS.new (m := D) (((kj.trans (kk.s (by simp))).more (by simp)).trans (KeepS.mut (by simp))) nD, Ts ++ [T], ps ++ [(c, r)], by rw [upd_same, List.map_append]; rfl, by rw [List.map_append, ep, tk]; rfl, fun q hq => ?_, paired_snoc ?_ (pairedI2 (fun _ _ y => same_tup kS.hids y) hPt)⟩
          · obtain ⟨a, b, c, e⟩ := kk.2
            exact ⟨a, b, c, by rw [upd_ne Dp.symm]; exact e⟩
          · rcases List.mem_append.mp hq with hq | hq
            · exact num q hq
            · rw [List.mem_singleton.mp hq]
              exact ⟨r0, r1⟩
          · exact .of (by rw [hids_of tT, upd_ne DT, upd_same])
        · obtain ⟨dj, kj, Ts, ps, hD, ep, num, hPt⟩ := hP
          rw [List.length_map, List.take_length] at ep
          have psm : ∀ q ∈ ps, q.1 ∈ cs := fun q hq => sub.subset (ep ▸ List.mem_map.mpr ⟨q, hq, rfl⟩)
          have psl : ps.length ≤ 3 := by rw [← List.length_map (as := ps) (f := fun q => q.1), ep]; omega
          have ndp : (ps.map (·.1)).Nodup := by rw [ep]; exact nd.sublist sub
          have er : (ps.map lkRow).map (·.1) = ps.map fun q => ((.text (oneS q.1), oneV q.1, .int q.2) : MD.Row) := by rw [List.map_map]; rfl
          have rows := lkRows (K := K) (H := Hj) (vw := (vn : Nat)) ndp (by omega) (fun q hq => mem _ (psm q hq)) num
          refine ⟨D, Ts, (ps.map lkRow).map (·.1), rfl, .of hD, ?_, rows.1.ks, rows.1.nd, fun m nm => ?_⟩
          · rw [er]
            have go : ∀ {Ts : List Addr} {ps : List (Nat × Int)}, Paired (fun T (q : Nat × Int) => SqT K (hids [p, D] Hj) T [oneV q.1, .int q.2]) Ts ps → Paired (fun T (r : MD.Row) => SqT K Hj T [r.2.1, r.2.2]) Ts (ps.map fun q => ((.text (oneS q.1), oneV q.1, .int q.2) : MD.Row)) := by
              intro Ts ps h
              induction h with
              | nil => exact .nil
              | cons h _ ih => exact .cons (same_tup hids_out h) ih
            exact go hPt
          · have sm := same_upd (o := dM w m ((ps.map lkRow).map (·.1))) nm
            have hBj : Hj B = some (.lst ys) := kj _ _ (by simp [Bp]) hB5
            refine ⟨_, rfl, _, rfl, roll_at (dj.same sm) (by omega) (by omega) fun r r0 r1 H7 k7 => ⟨by show 2 ≤ sizeLine; omega, fun T nT => ?_⟩⟩
            have kk := k7.new2 (o := .tup [.ref m, .int r]) nT
            have mp : m ≠ p := fun z => by
              obtain ⟨a, b, c, e⟩ := dj
              rw [z, e] at nm
              cases nm
            have mB : m ≠ B := (ne_of_none hBj nm).symm
            have hm7 := kk.1 _ _ mp (upd_same (H := Hj) (a := m))
            have hB7 := kk.1 _ _ Bp (sm _ _ hBj)
            have tT : T ∉ [p, B] := notin nT fun b hb => by
              simp only [List.mem_cons, List.not_mem_nil, or_false] at hb
              rcases hb with rfl | rfl
              · exact Dice.at k7.2
              · exact ⟨_, k7.1 _ _ Bp (sm _ _ hBj)⟩
            have TB : T ≠ B := fun z => tT (by simp [z])
            have kpB : KeepS [p, B] H' (upd (upd H7 T (.tup [.ref m, .int r])) B (.lst (ys ++ [.ref T]))) := (((k5.trans (kj.trans (.same sm))).trans (kk.s (by simp))).more (by simp)).trans (KeepS.mut (by simp))
            have st : StX K w (hids [p, B] (upd (upd H7 T (.tup [.ref m, .int r])) B (.lst (ys ++ [.ref T])))) 2 (.ref T) (.good (ps.map lkRow) [.int r] [.int r]) := by
              refine ⟨T, m, rfl, .of ?_, .cons (.int r) .nil, rfl, ?_, (lkRows (vw := (vn : Nat)) ndp (by omega) (fun q hq => mem _ (psm q hq)) num).1, fun dd hd => ?_⟩
              · rw [hids_of tT, upd_ne TB, upd_same]
              · rw [hids_of (by simp [mp, mB]), upd_ne mB]
                exact hm7
              · rw [List.mem_singleton.mp hd]
                show 0 ≤ 1000; decide
            refine ⟨B, ys, .ref T, rfl, rfl, hB7, by have := MD.paired_len hPb; omega, _, _, _, _, _, _, rfl, ?_, KeepS.new (m := B) (((k4.more (by simp)).trans ((((k5.trans (kj.trans (.same sm))).trans (kk.s (by simp))).more (by simp)))).trans (KeepS.mut (by simp))) nB, ys ++ [.ref T], ls ++ [.good (ps.map lkRow) [.int r] [.int r]], upd_same, by rw [List.length_append, ll]; rfl, paired_snoc st (pairedI2 (fun _ _ y => y.same kpB.hids) hPb), fun s ms => ?_⟩
            · obtain ⟨a, b, c, e⟩ := kk.2
              exact ⟨a, b, c, by rw [upd_ne Bp.symm]; exact e⟩
            · rcases List.mem_append.mp ms with ms | ms
              · exact gb s ms
              · rw [List.mem_singleton.mp ms]
                show ((decide (0 ≤ r) && decide (r ≤ ((vn : Nat) : Int) - 1) && (ps.map lkRow).all fun r => isSignD r.2.1 && isNumD 0 (((vn : Nat) : Int) - 1) r.2.2) && decide ((ps.map lkRow).length ≤ 9)) = true
                rw [decide_eq_true r0, decide_eq_true (by omega), rows.2, decide_eq_true (by rw [List.length_map]; omega)]
                rfl
      · rw [show ((vn : Nat) : Int).toNat = vn by omega] at hP
        exact hP
    rintro σ4 H4 ⟨y5, y6, y7, y8, y9, y11, rfl, d4, k4, ys, ls, hB4, ll, hPb, gb⟩
    -- the starts
    refine ⟨fun σ' H' => ∃ S zs ds, σ' = [some (.ref p), some (.ref sg), some (.int (vn : Nat)), some (.int (n : Nat)), some (.ref R), y5, y6, y7, y8, y9, some (.ref B), y11, some (.ref S)] ∧ Dice p H' ∧ KeepS [p] H4 H' ∧ H4 S = none ∧ H' S = some (.lst zs) ∧ ds.length = vn ∧ (∀ K H, DvAll K H zs ds) ∧ (∀ d ∈ ds, isViewD n d = true) ∧ ∀ d ∈ ds, d.bulk ≤ 10, ?_, ?_⟩
    · refine ⟨_, rfl, _, rfl, by omega, by omega, fun D nD => lc_it (walk_range (lo := 0) (n := ((vn : Nat) : Int).toNat)) (fun j Hj => Dice p Hj ∧ KeepS [p] H4 Hj ∧ ∃ zs ds, Hj D = some (.lst zs) ∧ ds.length = j ∧ (∀ K H, DvAll K H zs ds) ∧ (∀ d ∈ ds, isViewD n d = true) ∧ ∀ d ∈ ds, d.bulk ≤ 10)
        ⟨d4.new nD, .same (same_upd nD), [], [], upd_same, rfl, (fun _ _ => .nil), (fun _ z => nomatch z), fun _ z => nomatch z⟩ (fun _ _ _ _ => trivial) (fun j x Hj Hj' hj hP hY => ?_) (fun Hj hP => ?_)⟩
      · obtain ⟨dj, kj, zs, ds, hD, dl, dv, vi, bu⟩ := hP
        obtain ⟨rfl, rfl⟩ := hY
        have Dp : D ≠ p := fun z => by
          obtain ⟨a, b, c, e⟩ := d4
          rw [z, e] at nD
          cases nD
        refine ⟨rfl, _, rfl, _, rfl, _, rfl, roll_at dj (by omega) (by omega) fun r r0 r1 H6 k6 => ⟨by show 6 ≤ sizeLine; omega, fun l nl => one_new k6.2 nl (by simp) (by show 6 ≤ 1000; decide) fun zv mz H7 k7 => ?_⟩⟩
        obtain ⟨zd, hz1, hz2, hz3⟩ : ∃ zd : PyData, (∀ K H, Dv K H zv zd) ∧ isViewD n zd = true ∧ zd.bulk ≤ 10 := by
          have num : ∀ i : Int, 0 ≤ i → i < (n : Nat) → ∃ zd : PyData, (∀ K H, Dv K H (.int i) zd) ∧ isViewD n zd = true ∧ zd.bulk ≤ 10 := fun i h0 h1 => by
            refine ⟨.int i, fun _ _ => .int i, ?_, by show 0 ≤ 10; decide⟩
            show (decide (0 ≤ i) && decide (i ≤ (n : Int) - 1)) = true
            rw [decide_eq_true h0, decide_eq_true (by omega)]
            rfl
          simp only [List.mem_cons, List.not_mem_nil, or_false] at mz
          rcases mz with rfl | rfl | rfl | rfl | rfl | rfl
          · exact num 0 (by decide) (by omega)
          · exact num 0 (by decide) (by omega)
          · exact num 0 (by decide) (by omega)
          · exact num 0 (by decide) (by omega)
          · exact num r r0 r1
          · exact ⟨.none, fun _ _ => .non, rfl, by show 0 ≤ 10; decide⟩
        have kk := k6.trans k7
        refine ⟨zs, kk.1 _ _ Dp hD, by have := (dv K Hj').length; omega, ?_, KeepS.new (m := D) (((kj.trans (kk.s (by simp))).more (by simp)).trans (KeepS.mut (by simp))) nD, zs ++ [zv], ds ++ [zd], upd_same, by rw [List.length_append, dl]; rfl, fun K H => (dv K H).append (.cons (hz1 K H) .nil), fun d hd => ?_, fun d hd => ?_⟩
        · obtain ⟨a, b, c, e⟩ := kk.2
          exact ⟨a, b, c, by rw [upd_ne Dp.symm]; exact e⟩
        · rcases List.mem_append.mp hd with hd | hd
          · exact vi d hd
          · rw [List.mem_singleton.mp hd]; exact hz2
        · rcases List.mem_append.mp hd with hd | hd
          · exact bu d hd
          · rw [List.mem_singleton.mp hd]; exact hz3
      · obtain ⟨dj, kj, zs, ds, hD, dl, dv, vi, bu⟩ := hP
        exact ⟨D, zs, ds, rfl, dj, kj, nD, hD, by omega, dv, vi, bu⟩
    rintro σ5 H5 ⟨S, zs, ds, rfl, d5, k5, nS, hS, dl, dv, vi, bu⟩
    refine ⟨_, rfl, _, rfl, _, rfl, by show 3 ≤ sizeLine; omega, fun t nt => ?_⟩
    have s6 := same_upd (o := .tup [.ref R, .ref B, .ref S]) nt
    have kB : KeepS [p] H4 (upd H5 t (.tup [.ref R, .ref B, .ref S])) := k5.trans (.same s6)
    have kR : KeepS [p] H3 (upd H5 t (.tup [.ref R, .ref B, .ref S])) := k4.trans kB
    have kA : KeepS [p] H2 (upd H5 t (.tup [.ref R, .ref B, .ref S])) := k3.trans kR
    have d6 : Dice p (upd H5 t (.tup [.ref R, .ref B, .ref S])) := d5.new nt
    have tp : t ≠ p := fun z => by
      obtain ⟨a, b, c, e⟩ := d5
      rw [z, e] at nt
      cases nt
    have Sp' : S ≠ p := fun z => by
      obtain ⟨a, b, c, e⟩ := d4
      rw [z, e] at nS
      cases nS
    have toH : ∀ {X : Addr} {Hc : Hp}, KeepS [p] Hc (upd H5 t (.tup [.ref R, .ref B, .ref S])) → Same (hids [p, X] Hc) (hid p (upd H5 t (.tup [.ref R, .ref B, .ref S]))) := fun kc => ((kc.more (by simp)).hids).trans ((hids_sub (by simp)).trans hid_hids)
    refine q _ t R B S xsR ys zs wsR ls ds (k2.trans (kA.keep d6)) ⟨.of (by rw [hid_ne tp, upd_same]), .of (by rw [hid_ne Rp]; exact kR _ _ (by simp [Rp]) hR3), .of (by rw [hid_ne Bp]; exact kB _ _ (by simp [Bp]) hB4), .of (by rw [hid_ne Sp']; exact s6 _ _ hS), pairedI2 (fun _ _ y => y.same (toH kR)) hP3, pairedI2 (fun _ _ y => y.same (toH kB)) hPb, dv _ _⟩ ⟨by omega, by omega, fun s hs => ?_, fun s hs => ?_, by omega, fun d hd => ?_, bu, fun s hs => few_of (Bool.and_eq_true_iff.mp (gd3 s hs)).2, fun s hs => few_of (Bool.and_eq_true_iff.mp (gb s hs)).2⟩
    · rw [wl3, ll]; exact (Bool.and_eq_true_iff.mp (gd3 s hs)).1
    · rw [ll]; exact (Bool.and_eq_true_iff.mp (gb s hs)).1
    · rw [wl3]; exact vi d hd
end J
end
end K0
end
/-! ### MON -/
section
set_option Elab.async false
set_option linter.all false
set_option maxRecDepth 100000
set_option maxHeartbeats 4000000
/-! {k: v} with any key. -/
namespace MD
open PySem PySem.Spec PyProof.Rows L2
def tMOne (K : PySem.W.Frag) (w : World) (tk tv : TE) : TE := fun σ H Q => ∀ p, H p = none → tk σ (upd H p (dM w p [])) fun x H1 => tv σ H1 fun y H2 => H2 p = some (dM w p []) ∧ ∃ k, KeyV K H2 x k ∧ k.depth ≤ 8 ∧ Q (.ref p) (upd H2 p (dM w p [(k, x, y)]))
theorem pe_mone {X : Cx} {ke ve : Expr} {pos : Pos} {tk tv : TE} (hu : X.A.units + 64 < cLine) (hk : PE X ke tk) (hv : PE X ve tv) : PE X (.Dict [some ke] [ve] pos) (tMOne X.K X.w tk tv) := by
  refine ⟨fun pins s σ H Q I q => ?_⟩
  have hn := I.hok.fresh (Nat.le_refl s.heap.objs.size)
  have I1 := I.laid (a := s.heap.objs.size) (o := dM X.w s.heap.objs.size []) (h' := s.heap.push { cls := .type "dict", data := .dict #[] }) (t' := s.toks) (fun _ _ q => Heap.get?_push_of_some _ q) (Nat.le_refl _)
    (TabM.ok ⟨Nat.zero_le _, beq_eq_false_iff_ne.mpr (Ne.symm (Nat.ne_of_lt I.big)), [], .nil, _, #[], 0, Heap.get?_push_size _ rfl, ⟨rfl, rfl, rfl⟩, rfl, rfl, List.nodup_nil⟩)
  refine wpAny_Dict_any rfl rfl (by simp) (by show 1 ≤ 15; decide) (pairTrees_cons_walk (thn (hk.run pins _ σ _ _ I1 (q _ hn)) fun u s1 ⟨x, H1, I1', rx, q1⟩ => thn (hv.run pins s1 σ H1 _ I1' q1) fun vv s2 ⟨y, H2, I2, ry, ed, k, n, dk, q2⟩ => pairTrees_nil_walk ?_))
  obtain ⟨_, hs, xs, r, m⟩ := atM I2 ed (fun _ z => nomatch z)
  cases r
  unfold storeAll
  rw [List.forIn_cons]
  refine wpAny_bind (wpAny_bind (set_md (by show X.A.units + 8 < _; omega) m (key_is I2 _ _ _ n rx) dk (Nat.zero_le _) fun h' ⟨o, es, ep, h1, h2, h3, h4, h5⟩ sb => wpAny_pure ?_))
  dsimp only
  rw [List.forIn_nil]
  refine wpAny_pure ?_
  exact ⟨.ref s.heap.objs.size, _, d_write I2 (by rw [ed]; exact True.intro) sb ⟨o, h1⟩ (TabM.ok ⟨by show 1 ≤ sizeLine; decide, hs, _, .cons ⟨rfl, rx, ry⟩ .nil, o, es, ep, h1, h2, h3, h4, h5.one⟩), rfl, q2⟩
end MD
end
/-! ### LC -/
section
set_option Elab.async false
set_option linter.all false
set_option maxRecDepth 100000
set_option maxHeartbeats 4000000
/-! _law_cleaner. -/
namespace K0
open PySem PySem.Spec PyProof.Rows L2
open MD (dM KeysV KeyV)
theorem hid_upd {p m : Addr} {H : Hp} {o : HO} (h : m ≠ p) : hid p (upd H m o) = upd (hid p H) m o := by
  funext b
  by_cases e : b = m
  · subst e
    rw [hid_ne h, upd_same, upd_same]
  · rw [upd_ne e]
    by_cases f : b = p
    · subst f
      unfold hid
      rw [if_pos rfl, if_pos rfl]
    · rw [hid_ne f, hid_ne f, upd_ne e]
theorem hid_none {p m : Addr} {H : Hp} (h : H m = none) : hid p H m = none := by
  unfold hid
  by_cases e : m = p
  · rw [if_pos e]
  · rw [if_neg e, h]
theorem same_write {G G' : Hp} {m : Addr} {o : HO} (n : G m = none) (s : Same G G') : Same G (upd G' m o) := fun b u e => by
  rw [upd_ne (ne_of_none e n)]
  exact s _ _ e
theorem Keep.of_same {p : Addr} {H H' : Hp} (d : Dice p H) (s : Same H H') : Keep p H H' := ⟨fun b o _ e => s b o e, d.same s⟩
theorem rowsx_nil {K : PySem.W.Frag} {H : Hp} : RowsX K H [] := ⟨fun _ z => (nomatch z), List.nodup_nil, by decide, fun _ z => (nomatch z), fun _ z => (nomatch z)⟩
theorem st_at {K : PySem.W.Frag} {w : World} {G : Hp} {m a : Addr} {rs : List RX} {ys : List V} {ds : List PyData} {n : Nat} (hm : G m = some (dM w m (rs.map (·.1)))) (rx : RowsX K G rs) (na : G a = none) (dv : ∀ H, DvAll K H ys ds) (len : ds.length + 1 = n) (bk : ∀ d ∈ ds, d.bulk ≤ 1000) :
    StX K w (upd G a (.tup (.ref m :: ys))) n (.ref a) (.good rs ys ds) := ⟨a, m, rfl, .of upd_same, dv _, len, same_upd na _ _ hm, rx.same (same_upd na), bk⟩
/-- one move in a new dict -/
theorem mv_at {K : PySem.W.Frag} {w : World} {G : Hp} {m T3 T2 : Addr} {c : Nat} {vv : V} {vd : PyData} {nk : MD.NK} {views : Int} (v12 : views = 1 ∨ views = 2) (hv : ViewV views vv vd nk) (hc : c ∈ allSigns.cps.toList) (nm : G m = none) (n3 : (upd G m (dM w m [])) T3 = none) (n2 : (upd (upd G m (dM w m [])) T3 (.tup [.str (oneS c), vv])) T2 = none) :
    RowsX K (upd (upd (upd (upd G m (dM w m [])) T3 (.tup [.str (oneS c), vv])) T2 (.tup [.str "", .int 0])) m (dM w m [(.tup [.text (oneS c), nk], .ref T3, .ref T2)])) [mvRow c nk vd "" 0 T2 T3] ∧ KeyV K (upd (upd (upd G m (dM w m [])) T3 (.tup [.str (oneS c), vv])) T2 (.tup [.str "", .int 0])) (.ref T3) (.tup [.text (oneS c), nk]) ∧ nk.depth = 0 ∧
      ((isSeenD views (mvRow c nk vd "" 0 T2 T3).2.1 && isMoveD 1 (mvRow c nk vd "" 0 T2 T3).2.2) = true) := by
  have m3 : m ≠ T3 := ne_of_none upd_same n3
  have m2 : m ≠ T2 := ne_of_none (same_upd n3 _ _ upd_same) n2
  have e3 : (upd (upd (upd G m (dM w m [])) T3 (.tup [.str (oneS c), vv])) T2 (.tup [.str "", .int 0])) T3 = some (.tup [.str (oneS c), vv]) := same_upd n2 _ _ upd_same
  have M0 : MovesAt K w (upd (upd (upd G m (dM w m [])) T3 (.tup [.str (oneS c), vv])) T2 (.tup [.str "", .int 0])) [m] m 1 views [] [] := ⟨same_upd n2 _ _ (same_upd n3 _ _ upd_same), rowsx_nil, fun _ z => (nomatch z), fun _ z => (nomatch z), Nat.zero_le _⟩
  have z := (M0.put (List.mem_singleton.mpr rfl) hc (c := c) (by simp) hv v12 (z := "") (i := 0) (T2 := T2) (T3 := T3) rfl (by decide) (by decide) (by decide) (by decide) (by simp)
    (.of (by rw [hids_of (by simp [m2.symm]), upd_same])) (.of (by rw [hids_of (by simp [m3.symm]), e3]))).2
  obtain ⟨vd1, vk, _, vdep⟩ := view_dv (K := K) (H := upd (upd (upd G m (dM w m [])) T3 (.tup [.str (oneS c), vv])) T2 (.tup [.str "", .int 0])) hv
  exact ⟨z.ok.same hids_out, .tup (.of e3) (.cons (.atom rfl) (.cons vk .nil)), vdep, z.good _ List.mem_cons_self⟩
theorem scLCl : FnScope ["dice", "signs", "way", "sign"] ["dice", "signs"] (defScope (top iLCleaner)) := ⟨rfl, rfl, rfl, by decide +kernel, rfl, by decide +kernel, by decide +kernel⟩
theorem ok0 : WildOk [.good [] [.int 0, .str ""] [.int 0, .str ""]] [.good [] [.int 0] [.int 0]] [.int 0] where
  nw := ⟨Nat.le_refl 1, by show 1 ≤ 3; decide⟩
  nl := .inl rfl
  w := by simp; decide
  l := by simp; decide
  nf := rfl
  f := by simp; decide
  fb := by simp; decide
  fw := by simp; exact Nat.zero_le _
  fl := by simp; exact Nat.zero_le _
theorem ok1 {r : RX} (h : (isSeenD 1 r.2.1 && isMoveD 1 r.2.2) = true) : WildOk [.good [r] [.int 0, .str ""] [.int 0, .str ""]] [.good [] [.int 0] [.int 0]] [.int 0] where
  nw := ⟨Nat.le_refl 1, by show 1 ≤ 3; decide⟩
  nl := .inl rfl
  w := fun s m => by
    rw [List.mem_singleton.mp m]
    show (isNumD 0 0 (.int 0) && isWrittenD (.str "") && ([r].all fun r => isSeenD 1 r.2.1 && isMoveD 1 r.2.2)) = true
    rw [List.all_cons, h]
    decide
  l := by simp; decide
  nf := rfl
  f := by simp; decide
  fb := by simp; decide
  fw := fun s m => by
    rw [List.mem_singleton.mp m]
    show 1 ≤ 9
    decide
  fl := by simp; exact Nat.zero_le _
theorem ok2 {r r2 : RX} (h : (isSeenD 2 r.2.1 && isMoveD 1 r.2.2) = true) (h2 : (isSignD r2.2.1 && isNumD 0 1 r2.2.2) = true) : WildOk [.good [r] [.int 0, .str ""] [.int 0, .str ""]] [.good [r2] [.int 1] [.int 1], .good [] [.int 1] [.int 1]] [.int 0, .int 0] where
  nw := ⟨Nat.le_refl 1, by show 1 ≤ 3; decide⟩
  nl := .inr rfl
  w := fun s m => by
    rw [List.mem_singleton.mp m]
    show (isNumD 0 0 (.int 0) && isWrittenD (.str "") && ([r].all fun r => isSeenD 2 r.2.1 && isMoveD 1 r.2.2)) = true
    rw [List.all_cons, h]
    decide
  l := fun s m => by
    simp only [List.mem_cons, List.not_mem_nil, or_false] at m
    rcases m with rfl | rfl
    · show (isNumD 0 1 (.int 1) && ([r2].all fun r => isSignD r.2.1 && isNumD 0 1 r.2.2)) = true
      rw [List.all_cons, h2]
      decide
    · show lStD 2 (.good [] [.int 1] [.int 1]) = true
      decide
  nf := rfl
  f := by simp; decide
  fb := by simp; decide
  fw := fun s m => by
    rw [List.mem_singleton.mp m]
    show 1 ≤ 9
    decide
  fl := fun s m => by
    simp only [List.mem_cons, List.not_mem_nil, or_false] at m
    rcases m with rfl | rfl
    · show 1 ≤ 9
      decide
    · show 0 ≤ 9
      decide
namespace J
section
variable {P : Program} {w : World} {K : PySem.W.Frag} {mg : Str → Option Value} {base : Heap} {f fR fO fW : Addr} {fd fdR fdO fdW : FuncData}
theorem ok_lcl {k : Nat} (F : FnP K "_law_cleaner" iLCleaner f fd)
    (FR : FnOk P w K mg base CX0 (k + 4) fR fdR ["dice", "total"] spRoll) (gR : mg "_law_roll" = some (.ref fR)) (kR : PySem.W.keepIn K (.ref fR) = true) (bR : Binds K fdR ["dice", "total"] [])
    (FO : FnOk P w K mg base CX0 (k + 4) fO fdO ["dice", "items"] (spOne K)) (gO : mg "_law_one_of" = some (.ref fO)) (kO : PySem.W.keepIn K (.ref fO) = true) (bO : Binds K fdO ["dice", "items"] [])
    (FW : FnOk P w K mg base CX0 (k + 4) fW fdW ["dice", "signs"] (spWild K w)) (gW : mg "_law_wild_cleaner" = some (.ref fW)) (kW : PySem.W.keepIn K (.ref fW) = true) (bW : Binds K fdW ["dice", "signs"] []) :
    FnOk P w K mg base CX0 (k + 5) f fd ["dice", "signs"] (spWild K w) := by
  refine F.ok scLCl (fun vs H Q E h => ?_) (fun cdv A outer s H vs Q E hr h => ?_)
  · obtain ⟨p, sg, cs, rfl, _⟩ := h
    rfl
  · obtain ⟨p, sg, cs, rfl, d0, hT, nd, ne, l3, mem, q⟩ := h
    refine ⟨_, PSs.nox (C8.pss_cut (ps_par (i := 2) (j := 3) (by rfl) scLCl.nd rfl rfl (by decide) rfl rfl (pa_cons (pe_call FR hr (by rfl) gR kR bR .nil pass0 (pa_cons (pv 0) (pa_cons pe_int pa_nil))) (pa_cons (pe_call FO hr (by rfl) gO kO bO .nil pass0 (pa_cons (pv 0) (pa_cons (pv 1) pa_nil))) pa_nil)) rfl)
      (pss_cons (ps_if (pt_cmpR op_eq (pv 2) pe_int (nomark _)) (pss_one (ps_ret (pe_tup (pa_cons (pe_lst (pa_cons (pe_tup (pa_cons MD.pe_mnew (pa_cons pe_int (pa_cons pe_str pa_nil)))) pa_nil)) (pa_cons (pe_lst (pa_cons (pe_tup (pa_cons MD.pe_mnew (pa_cons pe_int pa_nil))) pa_nil)) (pa_cons (pe_lst (pa_cons pe_int pa_nil)) pa_nil)))))) pss_nil)
      (pss_cons (ps_if (pt_cmpR op_eq (pv 2) pe_int (nomark _)) (pss_one (ps_ret (pe_tup (pa_cons (pe_lst (pa_cons (pe_tup (pa_cons (MD.pe_mone hr.units (pe_tup (pa_cons (pv 3) (pa_cons pe_non pa_nil))) (pe_tup (pa_cons pe_str (pa_cons pe_int pa_nil)))) (pa_cons pe_int (pa_cons pe_str pa_nil)))) pa_nil)) (pa_cons (pe_lst (pa_cons (pe_tup (pa_cons MD.pe_mnew (pa_cons pe_int pa_nil))) pa_nil)) (pa_cons (pe_lst (pa_cons pe_int pa_nil)) pa_nil)))))) pss_nil)
      (pss_cons (ps_if (pt_cmpR op_eq (pv 2) pe_int (nomark _)) (pss_one (ps_ret (pe_tup (pa_cons (pe_lst (pa_cons (pe_tup (pa_cons (MD.pe_mone hr.units (pe_tup (pa_cons (pv 3) (pa_cons pe_int pa_nil))) (pe_tup (pa_cons pe_str (pa_cons pe_int pa_nil)))) (pa_cons pe_int (pa_cons pe_str pa_nil)))) pa_nil)) (pa_cons (pe_lst (pa_cons (pe_tup (pa_cons (MD.pe_mone hr.units (pv 3) pe_int) (pa_cons pe_int pa_nil))) (pa_cons (pe_tup (pa_cons MD.pe_mnew (pa_cons pe_int pa_nil))) pa_nil))) (pa_cons (pe_lst (pa_cons pe_int (pa_cons pe_int pa_nil))) pa_nil)))))) pss_nil)
      (pss_one (ps_ret (pe_call FW hr (by rfl) gW kW bW .nil pass0 (pa_cons (pv 0) (pa_cons (pv 1) pa_nil))))))))), ?_⟩
    have sl : sizeLine = 16777216 := sizeLine_eq
    refine ⟨fun σ' H' => ∃ (way : Int) (c : Nat), σ' = [some (.ref p), some (.ref sg), some (.int way), some (.str (oneS c))] ∧ c ∈ cs ∧ Keep p H H', ?_, ?_⟩
    · refine ⟨_, rfl, roll_at d0 (by decide) (by decide) fun r r0 r1 H1 k1 => ⟨_, rfl, _, rfl, one_at (xs := cs.map oneV) k1.2 (.inl ⟨_, rfl, .inr (same_tup (hid_keep k1) hT)⟩) (by simpa using ne) (by rw [List.length_map]; omega) fun x mx H2 k2 => ?_⟩⟩
      obtain ⟨c, hc, rfl⟩ := List.mem_map.mp mx
      exact ⟨_, _, rfl, r, c, rfl, hc, k1.trans k2⟩
    rintro σ1 H1 ⟨way, c, rfl, hc, k1⟩
    have d1 : Dice p H1 := k1.2
    have mc := mem c hc
    refine ⟨_, rfl, rfl, _, rfl, ite2 (fun e => ?_) (fun e => ?_)⟩
    · refine fun m0 n0 => ⟨by show 3 ≤ sizeLine; omega, fun a0 n1 => ⟨by show 1 ≤ sizeLine; omega, fun R nR => fun m1 nm1 => ⟨by show 2 ≤ sizeLine; omega, fun a1 na1 => ⟨by show 1 ≤ sizeLine; omega, fun B nB => ⟨by show 1 ≤ sizeLine; omega, fun S nS => ⟨by show 3 ≤ sizeLine; omega, fun t nt => ?_⟩⟩⟩⟩⟩⟩
      have s0 : Same H1 H1 := Same.refl H1
      have g0 : Same (hid p H1) (hid p H1) := Same.refl _
      have p1 : m0 ≠ p := (d1.same s0).ne n0
      have f1 : (hid p H1) m0 = none := by
        have z := hid_none (p := p) n0
        exact z
      have s1 : Same H1 (upd H1 m0 (dM w m0 [])) := s0.trans (same_upd n0)
      have u1 : Same (hid p H1) (upd (hid p H1) m0 (dM w m0 [])) := same_upd f1
      have p2 : a0 ≠ p := (d1.same s1).ne n1
      have f2 : (upd (hid p H1) m0 (dM w m0 [])) a0 = none := by
        have z := hid_none (p := p) n1
        rw [hid_upd p1] at z
        exact z
      have s2 : Same H1 (upd (upd H1 m0 (dM w m0 [])) a0 (.tup [.ref m0, .int 0, .str ""])) := s1.trans (same_upd n1)
      have u2 : Same (upd (hid p H1) m0 (dM w m0 [])) (upd (upd (hid p H1) m0 (dM w m0 [])) a0 (.tup [.ref m0, .int 0, .str ""])) := same_upd f2
      have p3 : R ≠ p := (d1.same s2).ne nR
      have f3 : (upd (upd (hid p H1) m0 (dM w m0 [])) a0 (.tup [.ref m0, .int 0, .str ""])) R = none := by
        have z := hid_none (p := p) nR
        rw [hid_upd p2, hid_upd p1] at z
        exact z
      have s3 : Same H1 (upd (upd (upd H1 m0 (dM w m0 [])) a0 (.tup [.ref m0, .int 0, .str ""])) R (.lst [.ref a0])) := s2.trans (same_upd nR)
      have u3 : Same (upd (upd (hid p H1) m0 (dM w m0 [])) a0 (.tup [.ref m0, .int 0, .str ""])) (upd (upd (upd (hid p H1) m0 (dM w m0 [])) a0 (.tup [.ref m0, .int 0, .str ""])) R (.lst [.ref a0])) := same_upd f3
      have p4 : m1 ≠ p := (d1.same s3).ne nm1
      have f4 : (upd (upd (upd (hid p H1) m0 (dM w m0 [])) a0 (.tup [.ref m0, .int 0, .str ""])) R (.lst [.ref a0])) m1 = none := by
        have z := hid_none (p := p) nm1
        rw [hid_upd p3, hid_upd p2, hid_upd p1] at z
        exact z
      have s4 : Same H1 (upd (upd (upd (upd H1 m0 (dM w m0 [])) a0 (.tup [.ref m0, .int 0, .str ""])) R (.lst [.ref a0])) m1 (dM w m1 [])) := s3.trans (same_upd nm1)
      have u4 : Same (upd (upd (upd (hid p H1) m0 (dM w m0 [])) a0 (.tup [.ref m0, .int 0, .str ""])) R (.lst [.ref a0])) (upd (upd (upd (upd (hid p H1) m0 (dM w m0 [])) a0 (.tup [.ref m0, .int 0, .str ""])) R (.lst [.ref a0])) m1 (dM w m1 [])) := same_upd f4
      have p5 : a1 ≠ p := (d1.same s4).ne na1
      have f5 : (upd (upd (upd (upd (hid p H1) m0 (dM w m0 [])) a0 (.tup [.ref m0, .int 0, .str ""])) R (.lst [.ref a0])) m1 (dM w m1 [])) a1 = none := by
        have z := hid_none (p := p) na1
        rw [hid_upd p4, hid_upd p3, hid_upd p2, hid_upd p1] at z
        exact z
      have s5 : Same H1 (upd (upd (upd (upd (upd H1 m0 (dM w m0 [])) a0 (.tup [.ref m0, .int 0, .str ""])) R (.lst [.ref a0])) m1 (dM w m1 [])) a1 (.tup [.ref m1, .int 0])) := s4.trans (same_upd na1)
      have u5 : Same (upd (upd (upd (upd (hid p H1) m0 (dM w m0 [])) a0 (.tup [.ref m0, .int 0, .str ""])) R (.lst [.ref a0])) m1 (dM w m1 [])) (upd (upd (upd (upd (upd (hid p H1) m0 (dM w m0 [])) a0 (.tup [.ref m0, .int 0, .str ""])) R (.lst [.ref a0])) m1 (dM w m1 [])) a1 (.tup [.ref m1, .int 0])) := same_upd f5
      have p6 : B ≠ p := (d1.same s5).ne nB
      have f6 : (upd (upd (upd (upd (upd (hid p H1) m0 (dM w m0 [])) a0 (.tup [.ref m0, .int 0, .str ""])) R (.lst [.ref a0])) m1 (dM w m1 [])) a1 (.tup [.ref m1, .int 0])) B = none := by
        have z := hid_none (p := p) nB
        rw [hid_upd p5, hid_upd p4, hid_upd p3, hid_upd p2, hid_upd p1] at z
        exact z
      have s6 : Same H1 (upd (upd (upd (upd (upd (upd H1 m0 (dM w m0 [])) a0 (.tup [.ref m0, .int 0, .str ""])) R (.lst [.ref a0])) m1 (dM w m1 [])) a1 (.tup [.ref m1, .int 0])) B (.lst [.ref a1])) := s5.trans (same_upd nB)
      have u6 : Same (upd (upd (upd (upd (upd (hid p H1) m0 (dM w m0 [])) a0 (.tup [.ref m0, .int 0, .str ""])) R (.lst [.ref a0])) m1 (dM w m1 [])) a1 (.tup [.ref m1, .int 0])) (upd (upd (upd (upd (upd (upd (hid p H1) m0 (dM w m0 [])) a0 (.tup [.ref m0, .int 0, .str ""])) R (.lst [.ref a0])) m1 (dM w m1 [])) a1 (.tup [.ref m1, .int 0])) B (.lst [.ref a1])) := same_upd f6
      have p7 : S ≠ p := (d1.same s6).ne nS
      have f7 : (upd (upd (upd (upd (upd (upd (hid p H1) m0 (dM w m0 [])) a0 (.tup [.ref m0, .int 0, .str ""])) R (.lst [.ref a0])) m1 (dM w m1 [])) a1 (.tup [.ref m1, .int 0])) B (.lst [.ref a1])) S = none := by
        have z := hid_none (p := p) nS
        rw [hid_upd p6, hid_upd p5, hid_upd p4, hid_upd p3, hid_upd p2, hid_upd p1] at z
        exact z
      have s7 : Same H1 (upd (upd (upd (upd (upd (upd (upd H1 m0 (dM w m0 [])) a0 (.tup [.ref m0, .int 0, .str ""])) R (.lst [.ref a0])) m1 (dM w m1 [])) a1 (.tup [.ref m1, .int 0])) B (.lst [.ref a1])) S (.lst [.int 0])) := s6.trans (same_upd nS)
      have u7 : Same (upd (upd (upd (upd (upd (upd (hid p H1) m0 (dM w m0 [])) a0 (.tup [.ref m0, .int 0, .str ""])) R (.lst [.ref a0])) m1 (dM w m1 [])) a1 (.tup [.ref m1, .int 0])) B (.lst [.ref a1])) (upd (upd (upd (upd (upd (upd (upd (hid p H1) m0 (dM w m0 [])) a0 (.tup [.ref m0, .int 0, .str ""])) R (.lst [.ref a0])) m1 (dM w m1 [])) a1 (.tup [.ref m1, .int 0])) B (.lst [.ref a1])) S (.lst [.int 0])) := same_upd f7
      have p8 : t ≠ p := (d1.same s7).ne nt
      have f8 : (upd (upd (upd (upd (upd (upd (upd (hid p H1) m0 (dM w m0 [])) a0 (.tup [.ref m0, .int 0, .str ""])) R (.lst [.ref a0])) m1 (dM w m1 [])) a1 (.tup [.ref m1, .int 0])) B (.lst [.ref a1])) S (.lst [.int 0])) t = none := by
        have z := hid_none (p := p) nt
        rw [hid_upd p7, hid_upd p6, hid_upd p5, hid_upd p4, hid_upd p3, hid_upd p2, hid_upd p1] at z
        exact z
      have s8 : Same H1 (upd (upd (upd (upd (upd (upd (upd (upd H1 m0 (dM w m0 [])) a0 (.tup [.ref m0, .int 0, .str ""])) R (.lst [.ref a0])) m1 (dM w m1 [])) a1 (.tup [.ref m1, .int 0])) B (.lst [.ref a1])) S (.lst [.int 0])) t (.tup [.ref R, .ref B, .ref S])) := s7.trans (same_upd nt)
      have u8 : Same (upd (upd (upd (upd (upd (upd (upd (hid p H1) m0 (dM w m0 [])) a0 (.tup [.ref m0, .int 0, .str ""])) R (.lst [.ref a0])) m1 (dM w m1 [])) a1 (.tup [.ref m1, .int 0])) B (.lst [.ref a1])) S (.lst [.int 0])) (upd (upd (upd (upd (upd (upd (upd (upd (hid p H1) m0 (dM w m0 [])) a0 (.tup [.ref m0, .int 0, .str ""])) R (.lst [.ref a0])) m1 (dM w m1 [])) a1 (.tup [.ref m1, .int 0])) B (.lst [.ref a1])) S (.lst [.int 0])) t (.tup [.ref R, .ref B, .ref S])) := same_upd f8
      have o2_2 : Same (upd (upd (hid p H1) m0 (dM w m0 [])) a0 (.tup [.ref m0, .int 0, .str ""])) (upd (upd (hid p H1) m0 (dM w m0 [])) a0 (.tup [.ref m0, .int 0, .str ""])) := Same.refl _
      have o2_3 : Same (upd (upd (hid p H1) m0 (dM w m0 [])) a0 (.tup [.ref m0, .int 0, .str ""])) (upd (upd (upd (hid p H1) m0 (dM w m0 [])) a0 (.tup [.ref m0, .int 0, .str ""])) R (.lst [.ref a0])) := o2_2.trans u3
      have o2_4 : Same (upd (upd (hid p H1) m0 (dM w m0 [])) a0 (.tup [.ref m0, .int 0, .str ""])) (upd (upd (upd (upd (hid p H1) m0 (dM w m0 [])) a0 (.tup [.ref m0, .int 0, .str ""])) R (.lst [.ref a0])) m1 (dM w m1 [])) := o2_3.trans u4
      have o2_5 : Same (upd (upd (hid p H1) m0 (dM w m0 [])) a0 (.tup [.ref m0, .int 0, .str ""])) (upd (upd (upd (upd (upd (hid p H1) m0 (dM w m0 [])) a0 (.tup [.ref m0, .int 0, .str ""])) R (.lst [.ref a0])) m1 (dM w m1 [])) a1 (.tup [.ref m1, .int 0])) := o2_4.trans u5
      have o2_6 : Same (upd (upd (hid p H1) m0 (dM w m0 [])) a0 (.tup [.ref m0, .int 0, .str ""])) (upd (upd (upd (upd (upd (upd (hid p H1) m0 (dM w m0 [])) a0 (.tup [.ref m0, .int 0, .str ""])) R (.lst [.ref a0])) m1 (dM w m1 [])) a1 (.tup [.ref m1, .int 0])) B (.lst [.ref a1])) := o2_5.trans u6
      have o2_7 : Same (upd (upd (hid p H1) m0 (dM w m0 [])) a0 (.tup [.ref m0, .int 0, .str ""])) (upd (upd (upd (upd (upd (upd (upd (hid p H1) m0 (dM w m0 [])) a0 (.tup [.ref m0, .int 0, .str ""])) R (.lst [.ref a0])) m1 (dM w m1 [])) a1 (.tup [.ref m1, .int 0])) B (.lst [.ref a1])) S (.lst [.int 0])) := o2_6.trans u7
      have o2_8 : Same (upd (upd (hid p H1) m0 (dM w m0 [])) a0 (.tup [.ref m0, .int 0, .str ""])) (upd (upd (upd (upd (upd (upd (upd (upd (hid p H1) m0 (dM w m0 [])) a0 (.tup [.ref m0, .int 0, .str ""])) R (.lst [.ref a0])) m1 (dM w m1 [])) a1 (.tup [.ref m1, .int 0])) B (.lst [.ref a1])) S (.lst [.int 0])) t (.tup [.ref R, .ref B, .ref S])) := o2_7.trans u8
      have o3_3 : Same (upd (upd (upd (hid p H1) m0 (dM w m0 [])) a0 (.tup [.ref m0, .int 0, .str ""])) R (.lst [.ref a0])) (upd (upd (upd (hid p H1) m0 (dM w m0 [])) a0 (.tup [.ref m0, .int 0, .str ""])) R (.lst [.ref a0])) := Same.refl _
      have o3_4 : Same (upd (upd (upd (hid p H1) m0 (dM w m0 [])) a0 (.tup [.ref m0, .int 0, .str ""])) R (.lst [.ref a0])) (upd (upd (upd (upd (hid p H1) m0 (dM w m0 [])) a0 (.tup [.ref m0, .int 0, .str ""])) R (.lst [.ref a0])) m1 (dM w m1 [])) := o3_3.trans u4
      have o3_5 : Same (upd (upd (upd (hid p H1) m0 (dM w m0 [])) a0 (.tup [.ref m0, .int 0, .str ""])) R (.lst [.ref a0])) (upd (upd (upd (upd (upd (hid p H1) m0 (dM w m0 [])) a0 (.tup [.ref m0, .int 0, .str ""])) R (.lst [.ref a0])) m1 (dM w m1 [])) a1 (.tup [.ref m1, .int 0])) := o3_4.trans u5
      have o3_6 : Same (upd (upd (upd (hid p H1) m0 (dM w m0 [])) a0 (.tup [.ref m0, .int 0, .str ""])) R (.lst [.ref a0])) (upd (upd (upd (upd (upd (upd (hid p H1) m0 (dM w m0 [])) a0 (.tup [.ref m0, .int 0, .str ""])) R (.lst [.ref a0])) m1 (dM w m1 [])) a1 (.tup [.ref m1, .int 0])) B (.lst [.ref a1])) := o3_5.trans u6
      have o3_7 : Same (upd (upd (upd (hid p H1) m0 (dM w m0 [])) a0 (.tup [.ref m0, .int 0, .str ""])) R (.lst [.ref a0])) (upd (upd (upd (upd (upd (upd (upd (hid p H1) m0 (dM w m0 [])) a0 (.tup [.ref m0, .int 0, .str ""])) R (.lst [.ref a0])) m1 (dM w m1 [])) a1 (.tup [.ref m1, .int 0])) B (.lst [.ref a1])) S (.lst [.int 0])) := o3_6.trans u7
      have o3_8 : Same (upd (upd (upd (hid p H1) m0 (dM w m0 [])) a0 (.tup [.ref m0, .int 0, .str ""])) R (.lst [.ref a0])) (upd (upd (upd (upd (upd (upd (upd (upd (hid p H1) m0 (dM w m0 [])) a0 (.tup [.ref m0, .int 0, .str ""])) R (.lst [.ref a0])) m1 (dM w m1 [])) a1 (.tup [.ref m1, .int 0])) B (.lst [.ref a1])) S (.lst [.int 0])) t (.tup [.ref R, .ref B, .ref S])) := o3_7.trans u8
      have o5_5 : Same (upd (upd (upd (upd (upd (hid p H1) m0 (dM w m0 [])) a0 (.tup [.ref m0, .int 0, .str ""])) R (.lst [.ref a0])) m1 (dM w m1 [])) a1 (.tup [.ref m1, .int 0])) (upd (upd (upd (upd (upd (hid p H1) m0 (dM w m0 [])) a0 (.tup [.ref m0, .int 0, .str ""])) R (.lst [.ref a0])) m1 (dM w m1 [])) a1 (.tup [.ref m1, .int 0])) := Same.refl _
      have o5_6 : Same (upd (upd (upd (upd (upd (hid p H1) m0 (dM w m0 [])) a0 (.tup [.ref m0, .int 0, .str ""])) R (.lst [.ref a0])) m1 (dM w m1 [])) a1 (.tup [.ref m1, .int 0])) (upd (upd (upd (upd (upd (upd (hid p H1) m0 (dM w m0 [])) a0 (.tup [.ref m0, .int 0, .str ""])) R (.lst [.ref a0])) m1 (dM w m1 [])) a1 (.tup [.ref m1, .int 0])) B (.lst [.ref a1])) := o5_5.trans u6
      have o5_7 : Same (upd (upd (upd (upd (upd (hid p H1) m0 (dM w m0 [])) a0 (.tup [.ref m0, .int 0, .str ""])) R (.lst [.ref a0])) m1 (dM w m1 [])) a1 (.tup [.ref m1, .int 0])) (upd (upd (upd (upd (upd (upd (upd (hid p H1) m0 (dM w m0 [])) a0 (.tup [.ref m0, .int 0, .str ""])) R (.lst [.ref a0])) m1 (dM w m1 [])) a1 (.tup [.ref m1, .int 0])) B (.lst [.ref a1])) S (.lst [.int 0])) := o5_6.trans u7
      have o5_8 : Same (upd (upd (upd (upd (upd (hid p H1) m0 (dM w m0 [])) a0 (.tup [.ref m0, .int 0, .str ""])) R (.lst [.ref a0])) m1 (dM w m1 [])) a1 (.tup [.ref m1, .int 0])) (upd (upd (upd (upd (upd (upd (upd (upd (hid p H1) m0 (dM w m0 [])) a0 (.tup [.ref m0, .int 0, .str ""])) R (.lst [.ref a0])) m1 (dM w m1 [])) a1 (.tup [.ref m1, .int 0])) B (.lst [.ref a1])) S (.lst [.int 0])) t (.tup [.ref R, .ref B, .ref S])) := o5_7.trans u8
      have o6_6 : Same (upd (upd (upd (upd (upd (upd (hid p H1) m0 (dM w m0 [])) a0 (.tup [.ref m0, .int 0, .str ""])) R (.lst [.ref a0])) m1 (dM w m1 [])) a1 (.tup [.ref m1, .int 0])) B (.lst [.ref a1])) (upd (upd (upd (upd (upd (upd (hid p H1) m0 (dM w m0 [])) a0 (.tup [.ref m0, .int 0, .str ""])) R (.lst [.ref a0])) m1 (dM w m1 [])) a1 (.tup [.ref m1, .int 0])) B (.lst [.ref a1])) := Same.refl _
      have o6_7 : Same (upd (upd (upd (upd (upd (upd (hid p H1) m0 (dM w m0 [])) a0 (.tup [.ref m0, .int 0, .str ""])) R (.lst [.ref a0])) m1 (dM w m1 [])) a1 (.tup [.ref m1, .int 0])) B (.lst [.ref a1])) (upd (upd (upd (upd (upd (upd (upd (hid p H1) m0 (dM w m0 [])) a0 (.tup [.ref m0, .int 0, .str ""])) R (.lst [.ref a0])) m1 (dM w m1 [])) a1 (.tup [.ref m1, .int 0])) B (.lst [.ref a1])) S (.lst [.int 0])) := o6_6.trans u7
      have o6_8 : Same (upd (upd (upd (upd (upd (upd (hid p H1) m0 (dM w m0 [])) a0 (.tup [.ref m0, .int 0, .str ""])) R (.lst [.ref a0])) m1 (dM w m1 [])) a1 (.tup [.ref m1, .int 0])) B (.lst [.ref a1])) (upd (upd (upd (upd (upd (upd (upd (upd (hid p H1) m0 (dM w m0 [])) a0 (.tup [.ref m0, .int 0, .str ""])) R (.lst [.ref a0])) m1 (dM w m1 [])) a1 (.tup [.ref m1, .int 0])) B (.lst [.ref a1])) S (.lst [.int 0])) t (.tup [.ref R, .ref B, .ref S])) := o6_7.trans u8
      have o7_7 : Same (upd (upd (upd (upd (upd (upd (upd (hid p H1) m0 (dM w m0 [])) a0 (.tup [.ref m0, .int 0, .str ""])) R (.lst [.ref a0])) m1 (dM w m1 [])) a1 (.tup [.ref m1, .int 0])) B (.lst [.ref a1])) S (.lst [.int 0])) (upd (upd (upd (upd (upd (upd (upd (hid p H1) m0 (dM w m0 [])) a0 (.tup [.ref m0, .int 0, .str ""])) R (.lst [.ref a0])) m1 (dM w m1 [])) a1 (.tup [.ref m1, .int 0])) B (.lst [.ref a1])) S (.lst [.int 0])) := Same.refl _
      have o7_8 : Same (upd (upd (upd (upd (upd (upd (upd (hid p H1) m0 (dM w m0 [])) a0 (.tup [.ref m0, .int 0, .str ""])) R (.lst [.ref a0])) m1 (dM w m1 [])) a1 (.tup [.ref m1, .int 0])) B (.lst [.ref a1])) S (.lst [.int 0])) (upd (upd (upd (upd (upd (upd (upd (upd (hid p H1) m0 (dM w m0 [])) a0 (.tup [.ref m0, .int 0, .str ""])) R (.lst [.ref a0])) m1 (dM w m1 [])) a1 (.tup [.ref m1, .int 0])) B (.lst [.ref a1])) S (.lst [.int 0])) t (.tup [.ref R, .ref B, .ref S])) := o7_7.trans u8
      have hh : hid p (upd (upd (upd (upd (upd (upd (upd (upd H1 m0 (dM w m0 [])) a0 (.tup [.ref m0, .int 0, .str ""])) R (.lst [.ref a0])) m1 (dM w m1 [])) a1 (.tup [.ref m1, .int 0])) B (.lst [.ref a1])) S (.lst [.int 0])) t (.tup [.ref R, .ref B, .ref S])) = (upd (upd (upd (upd (upd (upd (upd (upd (hid p H1) m0 (dM w m0 [])) a0 (.tup [.ref m0, .int 0, .str ""])) R (.lst [.ref a0])) m1 (dM w m1 [])) a1 (.tup [.ref m1, .int 0])) B (.lst [.ref a1])) S (.lst [.int 0])) t (.tup [.ref R, .ref B, .ref S])) := by rw [hid_upd p8, hid_upd p7, hid_upd p6, hid_upd p5, hid_upd p4, hid_upd p3, hid_upd p2, hid_upd p1]
      have A0 : StX K w (upd (upd (hid p H1) m0 (dM w m0 [])) a0 (.tup [.ref m0, .int 0, .str ""])) 3 (.ref a0) (.good [] [.int 0, .str ""] [.int 0, .str ""]) := st_at upd_same rowsx_nil f2 (fun _ => .cons (.int _) (.cons (.str _) .nil)) rfl (by simp; decide)
      have A1 : StX K w (upd (upd (upd (upd (upd (hid p H1) m0 (dM w m0 [])) a0 (.tup [.ref m0, .int 0, .str ""])) R (.lst [.ref a0])) m1 (dM w m1 [])) a1 (.tup [.ref m1, .int 0])) 2 (.ref a1) (.good [] [.int 0] [.int 0]) := st_at upd_same rowsx_nil f5 (fun _ => .cons (.int _) .nil) rfl (by simp; decide)
      refine q _ t R B S [.ref a0] [.ref a1] [.int 0] _ _ [.int 0] (k1.trans (Keep.of_same d1 s8)) ?_ ok0
      exact Eq.mpr (congrArg (fun G => WildAt K w G t R B S _ _ _ _ _ _) hh) (show WildAt K w (upd (upd (upd (upd (upd (upd (upd (upd (hid p H1) m0 (dM w m0 [])) a0 (.tup [.ref m0, .int 0, .str ""])) R (.lst [.ref a0])) m1 (dM w m1 [])) a1 (.tup [.ref m1, .int 0])) B (.lst [.ref a1])) S (.lst [.int 0])) t (.tup [.ref R, .ref B, .ref S])) t R B S _ _ _ _ _ _ from ⟨.of upd_same, .of (o3_8 _ _ upd_same), .of (o6_8 _ _ upd_same), .of (o7_8 _ _ upd_same), .cons (A0.same o2_8) .nil, .cons (A1.same o5_8) .nil, .cons (.int _) .nil⟩)
    clear e
    refine ⟨_, rfl, rfl, _, rfl, ite2 (fun e => ?_) (fun e => ?_)⟩
    · refine fun m0 n0 => ⟨_, rfl, by show 2 ≤ sizeLine; omega, fun T3 n3 => ⟨by show 2 ≤ sizeLine; omega, fun T2 n2 => ?_⟩⟩
      have K3 : KeyV K (upd (upd (upd H1 m0 (dM w m0 [])) T3 (.tup [.str (oneS c), .non])) T2 (.tup [.str "", .int 0])) (.ref T3) (.tup [.text (oneS c), .none]) := .tup (.of (same_upd n2 _ _ upd_same)) (.cons (.atom rfl) (.cons (.atom rfl) .nil))
      refine ⟨(same_upd n2) _ _ ((same_upd n3) _ _ upd_same), _, K3, by show 1 ≤ 8; decide, by show 3 ≤ sizeLine; omega, fun a0 n1 => ⟨by show 1 ≤ sizeLine; omega, fun R nR => fun m1 nm1 => ⟨by show 2 ≤ sizeLine; omega, fun a1 na1 => ⟨by show 1 ≤ sizeLine; omega, fun B nB => ⟨by show 1 ≤ sizeLine; omega, fun S nS => ⟨by show 3 ≤ sizeLine; omega, fun t nt => ?_⟩⟩⟩⟩⟩⟩
      have pm : m0 ≠ p := d1.ne n0
      have p3 : T3 ≠ p := (d1.same (same_upd n0)).ne n3
      have p2 : T2 ≠ p := (d1.same ((same_upd n0).trans (same_upd n3))).ne n2
      have MV := mv_at (K := K) (w := w) (G := hid p H1) (m := m0) (T3 := T3) (T2 := T2) (c := c) (vv := .non) (vd := .none) (nk := .none) (views := 1) (.inl rfl) (.inl ⟨rfl, rfl, rfl⟩) mc (hid_none n0) (by
        have z := hid_none (p := p) n3
        rw [hid_upd pm] at z
        exact z) (by
        have z := hid_none (p := p) n2
        rw [hid_upd p3, hid_upd pm] at z
        exact z)
      have s0 : Same H1 H1 := Same.refl H1
      have g0 : Same (hid p H1) (hid p H1) := Same.refl _
      have p1 : m0 ≠ p := (d1.same s0).ne n0
      have f1 : (hid p H1) m0 = none := by
        have z := hid_none (p := p) n0
        exact z
      have s1 : Same H1 (upd H1 m0 (dM w m0 [])) := s0.trans (same_upd n0)
      have u1 : Same (hid p H1) (upd (hid p H1) m0 (dM w m0 [])) := same_upd f1
      have p2 : T3 ≠ p := (d1.same s1).ne n3
      have f2 : (upd (hid p H1) m0 (dM w m0 [])) T3 = none := by
        have z := hid_none (p := p) n3
        rw [hid_upd p1] at z
        exact z
      have s2 : Same H1 (upd (upd H1 m0 (dM w m0 [])) T3 (.tup [.str (oneS c), .non])) := s1.trans (same_upd n3)
      have u2 : Same (upd (hid p H1) m0 (dM w m0 [])) (upd (upd (hid p H1) m0 (dM w m0 [])) T3 (.tup [.str (oneS c), .non])) := same_upd f2
      have p3 : T2 ≠ p := (d1.same s2).ne n2
      have f3 : (upd (upd (hid p H1) m0 (dM w m0 [])) T3 (.tup [.str (oneS c), .non])) T2 = none := by
        have z := hid_none (p := p) n2
        rw [hid_upd p2, hid_upd p1] at z
        exact z
      have s3 : Same H1 (upd (upd (upd H1 m0 (dM w m0 [])) T3 (.tup [.str (oneS c), .non])) T2 (.tup [.str "", .int 0])) := s2.trans (same_upd n2)
      have u3 : Same (upd (upd (hid p H1) m0 (dM w m0 [])) T3 (.tup [.str (oneS c), .non])) (upd (upd (upd (hid p H1) m0 (dM w m0 [])) T3 (.tup [.str (oneS c), .non])) T2 (.tup [.str "", .int 0])) := same_upd f3
      have s4 : Same H1 (upd (upd (upd (upd H1 m0 (dM w m0 [])) T3 (.tup [.str (oneS c), .non])) T2 (.tup [.str "", .int 0])) m0 (dM w m0 [(.tup [.text (oneS c), .none], .ref T3, .ref T2)])) := same_write (back_none s0 n0) s3
      have p5 : a0 ≠ p := (d1.same s4).ne n1
      have f5 : (upd (upd (upd (upd (hid p H1) m0 (dM w m0 [])) T3 (.tup [.str (oneS c), .non])) T2 (.tup [.str "", .int 0])) m0 (dM w m0 [(.tup [.text (oneS c), .none], .ref T3, .ref T2)])) a0 = none := by
        have z := hid_none (p := p) n1
        rw [hid_upd p1, hid_upd p3, hid_upd p2, hid_upd p1] at z
        exact z
      have s5 : Same H1 (upd (upd (upd (upd (upd H1 m0 (dM w m0 [])) T3 (.tup [.str (oneS c), .non])) T2 (.tup [.str "", .int 0])) m0 (dM w m0 [(.tup [.text (oneS c), .none], .ref T3, .ref T2)])) a0 (.tup [.ref m0, .int 0, .str ""])) := s4.trans (same_upd n1)
      have u5 : Same (upd (upd (upd (upd (hid p H1) m0 (dM w m0 [])) T3 (.tup [.str (oneS c), .non])) T2 (.tup [.str "", .int 0])) m0 (dM w m0 [(.tup [.text (oneS c), .none], .ref T3, .ref T2)])) (upd (upd (upd (upd (upd (hid p H1) m0 (dM w m0 [])) T3 (.tup [.str (oneS c), .non])) T2 (.tup [.str "", .int 0])) m0 (dM w m0 [(.tup [.text (oneS c), .none], .ref T3, .ref T2)])) a0 (.tup [.ref m0, .int 0, .str ""])) := same_upd f5
      have p6 : R ≠ p := (d1.same s5).ne nR
      have f6 : (upd (upd (upd (upd (upd (hid p H1) m0 (dM w m0 [])) T3 (.tup [.str (oneS c), .non])) T2 (.tup [.str "", .int 0])) m0 (dM w m0 [(.tup [.text (oneS c), .none], .ref T3, .ref T2)])) a0 (.tup [.ref m0, .int 0, .str ""])) R = none := by
        have z := hid_none (p := p) nR
        rw [hid_upd p5, hid_upd p1, hid_upd p3, hid_upd p2, hid_upd p1] at z
        exact z
      have s6 : Same H1 (upd (upd (upd (upd (upd (upd H1 m0 (dM w m0 [])) T3 (.tup [.str (oneS c), .non])) T2 (.tup [.str "", .int 0])) m0 (dM w m0 [(.tup [.text (oneS c), .none], .ref T3, .ref T2)])) a0 (.tup [.ref m0, .int 0, .str ""])) R (.lst [.ref a0])) := s5.trans (same_upd nR)
      have u6 : Same (upd (upd (upd (upd (upd (hid p H1) m0 (dM w m0 [])) T3 (.tup [.str (oneS c), .non])) T2 (.tup [.str "", .int 0])) m0 (dM w m0 [(.tup [.text (oneS c), .none], .ref T3, .ref T2)])) a0 (.tup [.ref m0, .int 0, .str ""])) (upd (upd (upd (upd (upd (upd (hid p H1) m0 (dM w m0 [])) T3 (.tup [.str (oneS c), .non])) T2 (.tup [.str "", .int 0])) m0 (dM w m0 [(.tup [.text (oneS c), .none], .ref T3, .ref T2)])) a0 (.tup [.ref m0, .int 0, .str ""])) R (.lst [.ref a0])) := same_upd f6
      have p7 : m1 ≠ p := (d1.same s6).ne nm1
      have f7 : (upd (upd (upd (upd (upd (upd (hid p H1) m0 (dM w m0 [])) T3 (.tup [.str (oneS c), .non])) T2 (.tup [.str "", .int 0])) m0 (dM w m0 [(.tup [.text (oneS c), .none], .ref T3, .ref T2)])) a0 (.tup [.ref m0, .int 0, .str ""])) R (.lst [.ref a0])) m1 = none := by
        have z := hid_none (p := p) nm1
        rw [hid_upd p6, hid_upd p5, hid_upd p1, hid_upd p3, hid_upd p2, hid_upd p1] at z
        exact z
      have s7 : Same H1 (upd (upd (upd (upd (upd (upd (upd H1 m0 (dM w m0 [])) T3 (.tup [.str (oneS c), .non])) T2 (.tup [.str "", .int 0])) m0 (dM w m0 [(.tup [.text (oneS c), .none], .ref T3, .ref T2)])) a0 (.tup [.ref m0, .int 0, .str ""])) R (.lst [.ref a0])) m1 (dM w m1 [])) := s6.trans (same_upd nm1)
      have u7 : Same (upd (upd (upd (upd (upd (upd (hid p H1) m0 (dM w m0 [])) T3 (.tup [.str (oneS c), .non])) T2 (.tup [.str "", .int 0])) m0 (dM w m0 [(.tup [.text (oneS c), .none], .ref T3, .ref T2)])) a0 (.tup [.ref m0, .int 0, .str ""])) R (.lst [.ref a0])) (upd (upd (upd (upd (upd (upd (upd (hid p H1) m0 (dM w m0 [])) T3 (.tup [.str (oneS c), .non])) T2 (.tup [.str "", .int 0])) m0 (dM w m0 [(.tup [.text (oneS c), .none], .ref T3, .ref T2)])) a0 (.tup [.ref m0, .int 0, .str ""])) R (.lst [.ref a0])) m1 (dM w m1 [])) := same_upd f7
      have p8 : a1 ≠ p := (d1.same s7).ne na1
      have f8 : (upd (upd (upd (upd (upd (upd (upd (hid p H1) m0 (dM w m0 [])) T3 (.tup [.str (oneS c), .non])) T2 (.tup [.str "", .int 0])) m0 (dM w m0 [(.tup [.text (oneS c), .none], .ref T3, .ref T2)])) a0 (.tup [.ref m0, .int 0, .str ""])) R (.lst [.ref a0])) m1 (dM w m1 [])) a1 = none := by
        have z := hid_none (p := p) na1
        rw [hid_upd p7, hid_upd p6, hid_upd p5, hid_upd p1, hid_upd p3, hid_upd p2, hid_upd p1] at z
        exact z
      have s8 : Same H1 (upd (upd (upd (upd (upd (upd (upd (upd H1 m0 (dM w m0 [])) T3 (.tup [.str (oneS c), .non])) T2 (.tup [.str "", .int 0])) m0 (dM w m0 [(.tup [.text (oneS c), .none], .ref T3, .ref T2)])) a0 (.tup [.ref m0, .int 0, .str ""])) R (.lst [.ref a0])) m1 (dM w m1 [])) a1 (.tup [.ref m1, .int 0])) := s7.trans (same_upd na1)
      have u8 : Same (upd (upd (upd (upd (upd (upd (upd (hid p H1) m0 (dM w m0 [])) T3 (.tup [.str (oneS c), .non])) T2 (.tup [.str "", .int 0])) m0 (dM w m0 [(.tup [.text (oneS c), .none], .ref T3, .ref T2)])) a0 (.tup [.ref m0, .int 0, .str ""])) R (.lst [.ref a0])) m1 (dM w m1 [])) (upd (upd (upd (upd (upd (upd (upd (upd (hid p H1) m0 (dM w m0 [])) T3 (.tup [.str (oneS c), .non])) T2 (.tup [.str "", .int 0])) m0 (dM w m0 [(.tup [.text (oneS c), .none], .ref T3, .ref T2)])) a0 (.tup [.ref m0, .int 0, .str ""])) R (.lst [.ref a0])) m1 (dM w m1 [])) a1 (.tup [.ref m1, .int 0])) := same_upd f8
      have p9 : B ≠ p := (d1.same s8).ne nB
      have f9 : (upd (upd (upd (upd (upd (upd (upd (upd (hid p H1) m0 (dM w m0 [])) T3 (.tup [.str (oneS c), .non])) T2 (.tup [.str "", .int 0])) m0 (dM w m0 [(.tup [.text (oneS c), .none], .ref T3, .ref T2)])) a0 (.tup [.ref m0, .int 0, .str ""])) R (.lst [.ref a0])) m1 (dM w m1 [])) a1 (.tup [.ref m1, .int 0])) B = none := by
        have z := hid_none (p := p) nB
        rw [hid_upd p8, hid_upd p7, hid_upd p6, hid_upd p5, hid_upd p1, hid_upd p3, hid_upd p2, hid_upd p1] at z
        exact z
      have s9 : Same H1 (upd (upd (upd (upd (upd (upd (upd (upd (upd H1 m0 (dM w m0 [])) T3 (.tup [.str (oneS c), .non])) T2 (.tup [.str "", .int 0])) m0 (dM w m0 [(.tup [.text (oneS c), .none], .ref T3, .ref T2)])) a0 (.tup [.ref m0, .int 0, .str ""])) R (.lst [.ref a0])) m1 (dM w m1 [])) a1 (.tup [.ref m1, .int 0])) B (.lst [.ref a1])) := s8.trans (same_upd nB)
      have u9 : Same (upd (upd (upd (upd (upd (upd (upd (upd (hid p H1) m0 (dM w m0 [])) T3 (.tup [.str (oneS c), .non])) T2 (.tup [.str "", .int 0])) m0 (dM w m0 [(.tup [.text (oneS c), .none], .ref T3, .ref T2)])) a0 (.tup [.ref m0, .int 0, .str ""])) R (.lst [.ref a0])) m1 (dM w m1 [])) a1 (.tup [.ref m1, .int 0])) (upd (upd (upd (upd (upd (upd (upd (upd (upd (hid p H1) m0 (dM w m0 [])) T3 (.tup [.str (oneS c), .non])) T2 (.tup [.str "", .int 0])) m0 (dM w m0 [(.tup [.text (oneS c), .none], .ref T3, .ref T2)])) a0 (.tup [.ref m0, .int 0, .str ""])) R (.lst [.ref a0])) m1 (dM w m1 [])) a1 (.tup [.ref m1, .int 0])) B (.lst [.ref a1])) := same_upd f9
      have p10 : S ≠ p := (d1.same s9).ne nS
      have f10 : (upd (upd (upd (upd (upd (upd (upd (upd (upd (hid p H1) m0 (dM w m0 [])) T3 (.tup [.str (oneS c), .non])) T2 (.tup [.str "", .int 0])) m0 (dM w m0 [(.tup [.text (oneS c), .none], .ref T3, .ref T2)])) a0 (.tup [.ref m0, .int 0, .str ""])) R (.lst [.ref a0])) m1 (dM w m1 [])) a1 (.tup [.ref m1, .int 0])) B (.lst [.ref a1])) S = none := by
        have z := hid_none (p := p) nS
        rw [hid_upd p9, hid_upd p8, hid_upd p7, hid_upd p6, hid_upd p5, hid_upd p1, hid_upd p3, hid_upd p2, hid_upd p1] at z
        exact z
      have s10 : Same H1 (upd (upd (upd (upd (upd (upd (upd (upd (upd (upd H1 m0 (dM w m0 [])) T3 (.tup [.str (oneS c), .non])) T2 (.tup [.str "", .int 0])) m0 (dM w m0 [(.tup [.text (oneS c), .none], .ref T3, .ref T2)])) a0 (.tup [.ref m0, .int 0, .str ""])) R (.lst [.ref a0])) m1 (dM w m1 [])) a1 (.tup [.ref m1, .int 0])) B (.lst [.ref a1])) S (.lst [.int 0])) := s9.trans (same_upd nS)
      have u10 : Same (upd (upd (upd (upd (upd (upd (upd (upd (upd (hid p H1) m0 (dM w m0 [])) T3 (.tup [.str (oneS c), .non])) T2 (.tup [.str "", .int 0])) m0 (dM w m0 [(.tup [.text (oneS c), .none], .ref T3, .ref T2)])) a0 (.tup [.ref m0, .int 0, .str ""])) R (.lst [.ref a0])) m1 (dM w m1 [])) a1 (.tup [.ref m1, .int 0])) B (.lst [.ref a1])) (upd (upd (upd (upd (upd (upd (upd (upd (upd (upd (hid p H1) m0 (dM w m0 [])) T3 (.tup [.str (oneS c), .non])) T2 (.tup [.str "", .int 0])) m0 (dM w m0 [(.tup [.text (oneS c), .none], .ref T3, .ref T2)])) a0 (.tup [.ref m0, .int 0, .str ""])) R (.lst [.ref a0])) m1 (dM w m1 [])) a1 (.tup [.ref m1, .int 0])) B (.lst [.ref a1])) S (.lst [.int 0])) := same_upd f10
      have p11 : t ≠ p := (d1.same s10).ne nt
      have f11 : (upd (upd (upd (upd (upd (upd (upd (upd (upd (upd (hid p H1) m0 (dM w m0 [])) T3 (.tup [.str (oneS c), .non])) T2 (.tup [.str "", .int 0])) m0 (dM w m0 [(.tup [.text (oneS c), .none], .ref T3, .ref T2)])) a0 (.tup [.ref m0, .int 0, .str ""])) R (.lst [.ref a0])) m1 (dM w m1 [])) a1 (.tup [.ref m1, .int 0])) B (.lst [.ref a1])) S (.lst [.int 0])) t = none := by
        have z := hid_none (p := p) nt
        rw [hid_upd p10, hid_upd p9, hid_upd p8, hid_upd p7, hid_upd p6, hid_upd p5, hid_upd p1, hid_upd p3, hid_upd p2, hid_upd p1] at z
        exact z
      have s11 : Same H1 (upd (upd (upd (upd (upd (upd (upd (upd (upd (upd (upd H1 m0 (dM w m0 [])) T3 (.tup [.str (oneS c), .non])) T2 (.tup [.str "", .int 0])) m0 (dM w m0 [(.tup [.text (oneS c), .none], .ref T3, .ref T2)])) a0 (.tup [.ref m0, .int 0, .str ""])) R (.lst [.ref a0])) m1 (dM w m1 [])) a1 (.tup [.ref m1, .int 0])) B (.lst [.ref a1])) S (.lst [.int 0])) t (.tup [.ref R, .ref B, .ref S])) := s10.trans (same_upd nt)
      have u11 : Same (upd (upd (upd (upd (upd (upd (upd (upd (upd (upd (hid p H1) m0 (dM w m0 [])) T3 (.tup [.str (oneS c), .non])) T2 (.tup [.str "", .int 0])) m0 (dM w m0 [(.tup [.text (oneS c), .none], .ref T3, .ref T2)])) a0 (.tup [.ref m0, .int 0, .str ""])) R (.lst [.ref a0])) m1 (dM w m1 [])) a1 (.tup [.ref m1, .int 0])) B (.lst [.ref a1])) S (.lst [.int 0])) (upd (upd (upd (upd (upd (upd (upd (upd (upd (upd (upd (hid p H1) m0 (dM w m0 [])) T3 (.tup [.str (oneS c), .non])) T2 (.tup [.str "", .int 0])) m0 (dM w m0 [(.tup [.text (oneS c), .none], .ref T3, .ref T2)])) a0 (.tup [.ref m0, .int 0, .str ""])) R (.lst [.ref a0])) m1 (dM w m1 [])) a1 (.tup [.ref m1, .int 0])) B (.lst [.ref a1])) S (.lst [.int 0])) t (.tup [.ref R, .ref B, .ref S])) := same_upd f11
      have o5_5 : Same (upd (upd (upd (upd (upd (hid p H1) m0 (dM w m0 [])) T3 (.tup [.str (oneS c), .non])) T2 (.tup [.str "", .int 0])) m0 (dM w m0 [(.tup [.text (oneS c), .none], .ref T3, .ref T2)])) a0 (.tup [.ref m0, .int 0, .str ""])) (upd (upd (upd (upd (upd (hid p H1) m0 (dM w m0 [])) T3 (.tup [.str (oneS c), .non])) T2 (.tup [.str "", .int 0])) m0 (dM w m0 [(.tup [.text (oneS c), .none], .ref T3, .ref T2)])) a0 (.tup [.ref m0, .int 0, .str ""])) := Same.refl _
      have o5_6 : Same (upd (upd (upd (upd (upd (hid p H1) m0 (dM w m0 [])) T3 (.tup [.str (oneS c), .non])) T2 (.tup [.str "", .int 0])) m0 (dM w m0 [(.tup [.text (oneS c), .none], .ref T3, .ref T2)])) a0 (.tup [.ref m0, .int 0, .str ""])) (upd (upd (upd (upd (upd (upd (hid p H1) m0 (dM w m0 [])) T3 (.tup [.str (oneS c), .non])) T2 (.tup [.str "", .int 0])) m0 (dM w m0 [(.tup [.text (oneS c), .none], .ref T3, .ref T2)])) a0 (.tup [.ref m0, .int 0, .str ""])) R (.lst [.ref a0])) := o5_5.trans u6
      have o5_7 : Same (upd (upd (upd (upd (upd (hid p H1) m0 (dM w m0 [])) T3 (.tup [.str (oneS c), .non])) T2 (.tup [.str "", .int 0])) m0 (dM w m0 [(.tup [.text (oneS c), .none], .ref T3, .ref T2)])) a0 (.tup [.ref m0, .int 0, .str ""])) (upd (upd (upd (upd (upd (upd (upd (hid p H1) m0 (dM w m0 [])) T3 (.tup [.str (oneS c), .non])) T2 (.tup [.str "", .int 0])) m0 (dM w m0 [(.tup [.text (oneS c), .none], .ref T3, .ref T2)])) a0 (.tup [.ref m0, .int 0, .str ""])) R (.lst [.ref a0])) m1 (dM w m1 [])) := o5_6.trans u7
      have o5_8 : Same (upd (upd (upd (upd (upd (hid p H1) m0 (dM w m0 [])) T3 (.tup [.str (oneS c), .non])) T2 (.tup [.str "", .int 0])) m0 (dM w m0 [(.tup [.text (oneS c), .none], .ref T3, .ref T2)])) a0 (.tup [.ref m0, .int 0, .str ""])) (upd (upd (upd (upd (upd (upd (upd (upd (hid p H1) m0 (dM w m0 [])) T3 (.tup [.str (oneS c), .non])) T2 (.tup [.str "", .int 0])) m0 (dM w m0 [(.tup [.text (oneS c), .none], .ref T3, .ref T2)])) a0 (.tup [.ref m0, .int 0, .str ""])) R (.lst [.ref a0])) m1 (dM w m1 [])) a1 (.tup [.ref m1, .int 0])) := o5_7.trans u8
      have o5_9 : Same (upd (upd (upd (upd (upd (hid p H1) m0 (dM w m0 [])) T3 (.tup [.str (oneS c), .non])) T2 (.tup [.str "", .int 0])) m0 (dM w m0 [(.tup [.text (oneS c), .none], .ref T3, .ref T2)])) a0 (.tup [.ref m0, .int 0, .str ""])) (upd (upd (upd (upd (upd (upd (upd (upd (upd (hid p H1) m0 (dM w m0 [])) T3 (.tup [.str (oneS c), .non])) T2 (.tup [.str "", .int 0])) m0 (dM w m0 [(.tup [.text (oneS c), .none], .ref T3, .ref T2)])) a0 (.tup [.ref m0, .int 0, .str ""])) R (.lst [.ref a0])) m1 (dM w m1 [])) a1 (.tup [.ref m1, .int 0])) B (.lst [.ref a1])) := o5_8.trans u9
      have o5_10 : Same (upd (upd (upd (upd (upd (hid p H1) m0 (dM w m0 [])) T3 (.tup [.str (oneS c), .non])) T2 (.tup [.str "", .int 0])) m0 (dM w m0 [(.tup [.text (oneS c), .none], .ref T3, .ref T2)])) a0 (.tup [.ref m0, .int 0, .str ""])) (upd (upd (upd (upd (upd (upd (upd (upd (upd (upd (hid p H1) m0 (dM w m0 [])) T3 (.tup [.str (oneS c), .non])) T2 (.tup [.str "", .int 0])) m0 (dM w m0 [(.tup [.text (oneS c), .none], .ref T3, .ref T2)])) a0 (.tup [.ref m0, .int 0, .str ""])) R (.lst [.ref a0])) m1 (dM w m1 [])) a1 (.tup [.ref m1, .int 0])) B (.lst [.ref a1])) S (.lst [.int 0])) := o5_9.trans u10
      have o5_11 : Same (upd (upd (upd (upd (upd (hid p H1) m0 (dM w m0 [])) T3 (.tup [.str (oneS c), .non])) T2 (.tup [.str "", .int 0])) m0 (dM w m0 [(.tup [.text (oneS c), .none], .ref T3, .ref T2)])) a0 (.tup [.ref m0, .int 0, .str ""])) (upd (upd (upd (upd (upd (upd (upd (upd (upd (upd (upd (hid p H1) m0 (dM w m0 [])) T3 (.tup [.str (oneS c), .non])) T2 (.tup [.str "", .int 0])) m0 (dM w m0 [(.tup [.text (oneS c), .none], .ref T3, .ref T2)])) a0 (.tup [.ref m0, .int 0, .str ""])) R (.lst [.ref a0])) m1 (dM w m1 [])) a1 (.tup [.ref m1, .int 0])) B (.lst [.ref a1])) S (.lst [.int 0])) t (.tup [.ref R, .ref B, .ref S])) := o5_10.trans u11
      have o6_6 : Same (upd (upd (upd (upd (upd (upd (hid p H1) m0 (dM w m0 [])) T3 (.tup [.str (oneS c), .non])) T2 (.tup [.str "", .int 0])) m0 (dM w m0 [(.tup [.text (oneS c), .none], .ref T3, .ref T2)])) a0 (.tup [.ref m0, .int 0, .str ""])) R (.lst [.ref a0])) (upd (upd (upd (upd (upd (upd (hid p H1) m0 (dM w m0 [])) T3 (.tup [.str (oneS c), .non])) T2 (.tup [.str "", .int 0])) m0 (dM w m0 [(.tup [.text (oneS c), .none], .ref T3, .ref T2)])) a0 (.tup [.ref m0, .int 0, .str ""])) R (.lst [.ref a0])) := Same.refl _
      have o6_7 : Same (upd (upd (upd (upd (upd (upd (hid p H1) m0 (dM w m0 [])) T3 (.tup [.str (oneS c), .non])) T2 (.tup [.str "", .int 0])) m0 (dM w m0 [(.tup [.text (oneS c), .none], .ref T3, .ref T2)])) a0 (.tup [.ref m0, .int 0, .str ""])) R (.lst [.ref a0])) (upd (upd (upd (upd (upd (upd (upd (hid p H1) m0 (dM w m0 [])) T3 (.tup [.str (oneS c), .non])) T2 (.tup [.str "", .int 0])) m0 (dM w m0 [(.tup [.text (oneS c), .none], .ref T3, .ref T2)])) a0 (.tup [.ref m0, .int 0, .str ""])) R (.lst [.ref a0])) m1 (dM w m1 [])) := o6_6.trans u7
      have o6_8 : Same (upd (upd (upd (upd (upd (upd (hid p H1) m0 (dM w m0 [])) T3 (.tup [.str (oneS c), .non])) T2 (.tup [.str "", .int 0])) m0 (dM w m0 [(.tup [.text (oneS c), .none], .ref T3, .ref T2)])) a0 (.tup [.ref m0, .int 0, .str ""])) R (.lst [.ref a0])) (upd (upd (upd (upd (upd (upd (upd (upd (hid p H1) m0 (dM w m0 [])) T3 (.tup [.str (oneS c), .non])) T2 (.tup [.str "", .int 0])) m0 (dM w m0 [(.tup [.text (oneS c), .none], .ref T3, .ref T2)])) a0 (.tup [.ref m0, .int 0, .str ""])) R (.lst [.ref a0])) m1 (dM w m1 [])) a1 (.tup [.ref m1, .int 0])) := o6_7.trans u8
      have o6_9 : Same (upd (upd (upd (upd (upd (upd (hid p H1) m0 (dM w m0 [])) T3 (.tup [.str (oneS c), .non])) T2 (.tup [.str "", .int 0])) m0 (dM w m0 [(.tup [.text (oneS c), .none], .ref T3, .ref T2)])) a0 (.tup [.ref m0, .int 0, .str ""])) R (.lst [.ref a0])) (upd (upd (upd (upd (upd (upd (upd (upd (upd (hid p H1) m0 (dM w m0 [])) T3 (.tup [.str (oneS c), .non])) T2 (.tup [.str "", .int 0])) m0 (dM w m0 [(.tup [.text (oneS c), .none], .ref T3, .ref T2)])) a0 (.tup [.ref m0, .int 0, .str ""])) R (.lst [.ref a0])) m1 (dM w m1 [])) a1 (.tup [.ref m1, .int 0])) B (.lst [.ref a1])) := o6_8.trans u9
      have o6_10 : Same (upd (upd (upd (upd (upd (upd (hid p H1) m0 (dM w m0 [])) T3 (.tup [.str (oneS c), .non])) T2 (.tup [.str "", .int 0])) m0 (dM w m0 [(.tup [.text (oneS c), .none], .ref T3, .ref T2)])) a0 (.tup [.ref m0, .int 0, .str ""])) R (.lst [.ref a0])) (upd (upd (upd (upd (upd (upd (upd (upd (upd (upd (hid p H1) m0 (dM w m0 [])) T3 (.tup [.str (oneS c), .non])) T2 (.tup [.str "", .int 0])) m0 (dM w m0 [(.tup [.text (oneS c), .none], .ref T3, .ref T2)])) a0 (.tup [.ref m0, .int 0, .str ""])) R (.lst [.ref a0])) m1 (dM w m1 [])) a1 (.tup [.ref m1, .int 0])) B (.lst [.ref a1])) S (.lst [.int 0])) := o6_9.trans u10
      have o6_11 : Same (upd (upd (upd (upd (upd (upd (hid p H1) m0 (dM w m0 [])) T3 (.tup [.str (oneS c), .non])) T2 (.tup [.str "", .int 0])) m0 (dM w m0 [(.tup [.text (oneS c), .none], .ref T3, .ref T2)])) a0 (.tup [.ref m0, .int 0, .str ""])) R (.lst [.ref a0])) (upd (upd (upd (upd (upd (upd (upd (upd (upd (upd (upd (hid p H1) m0 (dM w m0 [])) T3 (.tup [.str (oneS c), .non])) T2 (.tup [.str "", .int 0])) m0 (dM w m0 [(.tup [.text (oneS c), .none], .ref T3, .ref T2)])) a0 (.tup [.ref m0, .int 0, .str ""])) R (.lst [.ref a0])) m1 (dM w m1 [])) a1 (.tup [.ref m1, .int 0])) B (.lst [.ref a1])) S (.lst [.int 0])) t (.tup [.ref R, .ref B, .ref S])) := o6_10.trans u11
      have o8_8 : Same (upd (upd (upd (upd (upd (upd (upd (upd (hid p H1) m0 (dM w m0 [])) T3 (.tup [.str (oneS c), .non])) T2 (.tup [.str "", .int 0])) m0 (dM w m0 [(.tup [.text (oneS c), .none], .ref T3, .ref T2)])) a0 (.tup [.ref m0, .int 0, .str ""])) R (.lst [.ref a0])) m1 (dM w m1 [])) a1 (.tup [.ref m1, .int 0])) (upd (upd (upd (upd (upd (upd (upd (upd (hid p H1) m0 (dM w m0 [])) T3 (.tup [.str (oneS c), .non])) T2 (.tup [.str "", .int 0])) m0 (dM w m0 [(.tup [.text (oneS c), .none], .ref T3, .ref T2)])) a0 (.tup [.ref m0, .int 0, .str ""])) R (.lst [.ref a0])) m1 (dM w m1 [])) a1 (.tup [.ref m1, .int 0])) := Same.refl _
      have o8_9 : Same (upd (upd (upd (upd (upd (upd (upd (upd (hid p H1) m0 (dM w m0 [])) T3 (.tup [.str (oneS c), .non])) T2 (.tup [.str "", .int 0])) m0 (dM w m0 [(.tup [.text (oneS c), .none], .ref T3, .ref T2)])) a0 (.tup [.ref m0, .int 0, .str ""])) R (.lst [.ref a0])) m1 (dM w m1 [])) a1 (.tup [.ref m1, .int 0])) (upd (upd (upd (upd (upd (upd (upd (upd (upd (hid p H1) m0 (dM w m0 [])) T3 (.tup [.str (oneS c), .non])) T2 (.tup [.str "", .int 0])) m0 (dM w m0 [(.tup [.text (oneS c), .none], .ref T3, .ref T2)])) a0 (.tup [.ref m0, .int 0, .str ""])) R (.lst [.ref a0])) m1 (dM w m1 [])) a1 (.tup [.ref m1, .int 0])) B (.lst [.ref a1])) := o8_8.trans u9
      have o8_10 : Same (upd (upd (upd (upd (upd (upd (upd (upd (hid p H1) m0 (dM w m0 [])) T3 (.tup [.str (oneS c), .non])) T2 (.tup [.str "", .int 0])) m0 (dM w m0 [(.tup [.text (oneS c), .none], .ref T3, .ref T2)])) a0 (.tup [.ref m0, .int 0, .str ""])) R (.lst [.ref a0])) m1 (dM w m1 [])) a1 (.tup [.ref m1, .int 0])) (upd (upd (upd (upd (upd (upd (upd (upd (upd (upd (hid p H1) m0 (dM w m0 [])) T3 (.tup [.str (oneS c), .non])) T2 (.tup [.str "", .int 0])) m0 (dM w m0 [(.tup [.text (oneS c), .none], .ref T3, .ref T2)])) a0 (.tup [.ref m0, .int 0, .str ""])) R (.lst [.ref a0])) m1 (dM w m1 [])) a1 (.tup [.ref m1, .int 0])) B (.lst [.ref a1])) S (.lst [.int 0])) := o8_9.trans u10
      have o8_11 : Same (upd (upd (upd (upd (upd (upd (upd (upd (hid p H1) m0 (dM w m0 [])) T3 (.tup [.str (oneS c), .non])) T2 (.tup [.str "", .int 0])) m0 (dM w m0 [(.tup [.text (oneS c), .none], .ref T3, .ref T2)])) a0 (.tup [.ref m0, .int 0, .str ""])) R (.lst [.ref a0])) m1 (dM w m1 [])) a1 (.tup [.ref m1, .int 0])) (upd (upd (upd (upd (upd (upd (upd (upd (upd (upd (upd (hid p H1) m0 (dM w m0 [])) T3 (.tup [.str (oneS c), .non])) T2 (.tup [.str "", .int 0])) m0 (dM w m0 [(.tup [.text (oneS c), .none], .ref T3, .ref T2)])) a0 (.tup [.ref m0, .int 0, .str ""])) R (.lst [.ref a0])) m1 (dM w m1 [])) a1 (.tup [.ref m1, .int 0])) B (.lst [.ref a1])) S (.lst [.int 0])) t (.tup [.ref R, .ref B, .ref S])) := o8_10.trans u11
      have o9_9 : Same (upd (upd (upd (upd (upd (upd (upd (upd (upd (hid p H1) m0 (dM w m0 [])) T3 (.tup [.str (oneS c), .non])) T2 (.tup [.str "", .int 0])) m0 (dM w m0 [(.tup [.text (oneS c), .none], .ref T3, .ref T2)])) a0 (.tup [.ref m0, .int 0, .str ""])) R (.lst [.ref a0])) m1 (dM w m1 [])) a1 (.tup [.ref m1, .int 0])) B (.lst [.ref a1])) (upd (upd (upd (upd (upd (upd (upd (upd (upd (hid p H1) m0 (dM w m0 [])) T3 (.tup [.str (oneS c), .non])) T2 (.tup [.str "", .int 0])) m0 (dM w m0 [(.tup [.text (oneS c), .none], .ref T3, .ref T2)])) a0 (.tup [.ref m0, .int 0, .str ""])) R (.lst [.ref a0])) m1 (dM w m1 [])) a1 (.tup [.ref m1, .int 0])) B (.lst [.ref a1])) := Same.refl _
      have o9_10 : Same (upd (upd (upd (upd (upd (upd (upd (upd (upd (hid p H1) m0 (dM w m0 [])) T3 (.tup [.str (oneS c), .non])) T2 (.tup [.str "", .int 0])) m0 (dM w m0 [(.tup [.text (oneS c), .none], .ref T3, .ref T2)])) a0 (.tup [.ref m0, .int 0, .str ""])) R (.lst [.ref a0])) m1 (dM w m1 [])) a1 (.tup [.ref m1, .int 0])) B (.lst [.ref a1])) (upd (upd (upd (upd (upd (upd (upd (upd (upd (upd (hid p H1) m0 (dM w m0 [])) T3 (.tup [.str (oneS c), .non])) T2 (.tup [.str "", .int 0])) m0 (dM w m0 [(.tup [.text (oneS c), .none], .ref T3, .ref T2)])) a0 (.tup [.ref m0, .int 0, .str ""])) R (.lst [.ref a0])) m1 (dM w m1 [])) a1 (.tup [.ref m1, .int 0])) B (.lst [.ref a1])) S (.lst [.int 0])) := o9_9.trans u10
      have o9_11 : Same (upd (upd (upd (upd (upd (upd (upd (upd (upd (hid p H1) m0 (dM w m0 [])) T3 (.tup [.str (oneS c), .non])) T2 (.tup [.str "", .int 0])) m0 (dM w m0 [(.tup [.text (oneS c), .none], .ref T3, .ref T2)])) a0 (.tup [.ref m0, .int 0, .str ""])) R (.lst [.ref a0])) m1 (dM w m1 [])) a1 (.tup [.ref m1, .int 0])) B (.lst [.ref a1])) (upd (upd (upd (upd (upd (upd (upd (upd (upd (upd (upd (hid p H1) m0 (dM w m0 [])) T3 (.tup [.str (oneS c), .non])) T2 (.tup [.str "", .int 0])) m0 (dM w m0 [(.tup [.text (oneS c), .none], .ref T3, .ref T2)])) a0 (.tup [.ref m0, .int 0, .str ""])) R (.lst [.ref a0])) m1 (dM w m1 [])) a1 (.tup [.ref m1, .int 0])) B (.lst [.ref a1])) S (.lst [.int 0])) t (.tup [.ref R, .ref B, .ref S])) := o9_10.trans u11
      have o10_10 : Same (upd (upd (upd (upd (upd (upd (upd (upd (upd (upd (hid p H1) m0 (dM w m0 [])) T3 (.tup [.str (oneS c), .non])) T2 (.tup [.str "", .int 0])) m0 (dM w m0 [(.tup [.text (oneS c), .none], .ref T3, .ref T2)])) a0 (.tup [.ref m0, .int 0, .str ""])) R (.lst [.ref a0])) m1 (dM w m1 [])) a1 (.tup [.ref m1, .int 0])) B (.lst [.ref a1])) S (.lst [.int 0])) (upd (upd (upd (upd (upd (upd (upd (upd (upd (upd (hid p H1) m0 (dM w m0 [])) T3 (.tup [.str (oneS c), .non])) T2 (.tup [.str "", .int 0])) m0 (dM w m0 [(.tup [.text (oneS c), .none], .ref T3, .ref T2)])) a0 (.tup [.ref m0, .int 0, .str ""])) R (.lst [.ref a0])) m1 (dM w m1 [])) a1 (.tup [.ref m1, .int 0])) B (.lst [.ref a1])) S (.lst [.int 0])) := Same.refl _
      have o10_11 : Same (upd (upd (upd (upd (upd (upd (upd (upd (upd (upd (hid p H1) m0 (dM w m0 [])) T3 (.tup [.str (oneS c), .non])) T2 (.tup [.str "", .int 0])) m0 (dM w m0 [(.tup [.text (oneS c), .none], .ref T3, .ref T2)])) a0 (.tup [.ref m0, .int 0, .str ""])) R (.lst [.ref a0])) m1 (dM w m1 [])) a1 (.tup [.ref m1, .int 0])) B (.lst [.ref a1])) S (.lst [.int 0])) (upd (upd (upd (upd (upd (upd (upd (upd (upd (upd (upd (hid p H1) m0 (dM w m0 [])) T3 (.tup [.str (oneS c), .non])) T2 (.tup [.str "", .int 0])) m0 (dM w m0 [(.tup [.text (oneS c), .none], .ref T3, .ref T2)])) a0 (.tup [.ref m0, .int 0, .str ""])) R (.lst [.ref a0])) m1 (dM w m1 [])) a1 (.tup [.ref m1, .int 0])) B (.lst [.ref a1])) S (.lst [.int 0])) t (.tup [.ref R, .ref B, .ref S])) := o10_10.trans u11
      have hh : hid p (upd (upd (upd (upd (upd (upd (upd (upd (upd (upd (upd H1 m0 (dM w m0 [])) T3 (.tup [.str (oneS c), .non])) T2 (.tup [.str "", .int 0])) m0 (dM w m0 [(.tup [.text (oneS c), .none], .ref T3, .ref T2)])) a0 (.tup [.ref m0, .int 0, .str ""])) R (.lst [.ref a0])) m1 (dM w m1 [])) a1 (.tup [.ref m1, .int 0])) B (.lst [.ref a1])) S (.lst [.int 0])) t (.tup [.ref R, .ref B, .ref S])) = (upd (upd (upd (upd (upd (upd (upd (upd (upd (upd (upd (hid p H1) m0 (dM w m0 [])) T3 (.tup [.str (oneS c), .non])) T2 (.tup [.str "", .int 0])) m0 (dM w m0 [(.tup [.text (oneS c), .none], .ref T3, .ref T2)])) a0 (.tup [.ref m0, .int 0, .str ""])) R (.lst [.ref a0])) m1 (dM w m1 [])) a1 (.tup [.ref m1, .int 0])) B (.lst [.ref a1])) S (.lst [.int 0])) t (.tup [.ref R, .ref B, .ref S])) := by rw [hid_upd p11, hid_upd p10, hid_upd p9, hid_upd p8, hid_upd p7, hid_upd p6, hid_upd p5, hid_upd p1, hid_upd p3, hid_upd p2, hid_upd p1]
      have A0 : StX K w (upd (upd (upd (upd (upd (hid p H1) m0 (dM w m0 [])) T3 (.tup [.str (oneS c), .non])) T2 (.tup [.str "", .int 0])) m0 (dM w m0 [(.tup [.text (oneS c), .none], .ref T3, .ref T2)])) a0 (.tup [.ref m0, .int 0, .str ""])) 3 (.ref a0) (.good [mvRow c .none .none "" 0 T2 T3] [.int 0, .str ""] [.int 0, .str ""]) := st_at upd_same MV.1 f5 (fun _ => .cons (.int _) (.cons (.str _) .nil)) rfl (by simp; decide)
      have A1 : StX K w (upd (upd (upd (upd (upd (upd (upd (upd (hid p H1) m0 (dM w m0 [])) T3 (.tup [.str (oneS c), .non])) T2 (.tup [.str "", .int 0])) m0 (dM w m0 [(.tup [.text (oneS c), .none], .ref T3, .ref T2)])) a0 (.tup [.ref m0, .int 0, .str ""])) R (.lst [.ref a0])) m1 (dM w m1 [])) a1 (.tup [.ref m1, .int 0])) 2 (.ref a1) (.good [] [.int 0] [.int 0]) := st_at upd_same rowsx_nil f8 (fun _ => .cons (.int _) .nil) rfl (by simp; decide)
      refine q _ t R B S [.ref a0] [.ref a1] [.int 0] _ _ [.int 0] (k1.trans (Keep.of_same d1 s11)) ?_ (ok1 MV.2.2.2)
      exact Eq.mpr (congrArg (fun G => WildAt K w G t R B S _ _ _ _ _ _) hh) (show WildAt K w (upd (upd (upd (upd (upd (upd (upd (upd (upd (upd (upd (hid p H1) m0 (dM w m0 [])) T3 (.tup [.str (oneS c), .non])) T2 (.tup [.str "", .int 0])) m0 (dM w m0 [(.tup [.text (oneS c), .none], .ref T3, .ref T2)])) a0 (.tup [.ref m0, .int 0, .str ""])) R (.lst [.ref a0])) m1 (dM w m1 [])) a1 (.tup [.ref m1, .int 0])) B (.lst [.ref a1])) S (.lst [.int 0])) t (.tup [.ref R, .ref B, .ref S])) t R B S _ _ _ _ _ _ from ⟨.of upd_same, .of (o6_11 _ _ upd_same), .of (o9_11 _ _ upd_same), .of (o10_11 _ _ upd_same), .cons (A0.same o5_11) .nil, .cons (A1.same o8_11) .nil, .cons (.int _) .nil⟩)
    clear e
    refine ⟨_, rfl, rfl, _, rfl, ite2 (fun e => ?_) (fun e => ?_)⟩
    · refine fun m0 n0 => ⟨_, rfl, by show 2 ≤ sizeLine; omega, fun T3 n3 => ⟨by show 2 ≤ sizeLine; omega, fun T2 n2 => ?_⟩⟩
      have K3 : KeyV K (upd (upd (upd H1 m0 (dM w m0 [])) T3 (.tup [.str (oneS c), .int 0])) T2 (.tup [.str "", .int 0])) (.ref T3) (.tup [.text (oneS c), .num 0]) := .tup (.of (same_upd n2 _ _ upd_same)) (.cons (.atom rfl) (.cons (.atom rfl) .nil))
      refine ⟨(same_upd n2) _ _ ((same_upd n3) _ _ upd_same), _, K3, by show 1 ≤ 8; decide, by show 3 ≤ sizeLine; omega, fun a0 n1 => ⟨by show 1 ≤ sizeLine; omega, fun R nR => fun m1 nm1 => ⟨_, rfl, upd_same, .text (oneS c), .atom rfl, by show 0 ≤ 8; decide, by show 2 ≤ sizeLine; omega, fun a1 na1 => fun m2 nm2 => ⟨by show 2 ≤ sizeLine; omega, fun a2 na2 => ⟨by show 2 ≤ sizeLine; omega, fun B nB => ⟨by show 2 ≤ sizeLine; omega, fun S nS => ⟨by show 3 ≤ sizeLine; omega, fun t nt => ?_⟩⟩⟩⟩⟩⟩⟩
      have pm : m0 ≠ p := d1.ne n0
      have p3 : T3 ≠ p := (d1.same (same_upd n0)).ne n3
      have p2 : T2 ≠ p := (d1.same ((same_upd n0).trans (same_upd n3))).ne n2
      have MV := mv_at (K := K) (w := w) (G := hid p H1) (m := m0) (T3 := T3) (T2 := T2) (c := c) (vv := (.int 0)) (vd := (.int 0)) (nk := (.num 0)) (views := 2) (.inr rfl) (.inr ⟨0, rfl, rfl, rfl, by decide, by decide⟩) mc (hid_none n0) (by
        have z := hid_none (p := p) n3
        rw [hid_upd pm] at z
        exact z) (by
        have z := hid_none (p := p) n2
        rw [hid_upd p3, hid_upd pm] at z
        exact z)
      have s0 : Same H1 H1 := Same.refl H1
      have g0 : Same (hid p H1) (hid p H1) := Same.refl _
      have p1 : m0 ≠ p := (d1.same s0).ne n0
      have f1 : (hid p H1) m0 = none := by
        have z := hid_none (p := p) n0
        exact z
      have s1 : Same H1 (upd H1 m0 (dM w m0 [])) := s0.trans (same_upd n0)
      have u1 : Same (hid p H1) (upd (hid p H1) m0 (dM w m0 [])) := same_upd f1
      have p2 : T3 ≠ p := (d1.same s1).ne n3
      have f2 : (upd (hid p H1) m0 (dM w m0 [])) T3 = none := by
        have z := hid_none (p := p) n3
        rw [hid_upd p1] at z
        exact z
      have s2 : Same H1 (upd (upd H1 m0 (dM w m0 [])) T3 (.tup [.str (oneS c), .int 0])) := s1.trans (same_upd n3)
      have u2 : Same (upd (hid p H1) m0 (dM w m0 [])) (upd (upd (hid p H1) m0 (dM w m0 [])) T3 (.tup [.str (oneS c), .int 0])) := same_upd f2
      have p3 : T2 ≠ p := (d1.same s2).ne n2
      have f3 : (upd (upd (hid p H1) m0 (dM w m0 [])) T3 (.tup [.str (oneS c), .int 0])) T2 = none := by
        have z := hid_none (p := p) n2
        rw [hid_upd p2, hid_upd p1] at z
        exact z
      have s3 : Same H1 (upd (upd (upd H1 m0 (dM w m0 [])) T3 (.tup [.str (oneS c), .int 0])) T2 (.tup [.str "", .int 0])) := s2.trans (same_upd n2)
      have u3 : Same (upd (upd (hid p H1) m0 (dM w m0 [])) T3 (.tup [.str (oneS c), .int 0])) (upd (upd (upd (hid p H1) m0 (dM w m0 [])) T3 (.tup [.str (oneS c), .int 0])) T2 (.tup [.str "", .int 0])) := same_upd f3
      have s4 : Same H1 (upd (upd (upd (upd H1 m0 (dM w m0 [])) T3 (.tup [.str (oneS c), .int 0])) T2 (.tup [.str "", .int 0])) m0 (dM w m0 [(.tup [.text (oneS c), .num 0], .ref T3, .ref T2)])) := same_write (back_none s0 n0) s3
      have p5 : a0 ≠ p := (d1.same s4).ne n1
      have f5 : (upd (upd (upd (upd (hid p H1) m0 (dM w m0 [])) T3 (.tup [.str (oneS c), .int 0])) T2 (.tup [.str "", .int 0])) m0 (dM w m0 [(.tup [.text (oneS c), .num 0], .ref T3, .ref T2)])) a0 = none := by
        have z := hid_none (p := p) n1
        rw [hid_upd p1, hid_upd p3, hid_upd p2, hid_upd p1] at z
        exact z
      have s5 : Same H1 (upd (upd (upd (upd (upd H1 m0 (dM w m0 [])) T3 (.tup [.str (oneS c), .int 0])) T2 (.tup [.str "", .int 0])) m0 (dM w m0 [(.tup [.text (oneS c), .num 0], .ref T3, .ref T2)])) a0 (.tup [.ref m0, .int 0, .str ""])) := s4.trans (same_upd n1)
      have u5 : Same (upd (upd (upd (upd (hid p H1) m0 (dM w m0 [])) T3 (.tup [.str (oneS c), .int 0])) T2 (.tup [.str "", .int 0])) m0 (dM w m0 [(.tup [.text (oneS c), .num 0], .ref T3, .ref T2)])) (upd (upd (upd (upd (upd (hid p H1) m0 (dM w m0 [])) T3 (.tup [.str (oneS c), .int 0])) T2 (.tup [.str "", .int 0])) m0 (dM w m0 [(.tup [.text (oneS c), .num 0], .ref T3, .ref T2)])) a0 (.tup [.ref m0, .int 0, .str ""])) := same_upd f5
      have p6 : R ≠ p := (d1.same s5).ne nR
      have f6 : (upd (upd (upd (upd (upd (hid p H1) m0 (dM w m0 [])) T3 (.tup [.str (oneS c), .int 0])) T2 (.tup [.str "", .int 0])) m0 (dM w m0 [(.tup [.text (oneS c), .num 0], .ref T3, .ref T2)])) a0 (.tup [.ref m0, .int 0, .str ""])) R = none := by
        have z := hid_none (p := p) nR
        rw [hid_upd p5, hid_upd p1, hid_upd p3, hid_upd p2, hid_upd p1] at z
        exact z
      have s6 : Same H1 (upd (upd (upd (upd (upd (upd H1 m0 (dM w m0 [])) T3 (.tup [.str (oneS c), .int 0])) T2 (.tup [.str "", .int 0])) m0 (dM w m0 [(.tup [.text (oneS c), .num 0], .ref T3, .ref T2)])) a0 (.tup [.ref m0, .int 0, .str ""])) R (.lst [.ref a0])) := s5.trans (same_upd nR)
      have u6 : Same (upd (upd (upd (upd (upd (hid p H1) m0 (dM w m0 [])) T3 (.tup [.str (oneS c), .int 0])) T2 (.tup [.str "", .int 0])) m0 (dM w m0 [(.tup [.text (oneS c), .num 0], .ref T3, .ref T2)])) a0 (.tup [.ref m0, .int 0, .str ""])) (upd (upd (upd (upd (upd (upd (hid p H1) m0 (dM w m0 [])) T3 (.tup [.str (oneS c), .int 0])) T2 (.tup [.str "", .int 0])) m0 (dM w m0 [(.tup [.text (oneS c), .num 0], .ref T3, .ref T2)])) a0 (.tup [.ref m0, .int 0, .str ""])) R (.lst [.ref a0])) := same_upd f6
      have p7 : m1 ≠ p := (d1.same s6).ne nm1
      have f7 : (upd (upd (upd (upd (upd (upd (hid p H1) m0 (dM w m0 [])) T3 (.tup [.str (oneS c), .int 0])) T2 (.tup [.str "", .int 0])) m0 (dM w m0 [(.tup [.text (oneS c), .num 0], .ref T3, .ref T2)])) a0 (.tup [.ref m0, .int 0, .str ""])) R (.lst [.ref a0])) m1 = none := by
        have z := hid_none (p := p) nm1
        rw [hid_upd p6, hid_upd p5, hid_upd p1, hid_upd p3, hid_upd p2, hid_upd p1] at z
        exact z
      have s7 : Same H1 (upd (upd (upd (upd (upd (upd (upd H1 m0 (dM w m0 [])) T3 (.tup [.str (oneS c), .int 0])) T2 (.tup [.str "", .int 0])) m0 (dM w m0 [(.tup [.text (oneS c), .num 0], .ref T3, .ref T2)])) a0 (.tup [.ref m0, .int 0, .str ""])) R (.lst [.ref a0])) m1 (dM w m1 [])) := s6.trans (same_upd nm1)
      have u7 : Same (upd (upd (upd (upd (upd (upd (hid p H1) m0 (dM w m0 [])) T3 (.tup [.str (oneS c), .int 0])) T2 (.tup [.str "", .int 0])) m0 (dM w m0 [(.tup [.text (oneS c), .num 0], .ref T3, .ref T2)])) a0 (.tup [.ref m0, .int 0, .str ""])) R (.lst [.ref a0])) (upd (upd (upd (upd (upd (upd (upd (hid p H1) m0 (dM w m0 [])) T3 (.tup [.str (oneS c), .int 0])) T2 (.tup [.str "", .int 0])) m0 (dM w m0 [(.tup [.text (oneS c), .num 0], .ref T3, .ref T2)])) a0 (.tup [.ref m0, .int 0, .str ""])) R (.lst [.ref a0])) m1 (dM w m1 [])) := same_upd f7
      have s8 : Same H1 (upd (upd (upd (upd (upd (upd (upd (upd H1 m0 (dM w m0 [])) T3 (.tup [.str (oneS c), .int 0])) T2 (.tup [.str "", .int 0])) m0 (dM w m0 [(.tup [.text (oneS c), .num 0], .ref T3, .ref T2)])) a0 (.tup [.ref m0, .int 0, .str ""])) R (.lst [.ref a0])) m1 (dM w m1 [])) m1 (dM w m1 [(.text (oneS c), .str (oneS c), .int 0)])) := same_write (back_none s6 nm1) s7
      have p9 : a1 ≠ p := (d1.same s8).ne na1
      have f9 : (upd (upd (upd (upd (upd (upd (upd (upd (hid p H1) m0 (dM w m0 [])) T3 (.tup [.str (oneS c), .int 0])) T2 (.tup [.str "", .int 0])) m0 (dM w m0 [(.tup [.text (oneS c), .num 0], .ref T3, .ref T2)])) a0 (.tup [.ref m0, .int 0, .str ""])) R (.lst [.ref a0])) m1 (dM w m1 [])) m1 (dM w m1 [(.text (oneS c), .str (oneS c), .int 0)])) a1 = none := by
        have z := hid_none (p := p) na1
        rw [hid_upd p7, hid_upd p7, hid_upd p6, hid_upd p5, hid_upd p1, hid_upd p3, hid_upd p2, hid_upd p1] at z
        exact z
      have s9 : Same H1 (upd (upd (upd (upd (upd (upd (upd (upd (upd H1 m0 (dM w m0 [])) T3 (.tup [.str (oneS c), .int 0])) T2 (.tup [.str "", .int 0])) m0 (dM w m0 [(.tup [.text (oneS c), .num 0], .ref T3, .ref T2)])) a0 (.tup [.ref m0, .int 0, .str ""])) R (.lst [.ref a0])) m1 (dM w m1 [])) m1 (dM w m1 [(.text (oneS c), .str (oneS c), .int 0)])) a1 (.tup [.ref m1, .int 1])) := s8.trans (same_upd na1)
      have u9 : Same (upd (upd (upd (upd (upd (upd (upd (upd (hid p H1) m0 (dM w m0 [])) T3 (.tup [.str (oneS c), .int 0])) T2 (.tup [.str "", .int 0])) m0 (dM w m0 [(.tup [.text (oneS c), .num 0], .ref T3, .ref T2)])) a0 (.tup [.ref m0, .int 0, .str ""])) R (.lst [.ref a0])) m1 (dM w m1 [])) m1 (dM w m1 [(.text (oneS c), .str (oneS c), .int 0)])) (upd (upd (upd (upd (upd (upd (upd (upd (upd (hid p H1) m0 (dM w m0 [])) T3 (.tup [.str (oneS c), .int 0])) T2 (.tup [.str "", .int 0])) m0 (dM w m0 [(.tup [.text (oneS c), .num 0], .ref T3, .ref T2)])) a0 (.tup [.ref m0, .int 0, .str ""])) R (.lst [.ref a0])) m1 (dM w m1 [])) m1 (dM w m1 [(.text (oneS c), .str (oneS c), .int 0)])) a1 (.tup [.ref m1, .int 1])) := same_upd f9
      have p10 : m2 ≠ p := (d1.same s9).ne nm2
      have f10 : (upd (upd (upd (upd (upd (upd (upd (upd (upd (hid p H1) m0 (dM w m0 [])) T3 (.tup [.str (oneS c), .int 0])) T2 (.tup [.str "", .int 0])) m0 (dM w m0 [(.tup [.text (oneS c), .num 0], .ref T3, .ref T2)])) a0 (.tup [.ref m0, .int 0, .str ""])) R (.lst [.ref a0])) m1 (dM w m1 [])) m1 (dM w m1 [(.text (oneS c), .str (oneS c), .int 0)])) a1 (.tup [.ref m1, .int 1])) m2 = none := by
        have z := hid_none (p := p) nm2
        rw [hid_upd p9, hid_upd p7, hid_upd p7, hid_upd p6, hid_upd p5, hid_upd p1, hid_upd p3, hid_upd p2, hid_upd p1] at z
        exact z
      have s10 : Same H1 (upd (upd (upd (upd (upd (upd (upd (upd (upd (upd H1 m0 (dM w m0 [])) T3 (.tup [.str (oneS c), .int 0])) T2 (.tup [.str "", .int 0])) m0 (dM w m0 [(.tup [.text (oneS c), .num 0], .ref T3, .ref T2)])) a0 (.tup [.ref m0, .int 0, .str ""])) R (.lst [.ref a0])) m1 (dM w m1 [])) m1 (dM w m1 [(.text (oneS c), .str (oneS c), .int 0)])) a1 (.tup [.ref m1, .int 1])) m2 (dM w m2 [])) := s9.trans (same_upd nm2)
      have u10 : Same (upd (upd (upd (upd (upd (upd (upd (upd (upd (hid p H1) m0 (dM w m0 [])) T3 (.tup [.str (oneS c), .int 0])) T2 (.tup [.str "", .int 0])) m0 (dM w m0 [(.tup [.text (oneS c), .num 0], .ref T3, .ref T2)])) a0 (.tup [.ref m0, .int 0, .str ""])) R (.lst [.ref a0])) m1 (dM w m1 [])) m1 (dM w m1 [(.text (oneS c), .str (oneS c), .int 0)])) a1 (.tup [.ref m1, .int 1])) (upd (upd (upd (upd (upd (upd (upd (upd (upd (upd (hid p H1) m0 (dM w m0 [])) T3 (.tup [.str (oneS c), .int 0])) T2 (.tup [.str "", .int 0])) m0 (dM w m0 [(.tup [.text (oneS c), .num 0], .ref T3, .ref T2)])) a0 (.tup [.ref m0, .int 0, .str ""])) R (.lst [.ref a0])) m1 (dM w m1 [])) m1 (dM w m1 [(.text (oneS c), .str (oneS c), .int 0)])) a1 (.tup [.ref m1, .int 1])) m2 (dM w m2 [])) := same_upd f10
      have p11 : a2 ≠ p := (d1.same s10).ne na2
      have f11 : (upd (upd (upd (upd (upd (upd (upd (upd (upd (upd (hid p H1) m0 (dM w m0 [])) T3 (.tup [.str (oneS c), .int 0])) T2 (.tup [.str "", .int 0])) m0 (dM w m0 [(.tup [.text (oneS c), .num 0], .ref T3, .ref T2)])) a0 (.tup [.ref m0, .int 0, .str ""])) R (.lst [.ref a0])) m1 (dM w m1 [])) m1 (dM w m1 [(.text (oneS c), .str (oneS c), .int 0)])) a1 (.tup [.ref m1, .int 1])) m2 (dM w m2 [])) a2 = none := by
        have z := hid_none (p := p) na2
        rw [hid_upd p10, hid_upd p9, hid_upd p7, hid_upd p7, hid_upd p6, hid_upd p5, hid_upd p1, hid_upd p3, hid_upd p2, hid_upd p1] at z
        exact z
      have s11 : Same H1 (upd (upd (upd (upd (upd (upd (upd (upd (upd (upd (upd H1 m0 (dM w m0 [])) T3 (.tup [.str (oneS c), .int 0])) T2 (.tup [.str "", .int 0])) m0 (dM w m0 [(.tup [.text (oneS c), .num 0], .ref T3, .ref T2)])) a0 (.tup [.ref m0, .int 0, .str ""])) R (.lst [.ref a0])) m1 (dM w m1 [])) m1 (dM w m1 [(.text (oneS c), .str (oneS c), .int 0)])) a1 (.tup [.ref m1, .int 1])) m2 (dM w m2 [])) a2 (.tup [.ref m2, .int 1])) := s10.trans (same_upd na2)
      have u11 : Same (upd (upd (upd (upd (upd (upd (upd (upd (upd (upd (hid p H1) m0 (dM w m0 [])) T3 (.tup [.str (oneS c), .int 0])) T2 (.tup [.str "", .int 0])) m0 (dM w m0 [(.tup [.text (oneS c), .num 0], .ref T3, .ref T2)])) a0 (.tup [.ref m0, .int 0, .str ""])) R (.lst [.ref a0])) m1 (dM w m1 [])) m1 (dM w m1 [(.text (oneS c), .str (oneS c), .int 0)])) a1 (.tup [.ref m1, .int 1])) m2 (dM w m2 [])) (upd (upd (upd (upd (upd (upd (upd (upd (upd (upd (upd (hid p H1) m0 (dM w m0 [])) T3 (.tup [.str (oneS c), .int 0])) T2 (.tup [.str "", .int 0])) m0 (dM w m0 [(.tup [.text (oneS c), .num 0], .ref T3, .ref T2)])) a0 (.tup [.ref m0, .int 0, .str ""])) R (.lst [.ref a0])) m1 (dM w m1 [])) m1 (dM w m1 [(.text (oneS c), .str (oneS c), .int 0)])) a1 (.tup [.ref m1, .int 1])) m2 (dM w m2 [])) a2 (.tup [.ref m2, .int 1])) := same_upd f11
      have p12 : B ≠ p := (d1.same s11).ne nB
      have f12 : (upd (upd (upd (upd (upd (upd (upd (upd (upd (upd (upd (hid p H1) m0 (dM w m0 [])) T3 (.tup [.str (oneS c), .int 0])) T2 (.tup [.str "", .int 0])) m0 (dM w m0 [(.tup [.text (oneS c), .num 0], .ref T3, .ref T2)])) a0 (.tup [.ref m0, .int 0, .str ""])) R (.lst [.ref a0])) m1 (dM w m1 [])) m1 (dM w m1 [(.text (oneS c), .str (oneS c), .int 0)])) a1 (.tup [.ref m1, .int 1])) m2 (dM w m2 [])) a2 (.tup [.ref m2, .int 1])) B = none := by
        have z := hid_none (p := p) nB
        rw [hid_upd p11, hid_upd p10, hid_upd p9, hid_upd p7, hid_upd p7, hid_upd p6, hid_upd p5, hid_upd p1, hid_upd p3, hid_upd p2, hid_upd p1] at z
        exact z
      have s12 : Same H1 (upd (upd (upd (upd (upd (upd (upd (upd (upd (upd (upd (upd H1 m0 (dM w m0 [])) T3 (.tup [.str (oneS c), .int 0])) T2 (.tup [.str "", .int 0])) m0 (dM w m0 [(.tup [.text (oneS c), .num 0], .ref T3, .ref T2)])) a0 (.tup [.ref m0, .int 0, .str ""])) R (.lst [.ref a0])) m1 (dM w m1 [])) m1 (dM w m1 [(.text (oneS c), .str (oneS c), .int 0)])) a1 (.tup [.ref m1, .int 1])) m2 (dM w m2 [])) a2 (.tup [.ref m2, .int 1])) B (.lst [.ref a1, .ref a2])) := s11.trans (same_upd nB)
      have u12 : Same (upd (upd (upd (upd (upd (upd (upd (upd (upd (upd (upd (hid p H1) m0 (dM w m0 [])) T3 (.tup [.str (oneS c), .int 0])) T2 (.tup [.str "", .int 0])) m0 (dM w m0 [(.tup [.text (oneS c), .num 0], .ref T3, .ref T2)])) a0 (.tup [.ref m0, .int 0, .str ""])) R (.lst [.ref a0])) m1 (dM w m1 [])) m1 (dM w m1 [(.text (oneS c), .str (oneS c), .int 0)])) a1 (.tup [.ref m1, .int 1])) m2 (dM w m2 [])) a2 (.tup [.ref m2, .int 1])) (upd (upd (upd (upd (upd (upd (upd (upd (upd (upd (upd (upd (hid p H1) m0 (dM w m0 [])) T3 (.tup [.str (oneS c), .int 0])) T2 (.tup [.str "", .int 0])) m0 (dM w m0 [(.tup [.text (oneS c), .num 0], .ref T3, .ref T2)])) a0 (.tup [.ref m0, .int 0, .str ""])) R (.lst [.ref a0])) m1 (dM w m1 [])) m1 (dM w m1 [(.text (oneS c), .str (oneS c), .int 0)])) a1 (.tup [.ref m1, .int 1])) m2 (dM w m2 [])) a2 (.tup [.ref m2, .int 1])) B (.lst [.ref a1, .ref a2])) := same_upd f12
      have p13 : S ≠ p := (d1.same s12).ne nS
      have f13 : (upd (upd (upd (upd (upd (upd (upd (upd (upd (upd (upd (upd (hid p H1) m0 (dM w m0 [])) T3 (.tup [.str (oneS c), .int 0])) T2 (.tup [.str "", .int 0])) m0 (dM w m0 [(.tup [.text (oneS c), .num 0], .ref T3, .ref T2)])) a0 (.tup [.ref m0, .int 0, .str ""])) R (.lst [.ref a0])) m1 (dM w m1 [])) m1 (dM w m1 [(.text (oneS c), .str (oneS c), .int 0)])) a1 (.tup [.ref m1, .int 1])) m2 (dM w m2 [])) a2 (.tup [.ref m2, .int 1])) B (.lst [.ref a1, .ref a2])) S = none := by
        have z := hid_none (p := p) nS
        rw [hid_upd p12, hid_upd p11, hid_upd p10, hid_upd p9, hid_upd p7, hid_upd p7, hid_upd p6, hid_upd p5, hid_upd p1, hid_upd p3, hid_upd p2, hid_upd p1] at z
        exact z
      have s13 : Same H1 (upd (upd (upd (upd (upd (upd (upd (upd (upd (upd (upd (upd (upd H1 m0 (dM w m0 [])) T3 (.tup [.str (oneS c), .int 0])) T2 (.tup [.str "", .int 0])) m0 (dM w m0 [(.tup [.text (oneS c), .num 0], .ref T3, .ref T2)])) a0 (.tup [.ref m0, .int 0, .str ""])) R (.lst [.ref a0])) m1 (dM w m1 [])) m1 (dM w m1 [(.text (oneS c), .str (oneS c), .int 0)])) a1 (.tup [.ref m1, .int 1])) m2 (dM w m2 [])) a2 (.tup [.ref m2, .int 1])) B (.lst [.ref a1, .ref a2])) S (.lst [.int 0, .int 0])) := s12.trans (same_upd nS)
      have u13 : Same (upd (upd (upd (upd (upd (upd (upd (upd (upd (upd (upd (upd (hid p H1) m0 (dM w m0 [])) T3 (.tup [.str (oneS c), .int 0])) T2 (.tup [.str "", .int 0])) m0 (dM w m0 [(.tup [.text (oneS c), .num 0], .ref T3, .ref T2)])) a0 (.tup [.ref m0, .int 0, .str ""])) R (.lst [.ref a0])) m1 (dM w m1 [])) m1 (dM w m1 [(.text (oneS c), .str (oneS c), .int 0)])) a1 (.tup [.ref m1, .int 1])) m2 (dM w m2 [])) a2 (.tup [.ref m2, .int 1])) B (.lst [.ref a1, .ref a2])) (upd (upd (upd (upd (upd (upd (upd (upd (upd (upd (upd (upd (upd (hid p H1) m0 (dM w m0 [])) T3 (.tup [.str (oneS c), .int 0])) T2 (.tup [.str "", .int 0])) m0 (dM w m0 [(.tup [.text (oneS c), .num 0], .ref T3, .ref T2)])) a0 (.tup [.ref m0, .int 0, .str ""])) R (.lst [.ref a0])) m1 (dM w m1 [])) m1 (dM w m1 [(.text (oneS c), .str (oneS c), .int 0)])) a1 (.tup [.ref m1, .int 1])) m2 (dM w m2 [])) a2 (.tup [.ref m2, .int 1])) B (.lst [.ref a1, .ref a2])) S (.lst [.int 0, .int 0])) := same_upd f13
      have p14 : t ≠ p := (d1.same s13).ne nt
      have f14 : (upd (upd (upd (upd (upd (upd (upd (upd (upd (upd (upd (upd (upd (hid p H1) m0 (dM w m0 [])) T3 (.tup [.str (oneS c), .int 0])) T2 (.tup [.str "", .int 0])) m0 (dM w m0 [(.tup [.text (oneS c), .num 0], .ref T3, .ref T2)])) a0 (.tup [.ref m0, .int 0, .str ""])) R (.lst [.ref a0])) m1 (dM w m1 [])) m1 (dM w m1 [(.text (oneS c), .str (oneS c), .int 0)])) a1 (.tup [.ref m1, .int 1])) m2 (dM w m2 [])) a2 (.tup [.ref m2, .int 1])) B (.lst [.ref a1, .ref a2])) S (.lst [.int 0, .int 0])) t = none := by
        have z := hid_none (p := p) nt
        rw [hid_upd p13, hid_upd p12, hid_upd p11, hid_upd p10, hid_upd p9, hid_upd p7, hid_upd p7, hid_upd p6, hid_upd p5, hid_upd p1, hid_upd p3, hid_upd p2, hid_upd p1] at z
        exact z
      have s14 : Same H1 (upd (upd (upd (upd (upd (upd (upd (upd (upd (upd (upd (upd (upd (upd H1 m0 (dM w m0 [])) T3 (.tup [.str (oneS c), .int 0])) T2 (.tup [.str "", .int 0])) m0 (dM w m0 [(.tup [.text (oneS c), .num 0], .ref T3, .ref T2)])) a0 (.tup [.ref m0, .int 0, .str ""])) R (.lst [.ref a0])) m1 (dM w m1 [])) m1 (dM w m1 [(.text (oneS c), .str (oneS c), .int 0)])) a1 (.tup [.ref m1, .int 1])) m2 (dM w m2 [])) a2 (.tup [.ref m2, .int 1])) B (.lst [.ref a1, .ref a2])) S (.lst [.int 0, .int 0])) t (.tup [.ref R, .ref B, .ref S])) := s13.trans (same_upd nt)
      have u14 : Same (upd (upd (upd (upd (upd (upd (upd (upd (upd (upd (upd (upd (upd (hid p H1) m0 (dM w m0 [])) T3 (.tup [.str (oneS c), .int 0])) T2 (.tup [.str "", .int 0])) m0 (dM w m0 [(.tup [.text (oneS c), .num 0], .ref T3, .ref T2)])) a0 (.tup [.ref m0, .int 0, .str ""])) R (.lst [.ref a0])) m1 (dM w m1 [])) m1 (dM w m1 [(.text (oneS c), .str (oneS c), .int 0)])) a1 (.tup [.ref m1, .int 1])) m2 (dM w m2 [])) a2 (.tup [.ref m2, .int 1])) B (.lst [.ref a1, .ref a2])) S (.lst [.int 0, .int 0])) (upd (upd (upd (upd (upd (upd (upd (upd (upd (upd (upd (upd (upd (upd (hid p H1) m0 (dM w m0 [])) T3 (.tup [.str (oneS c), .int 0])) T2 (.tup [.str "", .int 0])) m0 (dM w m0 [(.tup [.text (oneS c), .num 0], .ref T3, .ref T2)])) a0 (.tup [.ref m0, .int 0, .str ""])) R (.lst [.ref a0])) m1 (dM w m1 [])) m1 (dM w m1 [(.text (oneS c), .str (oneS c), .int 0)])) a1 (.tup [.ref m1, .int 1])) m2 (dM w m2 [])) a2 (.tup [.ref m2, .int 1])) B (.lst [.ref a1, .ref a2])) S (.lst [.int 0, .int 0])) t (.tup [.ref R, .ref B, .ref S])) := same_upd f14
      have o5_5 : Same (upd (upd (upd (upd (upd (hid p H1) m0 (dM w m0 [])) T3 (.tup [.str (oneS c), .int 0])) T2 (.tup [.str "", .int 0])) m0 (dM w m0 [(.tup [.text (oneS c), .num 0], .ref T3, .ref T2)])) a0 (.tup [.ref m0, .int 0, .str ""])) (upd (upd (upd (upd (upd (hid p H1) m0 (dM w m0 [])) T3 (.tup [.str (oneS c), .int 0])) T2 (.tup [.str "", .int 0])) m0 (dM w m0 [(.tup [.text (oneS c), .num 0], .ref T3, .ref T2)])) a0 (.tup [.ref m0, .int 0, .str ""])) := Same.refl _
      have o5_6 : Same (upd (upd (upd (upd (upd (hid p H1) m0 (dM w m0 [])) T3 (.tup [.str (oneS c), .int 0])) T2 (.tup [.str "", .int 0])) m0 (dM w m0 [(.tup [.text (oneS c), .num 0], .ref T3, .ref T2)])) a0 (.tup [.ref m0, .int 0, .str ""])) (upd (upd (upd (upd (upd (upd (hid p H1) m0 (dM w m0 [])) T3 (.tup [.str (oneS c), .int 0])) T2 (.tup [.str "", .int 0])) m0 (dM w m0 [(.tup [.text (oneS c), .num 0], .ref T3, .ref T2)])) a0 (.tup [.ref m0, .int 0, .str ""])) R (.lst [.ref a0])) := o5_5.trans u6
      have o5_7 : Same (upd (upd (upd (upd (upd (hid p H1) m0 (dM w m0 [])) T3 (.tup [.str (oneS c), .int 0])) T2 (.tup [.str "", .int 0])) m0 (dM w m0 [(.tup [.text (oneS c), .num 0], .ref T3, .ref T2)])) a0 (.tup [.ref m0, .int 0, .str ""])) (upd (upd (upd (upd (upd (upd (upd (hid p H1) m0 (dM w m0 [])) T3 (.tup [.str (oneS c), .int 0])) T2 (.tup [.str "", .int 0])) m0 (dM w m0 [(.tup [.text (oneS c), .num 0], .ref T3, .ref T2)])) a0 (.tup [.ref m0, .int 0, .str ""])) R (.lst [.ref a0])) m1 (dM w m1 [])) := o5_6.trans u7
      have o5_8 : Same (upd (upd (upd (upd (upd (hid p H1) m0 (dM w m0 [])) T3 (.tup [.str (oneS c), .int 0])) T2 (.tup [.str "", .int 0])) m0 (dM w m0 [(.tup [.text (oneS c), .num 0], .ref T3, .ref T2)])) a0 (.tup [.ref m0, .int 0, .str ""])) (upd (upd (upd (upd (upd (upd (upd (upd (hid p H1) m0 (dM w m0 [])) T3 (.tup [.str (oneS c), .int 0])) T2 (.tup [.str "", .int 0])) m0 (dM w m0 [(.tup [.text (oneS c), .num 0], .ref T3, .ref T2)])) a0 (.tup [.ref m0, .int 0, .str ""])) R (.lst [.ref a0])) m1 (dM w m1 [])) m1 (dM w m1 [(.text (oneS c), .str (oneS c), .int 0)])) := same_write (back_none o5_6 f7) o5_7
      have o5_9 : Same (upd (upd (upd (upd (upd (hid p H1) m0 (dM w m0 [])) T3 (.tup [.str (oneS c), .int 0])) T2 (.tup [.str "", .int 0])) m0 (dM w m0 [(.tup [.text (oneS c), .num 0], .ref T3, .ref T2)])) a0 (.tup [.ref m0, .int 0, .str ""])) (upd (upd (upd (upd (upd (upd (upd (upd (upd (hid p H1) m0 (dM w m0 [])) T3 (.tup [.str (oneS c), .int 0])) T2 (.tup [.str "", .int 0])) m0 (dM w m0 [(.tup [.text (oneS c), .num 0], .ref T3, .ref T2)])) a0 (.tup [.ref m0, .int 0, .str ""])) R (.lst [.ref a0])) m1 (dM w m1 [])) m1 (dM w m1 [(.text (oneS c), .str (oneS c), .int 0)])) a1 (.tup [.ref m1, .int 1])) := o5_8.trans u9
      have o5_10 : Same (upd (upd (upd (upd (upd (hid p H1) m0 (dM w m0 [])) T3 (.tup [.str (oneS c), .int 0])) T2 (.tup [.str "", .int 0])) m0 (dM w m0 [(.tup [.text (oneS c), .num 0], .ref T3, .ref T2)])) a0 (.tup [.ref m0, .int 0, .str ""])) (upd (upd (upd (upd (upd (upd (upd (upd (upd (upd (hid p H1) m0 (dM w m0 [])) T3 (.tup [.str (oneS c), .int 0])) T2 (.tup [.str "", .int 0])) m0 (dM w m0 [(.tup [.text (oneS c), .num 0], .ref T3, .ref T2)])) a0 (.tup [.ref m0, .int 0, .str ""])) R (.lst [.ref a0])) m1 (dM w m1 [])) m1 (dM w m1 [(.text (oneS c), .str (oneS c), .int 0)])) a1 (.tup [.ref m1, .int 1])) m2 (dM w m2 [])) := o5_9.trans u10
      have o5_11 : Same (upd (upd (upd (upd (upd (hid p H1) m0 (dM w m0 [])) T3 (.tup [.str (oneS c), .int 0])) T2 (.tup [.str "", .int 0])) m0 (dM w m0 [(.tup [.text (oneS c), .num 0], .ref T3, .ref T2)])) a0 (.tup [.ref m0, .int 0, .str ""])) (upd (upd (upd (upd (upd (upd (upd (upd (upd (upd (upd (hid p H1) m0 (dM w m0 [])) T3 (.tup [.str (oneS c), .int 0])) T2 (.tup [.str "", .int 0])) m0 (dM w m0 [(.tup [.text (oneS c), .num 0], .ref T3, .ref T2)])) a0 (.tup [.ref m0, .int 0, .str ""])) R (.lst [.ref a0])) m1 (dM w m1 [])) m1 (dM w m1 [(.text (oneS c), .str (oneS c), .int 0)])) a1 (.tup [.ref m1, .int 1])) m2 (dM w m2 [])) a2 (.tup [.ref m2, .int 1])) := o5_10.trans u11
      have o5_12 : Same (upd (upd (upd (upd (upd (hid p H1) m0 (dM w m0 [])) T3 (.tup [.str (oneS c), .int 0])) T2 (.tup [.str "", .int 0])) m0 (dM w m0 [(.tup [.text (oneS c), .num 0], .ref T3, .ref T2)])) a0 (.tup [.ref m0, .int 0, .str ""])) (upd (upd (upd (upd (upd (upd (upd (upd (upd (upd (upd (upd (hid p H1) m0 (dM w m0 [])) T3 (.tup [.str (oneS c), .int 0])) T2 (.tup [.str "", .int 0])) m0 (dM w m0 [(.tup [.text (oneS c), .num 0], .ref T3, .ref T2)])) a0 (.tup [.ref m0, .int 0, .str ""])) R (.lst [.ref a0])) m1 (dM w m1 [])) m1 (dM w m1 [(.text (oneS c), .str (oneS c), .int 0)])) a1 (.tup [.ref m1, .int 1])) m2 (dM w m2 [])) a2 (.tup [.ref m2, .int 1])) B (.lst [.ref a1, .ref a2])) := o5_11.trans u12
      have o5_13 : Same (upd (upd (upd (upd (upd (hid p H1) m0 (dM w m0 [])) T3 (.tup [.str (oneS c), .int 0])) T2 (.tup [.str "", .int 0])) m0 (dM w m0 [(.tup [.text (oneS c), .num 0], .ref T3, .ref T2)])) a0 (.tup [.ref m0, .int 0, .str ""])) (upd (upd (upd (upd (upd (upd (upd (upd (upd (upd (upd (upd (upd (hid p H1) m0 (dM w m0 [])) T3 (.tup [.str (oneS c), .int 0])) T2 (.tup [.str "", .int 0])) m0 (dM w m0 [(.tup [.text (oneS c), .num 0], .ref T3, .ref T2)])) a0 (.tup [.ref m0, .int 0, .str ""])) R (.lst [.ref a0])) m1 (dM w m1 [])) m1 (dM w m1 [(.text (oneS c), .str (oneS c), .int 0)])) a1 (.tup [.ref m1, .int 1])) m2 (dM w m2 [])) a2 (.tup [.ref m2, .int 1])) B (.lst [.ref a1, .ref a2])) S (.lst [.int 0, .int 0])) := o5_12.trans u13
      have o5_14 : Same (upd (upd (upd (upd (upd (hid p H1) m0 (dM w m0 [])) T3 (.tup [.str (oneS c), .int 0])) T2 (.tup [.str "", .int 0])) m0 (dM w m0 [(.tup [.text (oneS c), .num 0], .ref T3, .ref T2)])) a0 (.tup [.ref m0, .int 0, .str ""])) (upd (upd (upd (upd (upd (upd (upd (upd (upd (upd (upd (upd (upd (upd (hid p H1) m0 (dM w m0 [])) T3 (.tup [.str (oneS c), .int 0])) T2 (.tup [.str "", .int 0])) m0 (dM w m0 [(.tup [.text (oneS c), .num 0], .ref T3, .ref T2)])) a0 (.tup [.ref m0, .int 0, .str ""])) R (.lst [.ref a0])) m1 (dM w m1 [])) m1 (dM w m1 [(.text (oneS c), .str (oneS c), .int 0)])) a1 (.tup [.ref m1, .int 1])) m2 (dM w m2 [])) a2 (.tup [.ref m2, .int 1])) B (.lst [.ref a1, .ref a2])) S (.lst [.int 0, .int 0])) t (.tup [.ref R, .ref B, .ref S])) := o5_13.trans u14
      have o6_6 : Same (upd (upd (upd (upd (upd (upd (hid p H1) m0 (dM w m0 [])) T3 (.tup [.str (oneS c), .int 0])) T2 (.tup [.str "", .int 0])) m0 (dM w m0 [(.tup [.text (oneS c), .num 0], .ref T3, .ref T2)])) a0 (.tup [.ref m0, .int 0, .str ""])) R (.lst [.ref a0])) (upd (upd (upd (upd (upd (upd (hid p H1) m0 (dM w m0 [])) T3 (.tup [.str (oneS c), .int 0])) T2 (.tup [.str "", .int 0])) m0 (dM w m0 [(.tup [.text (oneS c), .num 0], .ref T3, .ref T2)])) a0 (.tup [.ref m0, .int 0, .str ""])) R (.lst [.ref a0])) := Same.refl _
      have o6_7 : Same (upd (upd (upd (upd (upd (upd (hid p H1) m0 (dM w m0 [])) T3 (.tup [.str (oneS c), .int 0])) T2 (.tup [.str "", .int 0])) m0 (dM w m0 [(.tup [.text (oneS c), .num 0], .ref T3, .ref T2)])) a0 (.tup [.ref m0, .int 0, .str ""])) R (.lst [.ref a0])) (upd (upd (upd (upd (upd (upd (upd (hid p H1) m0 (dM w m0 [])) T3 (.tup [.str (oneS c), .int 0])) T2 (.tup [.str "", .int 0])) m0 (dM w m0 [(.tup [.text (oneS c), .num 0], .ref T3, .ref T2)])) a0 (.tup [.ref m0, .int 0, .str ""])) R (.lst [.ref a0])) m1 (dM w m1 [])) := o6_6.trans u7
      have o6_8 : Same (upd (upd (upd (upd (upd (upd (hid p H1) m0 (dM w m0 [])) T3 (.tup [.str (oneS c), .int 0])) T2 (.tup [.str "", .int 0])) m0 (dM w m0 [(.tup [.text (oneS c), .num 0], .ref T3, .ref T2)])) a0 (.tup [.ref m0, .int 0, .str ""])) R (.lst [.ref a0])) (upd (upd (upd (upd (upd (upd (upd (upd (hid p H1) m0 (dM w m0 [])) T3 (.tup [.str (oneS c), .int 0])) T2 (.tup [.str "", .int 0])) m0 (dM w m0 [(.tup [.text (oneS c), .num 0], .ref T3, .ref T2)])) a0 (.tup [.ref m0, .int 0, .str ""])) R (.lst [.ref a0])) m1 (dM w m1 [])) m1 (dM w m1 [(.text (oneS c), .str (oneS c), .int 0)])) := same_write (back_none o6_6 f7) o6_7
      have o6_9 : Same (upd (upd (upd (upd (upd (upd (hid p H1) m0 (dM w m0 [])) T3 (.tup [.str (oneS c), .int 0])) T2 (.tup [.str "", .int 0])) m0 (dM w m0 [(.tup [.text (oneS c), .num 0], .ref T3, .ref T2)])) a0 (.tup [.ref m0, .int 0, .str ""])) R (.lst [.ref a0])) (upd (upd (upd (upd (upd (upd (upd (upd (upd (hid p H1) m0 (dM w m0 [])) T3 (.tup [.str (oneS c), .int 0])) T2 (.tup [.str "", .int 0])) m0 (dM w m0 [(.tup [.text (oneS c), .num 0], .ref T3, .ref T2)])) a0 (.tup [.ref m0, .int 0, .str ""])) R (.lst [.ref a0])) m1 (dM w m1 [])) m1 (dM w m1 [(.text (oneS c), .str (oneS c), .int 0)])) a1 (.tup [.ref m1, .int 1])) := o6_8.trans u9
      have o6_10 : Same (upd (upd (upd (upd (upd (upd (hid p H1) m0 (dM w m0 [])) T3 (.tup [.str (oneS c), .int 0])) T2 (.tup [.str "", .int 0])) m0 (dM w m0 [(.tup [.text (oneS c), .num 0], .ref T3, .ref T2)])) a0 (.tup [.ref m0, .int 0, .str ""])) R (.lst [.ref a0])) (upd (upd (upd (upd (upd (upd (upd (upd (upd (upd (hid p H1) m0 (dM w m0 [])) T3 (.tup [.str (oneS c), .int 0])) T2 (.tup [.str "", .int 0])) m0 (dM w m0 [(.tup [.text (oneS c), .num 0], .ref T3, .ref T2)])) a0 (.tup [.ref m0, .int 0, .str ""])) R (.lst [.ref a0])) m1 (dM w m1 [])) m1 (dM w m1 [(.text (oneS c), .str (oneS c), .int 0)])) a1 (.tup [.ref m1, .int 1])) m2 (dM w m2 [])) := o6_9.trans u10
      have o6_11 : Same (upd (upd (upd (upd (upd (upd (hid p H1) m0 (dM w m0 [])) T3 (.tup [.str (oneS c), .int 0])) T2 (.tup [.str "", .int 0])) m0 (dM w m0 [(.tup [.text (oneS c), .num 0], .ref T3, .ref T2)])) a0 (.tup [.ref m0, .int 0, .str ""])) R (.lst [.ref a0])) (upd (upd (upd (upd (upd (upd (upd (upd (upd (upd (upd (hid p H1) m0 (dM w m0 [])) T3 (.tup [.str (oneS c), .int 0])) T2 (.tup [.str "", .int 0])) m0 (dM w m0 [(.tup [.text (oneS c), .num 0], .ref T3, .ref T2)])) a0 (.tup [.ref m0, .int 0, .str ""])) R (.lst [.ref a0])) m1 (dM w m1 [])) m1 (dM w m1 [(.text (oneS c), .str (oneS c), .int 0)])) a1 (.tup [.ref m1, .int 1])) m2 (dM w m2 [])) a2 (.tup [.ref m2, .int 1])) := o6_10.trans u11
      have o6_12 : Same (upd (upd (upd (upd (upd (upd (hid p H1) m0 (dM w m0 [])) T3 (.tup [.str (oneS c), .int 0])) T2 (.tup [.str "", .int 0])) m0 (dM w m0 [(.tup [.text (oneS c), .num 0], .ref T3, .ref T2)])) a0 (.tup [.ref m0, .int 0, .str ""])) R (.lst [.ref a0])) (upd (upd (upd (upd (upd (upd (upd (upd (upd (upd (upd (upd (hid p H1) m0 (dM w m0 [])) T3 (.tup [.str (oneS c), .int 0])) T2 (.tup [.str "", .int 0])) m0 (dM w m0 [(.tup [.text (oneS c), .num 0], .ref T3, .ref T2)])) a0 (.tup [.ref m0, .int 0, .str ""])) R (.lst [.ref a0])) m1 (dM w m1 [])) m1 (dM w m1 [(.text (oneS c), .str (oneS c), .int 0)])) a1 (.tup [.ref m1, .int 1])) m2 (dM w m2 [])) a2 (.tup [.ref m2, .int 1])) B (.lst [.ref a1, .ref a2])) := o6_11.trans u12
      have o6_13 : Same (upd (upd (upd (upd (upd (upd (hid p H1) m0 (dM w m0 [])) T3 (.tup [.str (oneS c), .int 0])) T2 (.tup [.str "", .int 0])) m0 (dM w m0 [(.tup [.text (oneS c), .num 0], .ref T3, .ref T2)])) a0 (.tup [.ref m0, .int 0, .str ""])) R (.lst [.ref a0])) (upd (upd (upd (upd (upd (upd (upd (upd (upd (upd (upd (upd (upd (hid p H1) m0 (dM w m0 [])) T3 (.tup [.str (oneS c), .int 0])) T2 (.tup [.str "", .int 0])) m0 (dM w m0 [(.tup [.text (oneS c), .num 0], .ref T3, .ref T2)])) a0 (.tup [.ref m0, .int 0, .str ""])) R (.lst [.ref a0])) m1 (dM w m1 [])) m1 (dM w m1 [(.text (oneS c), .str (oneS c), .int 0)])) a1 (.tup [.ref m1, .int 1])) m2 (dM w m2 [])) a2 (.tup [.ref m2, .int 1])) B (.lst [.ref a1, .ref a2])) S (.lst [.int 0, .int 0])) := o6_12.trans u13
      have o6_14 : Same (upd (upd (upd (upd (upd (upd (hid p H1) m0 (dM w m0 [])) T3 (.tup [.str (oneS c), .int 0])) T2 (.tup [.str "", .int 0])) m0 (dM w m0 [(.tup [.text (oneS c), .num 0], .ref T3, .ref T2)])) a0 (.tup [.ref m0, .int 0, .str ""])) R (.lst [.ref a0])) (upd (upd (upd (upd (upd (upd (upd (upd (upd (upd (upd (upd (upd (upd (hid p H1) m0 (dM w m0 [])) T3 (.tup [.str (oneS c), .int 0])) T2 (.tup [.str "", .int 0])) m0 (dM w m0 [(.tup [.text (oneS c), .num 0], .ref T3, .ref T2)])) a0 (.tup [.ref m0, .int 0, .str ""])) R (.lst [.ref a0])) m1 (dM w m1 [])) m1 (dM w m1 [(.text (oneS c), .str (oneS c), .int 0)])) a1 (.tup [.ref m1, .int 1])) m2 (dM w m2 [])) a2 (.tup [.ref m2, .int 1])) B (.lst [.ref a1, .ref a2])) S (.lst [.int 0, .int 0])) t (.tup [.ref R, .ref B, .ref S])) := o6_13.trans u14
      have o9_9 : Same (upd (upd (upd (upd (upd (upd (upd (upd (upd (hid p H1) m0 (dM w m0 [])) T3 (.tup [.str (oneS c), .int 0])) T2 (.tup [.str "", .int 0])) m0 (dM w m0 [(.tup [.text (oneS c), .num 0], .ref T3, .ref T2)])) a0 (.tup [.ref m0, .int 0, .str ""])) R (.lst [.ref a0])) m1 (dM w m1 [])) m1 (dM w m1 [(.text (oneS c), .str (oneS c), .int 0)])) a1 (.tup [.ref m1, .int 1])) (upd (upd (upd (upd (upd (upd (upd (upd (upd (hid p H1) m0 (dM w m0 [])) T3 (.tup [.str (oneS c), .int 0])) T2 (.tup [.str "", .int 0])) m0 (dM w m0 [(.tup [.text (oneS c), .num 0], .ref T3, .ref T2)])) a0 (.tup [.ref m0, .int 0, .str ""])) R (.lst [.ref a0])) m1 (dM w m1 [])) m1 (dM w m1 [(.text (oneS c), .str (oneS c), .int 0)])) a1 (.tup [.ref m1, .int 1])) := Same.refl _
      have o9_10 : Same (upd (upd (upd (upd (upd (upd (upd (upd (upd (hid p H1) m0 (dM w m0 [])) T3 (.tup [.str (oneS c), .int 0])) T2 (.tup [.str "", .int 0])) m0 (dM w m0 [(.tup [.text (oneS c), .num 0], .ref T3, .ref T2)])) a0 (.tup [.ref m0, .int 0, .str ""])) R (.lst [.ref a0])) m1 (dM w m1 [])) m1 (dM w m1 [(.text (oneS c), .str (oneS c), .int 0)])) a1 (.tup [.ref m1, .int 1])) (upd (upd (upd (upd (upd (upd (upd (upd (upd (upd (hid p H1) m0 (dM w m0 [])) T3 (.tup [.str (oneS c), .int 0])) T2 (.tup [.str "", .int 0])) m0 (dM w m0 [(.tup [.text (oneS c), .num 0], .ref T3, .ref T2)])) a0 (.tup [.ref m0, .int 0, .str ""])) R (.lst [.ref a0])) m1 (dM w m1 [])) m1 (dM w m1 [(.text (oneS c), .str (oneS c), .int 0)])) a1 (.tup [.ref m1, .int 1])) m2 (dM w m2 [])) := o9_9.trans u10
      have o9_11 : Same (upd (upd (upd (upd (upd (upd (upd (upd (upd (hid p H1) m0 (dM w m0 [])) T3 (.tup [.str (oneS c), .int 0])) T2 (.tup [.str "", .int 0])) m0 (dM w m0 [(.tup [.text (oneS c), .num 0], .ref T3, .ref T2)])) a0 (.tup [.ref m0, .int 0, .str ""])) R (.lst [.ref a0])) m1 (dM w m1 [])) m1 (dM w m1 [(.text (oneS c), .str (oneS c), .int 0)])) a1 (.tup [.ref m1, .int 1])) (upd (upd (upd (upd (upd (upd (upd (upd (upd (upd (upd (hid p H1) m0 (dM w m0 [])) T3 (.tup [.str (oneS c), .int 0])) T2 (.tup [.str "", .int 0])) m0 (dM w m0 [(.tup [.text (oneS c), .num 0], .ref T3, .ref T2)])) a0 (.tup [.ref m0, .int 0, .str ""])) R (.lst [.ref a0])) m1 (dM w m1 [])) m1 (dM w m1 [(.text (oneS c), .str (oneS c), .int 0)])) a1 (.tup [.ref m1, .int 1])) m2 (dM w m2 [])) a2 (.tup [.ref m2, .int 1])) := o9_10.trans u11
      have o9_12 : Same (upd (upd (upd (upd (upd (upd (upd (upd (upd (hid p H1) m0 (dM w m0 [])) T3 (.tup [.str (oneS c), .int 0])) T2 (.tup [.str "", .int 0])) m0 (dM w m0 [(.tup [.text (oneS c), .num 0], .ref T3, .ref T2)])) a0 (.tup [.ref m0, .int 0, .str ""])) R (.lst [.ref a0])) m1 (dM w m1 [])) m1 (dM w m1 [(.text (oneS c), .str (oneS c), .int 0)])) a1 (.tup [.ref m1, .int 1])) (upd (upd (upd (upd (upd (upd (upd (upd (upd (upd (upd (upd (hid p H1) m0 (dM w m0 [])) T3 (.tup [.str (oneS c), .int 0])) T2 (.tup [.str "", .int 0])) m0 (dM w m0 [(.tup [.text (oneS c), .num 0], .ref T3, .ref T2)])) a0 (.tup [.ref m0, .int 0, .str ""])) R (.lst [.ref a0])) m1 (dM w m1 [])) m1 (dM w m1 [(.text (oneS c), .str (oneS c), .int 0)])) a1 (.tup [.ref m1, .int 1])) m2 (dM w m2 [])) a2 (.tup [.ref m2, .int 1])) B (.lst [.ref a1, .ref a2])) := o9_11.trans u12
      have o9_13 : Same (upd (upd (upd (upd (upd (upd (upd (upd (upd (hid p H1) m0 (dM w m0 [])) T3 (.tup [.str (oneS c), .int 0])) T2 (.tup [.str "", .int 0])) m0 (dM w m0 [(.tup [.text (oneS c), .num 0], .ref T3, .ref T2)])) a0 (.tup [.ref m0, .int 0, .str ""])) R (.lst [.ref a0])) m1 (dM w m1 [])) m1 (dM w m1 [(.text (oneS c), .str (oneS c), .int 0)])) a1 (.tup [.ref m1, .int 1])) (upd (upd (upd (upd (upd (upd (upd (upd (upd (upd (upd (upd (upd (hid p H1) m0 (dM w m0 [])) T3 (.tup [.str (oneS c), .int 0])) T2 (.tup [.str "", .int 0])) m0 (dM w m0 [(.tup [.text (oneS c), .num 0], .ref T3, .ref T2)])) a0 (.tup [.ref m0, .int 0, .str ""])) R (.lst [.ref a0])) m1 (dM w m1 [])) m1 (dM w m1 [(.text (oneS c), .str (oneS c), .int 0)])) a1 (.tup [.ref m1, .int 1])) m2 (dM w m2 [])) a2 (.tup [.ref m2, .int 1])) B (.lst [.ref a1, .ref a2])) S (.lst [.int 0, .int 0])) := o9_12.trans u13
      have o9_14 : Same (upd (upd (upd (upd (upd (upd (upd (upd (upd (hid p H1) m0 (dM w m0 [])) T3 (.tup [.str (oneS c), .int 0])) T2 (.tup [.str "", .int 0])) m0 (dM w m0 [(.tup [.text (oneS c), .num 0], .ref T3, .ref T2)])) a0 (.tup [.ref m0, .int 0, .str ""])) R (.lst [.ref a0])) m1 (dM w m1 [])) m1 (dM w m1 [(.text (oneS c), .str (oneS c), .int 0)])) a1 (.tup [.ref m1, .int 1])) (upd (upd (upd (upd (upd (upd (upd (upd (upd (upd (upd (upd (upd (upd (hid p H1) m0 (dM w m0 [])) T3 (.tup [.str (oneS c), .int 0])) T2 (.tup [.str "", .int 0])) m0 (dM w m0 [(.tup [.text (oneS c), .num 0], .ref T3, .ref T2)])) a0 (.tup [.ref m0, .int 0, .str ""])) R (.lst [.ref a0])) m1 (dM w m1 [])) m1 (dM w m1 [(.text (oneS c), .str (oneS c), .int 0)])) a1 (.tup [.ref m1, .int 1])) m2 (dM w m2 [])) a2 (.tup [.ref m2, .int 1])) B (.lst [.ref a1, .ref a2])) S (.lst [.int 0, .int 0])) t (.tup [.ref R, .ref B, .ref S])) := o9_13.trans u14
      have o11_11 : Same (upd (upd (upd (upd (upd (upd (upd (upd (upd (upd (upd (hid p H1) m0 (dM w m0 [])) T3 (.tup [.str (oneS c), .int 0])) T2 (.tup [.str "", .int 0])) m0 (dM w m0 [(.tup [.text (oneS c), .num 0], .ref T3, .ref T2)])) a0 (.tup [.ref m0, .int 0, .str ""])) R (.lst [.ref a0])) m1 (dM w m1 [])) m1 (dM w m1 [(.text (oneS c), .str (oneS c), .int 0)])) a1 (.tup [.ref m1, .int 1])) m2 (dM w m2 [])) a2 (.tup [.ref m2, .int 1])) (upd (upd (upd (upd (upd (upd (upd (upd (upd (upd (upd (hid p H1) m0 (dM w m0 [])) T3 (.tup [.str (oneS c), .int 0])) T2 (.tup [.str "", .int 0])) m0 (dM w m0 [(.tup [.text (oneS c), .num 0], .ref T3, .ref T2)])) a0 (.tup [.ref m0, .int 0, .str ""])) R (.lst [.ref a0])) m1 (dM w m1 [])) m1 (dM w m1 [(.text (oneS c), .str (oneS c), .int 0)])) a1 (.tup [.ref m1, .int 1])) m2 (dM w m2 [])) a2 (.tup [.ref m2, .int 1])) := Same.refl _
      have o11_12 : Same (upd (upd (upd (upd (upd (upd (upd (upd (upd (upd (upd (hid p H1) m0 (dM w m0 [])) T3 (.tup [.str (oneS c), .int 0])) T2 (.tup [.str "", .int 0])) m0 (dM w m0 [(.tup [.text (oneS c), .num 0], .ref T3, .ref T2)])) a0 (.tup [.ref m0, .int 0, .str ""])) R (.lst [.ref a0])) m1 (dM w m1 [])) m1 (dM w m1 [(.text (oneS c), .str (oneS c), .int 0)])) a1 (.tup [.ref m1, .int 1])) m2 (dM w m2 [])) a2 (.tup [.ref m2, .int 1])) (upd (upd (upd (upd (upd (upd (upd (upd (upd (upd (upd (upd (hid p H1) m0 (dM w m0 [])) T3 (.tup [.str (oneS c), .int 0])) T2 (.tup [.str "", .int 0])) m0 (dM w m0 [(.tup [.text (oneS c), .num 0], .ref T3, .ref T2)])) a0 (.tup [.ref m0, .int 0, .str ""])) R (.lst [.ref a0])) m1 (dM w m1 [])) m1 (dM w m1 [(.text (oneS c), .str (oneS c), .int 0)])) a1 (.tup [.ref m1, .int 1])) m2 (dM w m2 [])) a2 (.tup [.ref m2, .int 1])) B (.lst [.ref a1, .ref a2])) := o11_11.trans u12
      have o11_13 : Same (upd (upd (upd (upd (upd (upd (upd (upd (upd (upd (upd (hid p H1) m0 (dM w m0 [])) T3 (.tup [.str (oneS c), .int 0])) T2 (.tup [.str "", .int 0])) m0 (dM w m0 [(.tup [.text (oneS c), .num 0], .ref T3, .ref T2)])) a0 (.tup [.ref m0, .int 0, .str ""])) R (.lst [.ref a0])) m1 (dM w m1 [])) m1 (dM w m1 [(.text (oneS c), .str (oneS c), .int 0)])) a1 (.tup [.ref m1, .int 1])) m2 (dM w m2 [])) a2 (.tup [.ref m2, .int 1])) (upd (upd (upd (upd (upd (upd (upd (upd (upd (upd (upd (upd (upd (hid p H1) m0 (dM w m0 [])) T3 (.tup [.str (oneS c), .int 0])) T2 (.tup [.str "", .int 0])) m0 (dM w m0 [(.tup [.text (oneS c), .num 0], .ref T3, .ref T2)])) a0 (.tup [.ref m0, .int 0, .str ""])) R (.lst [.ref a0])) m1 (dM w m1 [])) m1 (dM w m1 [(.text (oneS c), .str (oneS c), .int 0)])) a1 (.tup [.ref m1, .int 1])) m2 (dM w m2 [])) a2 (.tup [.ref m2, .int 1])) B (.lst [.ref a1, .ref a2])) S (.lst [.int 0, .int 0])) := o11_12.trans u13
      have o11_14 : Same (upd (upd (upd (upd (upd (upd (upd (upd (upd (upd (upd (hid p H1) m0 (dM w m0 [])) T3 (.tup [.str (oneS c), .int 0])) T2 (.tup [.str "", .int 0])) m0 (dM w m0 [(.tup [.text (oneS c), .num 0], .ref T3, .ref T2)])) a0 (.tup [.ref m0, .int 0, .str ""])) R (.lst [.ref a0])) m1 (dM w m1 [])) m1 (dM w m1 [(.text (oneS c), .str (oneS c), .int 0)])) a1 (.tup [.ref m1, .int 1])) m2 (dM w m2 [])) a2 (.tup [.ref m2, .int 1])) (upd (upd (upd (upd (upd (upd (upd (upd (upd (upd (upd (upd (upd (upd (hid p H1) m0 (dM w m0 [])) T3 (.tup [.str (oneS c), .int 0])) T2 (.tup [.str "", .int 0])) m0 (dM w m0 [(.tup [.text (oneS c), .num 0], .ref T3, .ref T2)])) a0 (.tup [.ref m0, .int 0, .str ""])) R (.lst [.ref a0])) m1 (dM w m1 [])) m1 (dM w m1 [(.text (oneS c), .str (oneS c), .int 0)])) a1 (.tup [.ref m1, .int 1])) m2 (dM w m2 [])) a2 (.tup [.ref m2, .int 1])) B (.lst [.ref a1, .ref a2])) S (.lst [.int 0, .int 0])) t (.tup [.ref R, .ref B, .ref S])) := o11_13.trans u14
      have o12_12 : Same (upd (upd (upd (upd (upd (upd (upd (upd (upd (upd (upd (upd (hid p H1) m0 (dM w m0 [])) T3 (.tup [.str (oneS c), .int 0])) T2 (.tup [.str "", .int 0])) m0 (dM w m0 [(.tup [.text (oneS c), .num 0], .ref T3, .ref T2)])) a0 (.tup [.ref m0, .int 0, .str ""])) R (.lst [.ref a0])) m1 (dM w m1 [])) m1 (dM w m1 [(.text (oneS c), .str (oneS c), .int 0)])) a1 (.tup [.ref m1, .int 1])) m2 (dM w m2 [])) a2 (.tup [.ref m2, .int 1])) B (.lst [.ref a1, .ref a2])) (upd (upd (upd (upd (upd (upd (upd (upd (upd (upd (upd (upd (hid p H1) m0 (dM w m0 [])) T3 (.tup [.str (oneS c), .int 0])) T2 (.tup [.str "", .int 0])) m0 (dM w m0 [(.tup [.text (oneS c), .num 0], .ref T3, .ref T2)])) a0 (.tup [.ref m0, .int 0, .str ""])) R (.lst [.ref a0])) m1 (dM w m1 [])) m1 (dM w m1 [(.text (oneS c), .str (oneS c), .int 0)])) a1 (.tup [.ref m1, .int 1])) m2 (dM w m2 [])) a2 (.tup [.ref m2, .int 1])) B (.lst [.ref a1, .ref a2])) := Same.refl _
      have o12_13 : Same (upd (upd (upd (upd (upd (upd (upd (upd (upd (upd (upd (upd (hid p H1) m0 (dM w m0 [])) T3 (.tup [.str (oneS c), .int 0])) T2 (.tup [.str "", .int 0])) m0 (dM w m0 [(.tup [.text (oneS c), .num 0], .ref T3, .ref T2)])) a0 (.tup [.ref m0, .int 0, .str ""])) R (.lst [.ref a0])) m1 (dM w m1 [])) m1 (dM w m1 [(.text (oneS c), .str (oneS c), .int 0)])) a1 (.tup [.ref m1, .int 1])) m2 (dM w m2 [])) a2 (.tup [.ref m2, .int 1])) B (.lst [.ref a1, .ref a2])) (upd (upd (upd (upd (upd (upd (upd (upd (upd (upd (upd (upd (upd (hid p H1) m0 (dM w m0 [])) T3 (.tup [.str (oneS c), .int 0])) T2 (.tup [.str "", .int 0])) m0 (dM w m0 [(.tup [.text (oneS c), .num 0], .ref T3, .ref T2)])) a0 (.tup [.ref m0, .int 0, .str ""])) R (.lst [.ref a0])) m1 (dM w m1 [])) m1 (dM w m1 [(.text (oneS c), .str (oneS c), .int 0)])) a1 (.tup [.ref m1, .int 1])) m2 (dM w m2 [])) a2 (.tup [.ref m2, .int 1])) B (.lst [.ref a1, .ref a2])) S (.lst [.int 0, .int 0])) := o12_12.trans u13
      have o12_14 : Same (upd (upd (upd (upd (upd (upd (upd (upd (upd (upd (upd (upd (hid p H1) m0 (dM w m0 [])) T3 (.tup [.str (oneS c), .int 0])) T2 (.tup [.str "", .int 0])) m0 (dM w m0 [(.tup [.text (oneS c), .num 0], .ref T3, .ref T2)])) a0 (.tup [.ref m0, .int 0, .str ""])) R (.lst [.ref a0])) m1 (dM w m1 [])) m1 (dM w m1 [(.text (oneS c), .str (oneS c), .int 0)])) a1 (.tup [.ref m1, .int 1])) m2 (dM w m2 [])) a2 (.tup [.ref m2, .int 1])) B (.lst [.ref a1, .ref a2])) (upd (upd (upd (upd (upd (upd (upd (upd (upd (upd (upd (upd (upd (upd (hid p H1) m0 (dM w m0 [])) T3 (.tup [.str (oneS c), .int 0])) T2 (.tup [.str "", .int 0])) m0 (dM w m0 [(.tup [.text (oneS c), .num 0], .ref T3, .ref T2)])) a0 (.tup [.ref m0, .int 0, .str ""])) R (.lst [.ref a0])) m1 (dM w m1 [])) m1 (dM w m1 [(.text (oneS c), .str (oneS c), .int 0)])) a1 (.tup [.ref m1, .int 1])) m2 (dM w m2 [])) a2 (.tup [.ref m2, .int 1])) B (.lst [.ref a1, .ref a2])) S (.lst [.int 0, .int 0])) t (.tup [.ref R, .ref B, .ref S])) := o12_13.trans u14
      have o13_13 : Same (upd (upd (upd (upd (upd (upd (upd (upd (upd (upd (upd (upd (upd (hid p H1) m0 (dM w m0 [])) T3 (.tup [.str (oneS c), .int 0])) T2 (.tup [.str "", .int 0])) m0 (dM w m0 [(.tup [.text (oneS c), .num 0], .ref T3, .ref T2)])) a0 (.tup [.ref m0, .int 0, .str ""])) R (.lst [.ref a0])) m1 (dM w m1 [])) m1 (dM w m1 [(.text (oneS c), .str (oneS c), .int 0)])) a1 (.tup [.ref m1, .int 1])) m2 (dM w m2 [])) a2 (.tup [.ref m2, .int 1])) B (.lst [.ref a1, .ref a2])) S (.lst [.int 0, .int 0])) (upd (upd (upd (upd (upd (upd (upd (upd (upd (upd (upd (upd (upd (hid p H1) m0 (dM w m0 [])) T3 (.tup [.str (oneS c), .int 0])) T2 (.tup [.str "", .int 0])) m0 (dM w m0 [(.tup [.text (oneS c), .num 0], .ref T3, .ref T2)])) a0 (.tup [.ref m0, .int 0, .str ""])) R (.lst [.ref a0])) m1 (dM w m1 [])) m1 (dM w m1 [(.text (oneS c), .str (oneS c), .int 0)])) a1 (.tup [.ref m1, .int 1])) m2 (dM w m2 [])) a2 (.tup [.ref m2, .int 1])) B (.lst [.ref a1, .ref a2])) S (.lst [.int 0, .int 0])) := Same.refl _
      have o13_14 : Same (upd (upd (upd (upd (upd (upd (upd (upd (upd (upd (upd (upd (upd (hid p H1) m0 (dM w m0 [])) T3 (.tup [.str (oneS c), .int 0])) T2 (.tup [.str "", .int 0])) m0 (dM w m0 [(.tup [.text (oneS c), .num 0], .ref T3, .ref T2)])) a0 (.tup [.ref m0, .int 0, .str ""])) R (.lst [.ref a0])) m1 (dM w m1 [])) m1 (dM w m1 [(.text (oneS c), .str (oneS c), .int 0)])) a1 (.tup [.ref m1, .int 1])) m2 (dM w m2 [])) a2 (.tup [.ref m2, .int 1])) B (.lst [.ref a1, .ref a2])) S (.lst [.int 0, .int 0])) (upd (upd (upd (upd (upd (upd (upd (upd (upd (upd (upd (upd (upd (upd (hid p H1) m0 (dM w m0 [])) T3 (.tup [.str (oneS c), .int 0])) T2 (.tup [.str "", .int 0])) m0 (dM w m0 [(.tup [.text (oneS c), .num 0], .ref T3, .ref T2)])) a0 (.tup [.ref m0, .int 0, .str ""])) R (.lst [.ref a0])) m1 (dM w m1 [])) m1 (dM w m1 [(.text (oneS c), .str (oneS c), .int 0)])) a1 (.tup [.ref m1, .int 1])) m2 (dM w m2 [])) a2 (.tup [.ref m2, .int 1])) B (.lst [.ref a1, .ref a2])) S (.lst [.int 0, .int 0])) t (.tup [.ref R, .ref B, .ref S])) := o13_13.trans u14
      have hh : hid p (upd (upd (upd (upd (upd (upd (upd (upd (upd (upd (upd (upd (upd (upd H1 m0 (dM w m0 [])) T3 (.tup [.str (oneS c), .int 0])) T2 (.tup [.str "", .int 0])) m0 (dM w m0 [(.tup [.text (oneS c), .num 0], .ref T3, .ref T2)])) a0 (.tup [.ref m0, .int 0, .str ""])) R (.lst [.ref a0])) m1 (dM w m1 [])) m1 (dM w m1 [(.text (oneS c), .str (oneS c), .int 0)])) a1 (.tup [.ref m1, .int 1])) m2 (dM w m2 [])) a2 (.tup [.ref m2, .int 1])) B (.lst [.ref a1, .ref a2])) S (.lst [.int 0, .int 0])) t (.tup [.ref R, .ref B, .ref S])) = (upd (upd (upd (upd (upd (upd (upd (upd (upd (upd (upd (upd (upd (upd (hid p H1) m0 (dM w m0 [])) T3 (.tup [.str (oneS c), .int 0])) T2 (.tup [.str "", .int 0])) m0 (dM w m0 [(.tup [.text (oneS c), .num 0], .ref T3, .ref T2)])) a0 (.tup [.ref m0, .int 0, .str ""])) R (.lst [.ref a0])) m1 (dM w m1 [])) m1 (dM w m1 [(.text (oneS c), .str (oneS c), .int 0)])) a1 (.tup [.ref m1, .int 1])) m2 (dM w m2 [])) a2 (.tup [.ref m2, .int 1])) B (.lst [.ref a1, .ref a2])) S (.lst [.int 0, .int 0])) t (.tup [.ref R, .ref B, .ref S])) := by rw [hid_upd p14, hid_upd p13, hid_upd p12, hid_upd p11, hid_upd p10, hid_upd p9, hid_upd p7, hid_upd p7, hid_upd p6, hid_upd p5, hid_upd p1, hid_upd p3, hid_upd p2, hid_upd p1]
      have A0 : StX K w (upd (upd (upd (upd (upd (hid p H1) m0 (dM w m0 [])) T3 (.tup [.str (oneS c), .int 0])) T2 (.tup [.str "", .int 0])) m0 (dM w m0 [(.tup [.text (oneS c), .num 0], .ref T3, .ref T2)])) a0 (.tup [.ref m0, .int 0, .str ""])) 3 (.ref a0) (.good [mvRow c (.num 0) (.int 0) "" 0 T2 T3] [.int 0, .str ""] [.int 0, .str ""]) := st_at upd_same MV.1 f5 (fun _ => .cons (.int _) (.cons (.str _) .nil)) rfl (by simp; decide)
      have LK := lkRows (K := K) (H := (upd (upd (upd (upd (upd (upd (upd (upd (hid p H1) m0 (dM w m0 [])) T3 (.tup [.str (oneS c), .int 0])) T2 (.tup [.str "", .int 0])) m0 (dM w m0 [(.tup [.text (oneS c), .num 0], .ref T3, .ref T2)])) a0 (.tup [.ref m0, .int 0, .str ""])) R (.lst [.ref a0])) m1 (dM w m1 [])) m1 (dM w m1 [(.text (oneS c), .str (oneS c), .int 0)]))) (vw := 2) (ps := [(c, 0)]) (by simp) (by show 1 ≤ 100; decide) (by simpa using mc) (by simp)
      have A1 : StX K w (upd (upd (upd (upd (upd (upd (upd (upd (upd (hid p H1) m0 (dM w m0 [])) T3 (.tup [.str (oneS c), .int 0])) T2 (.tup [.str "", .int 0])) m0 (dM w m0 [(.tup [.text (oneS c), .num 0], .ref T3, .ref T2)])) a0 (.tup [.ref m0, .int 0, .str ""])) R (.lst [.ref a0])) m1 (dM w m1 [])) m1 (dM w m1 [(.text (oneS c), .str (oneS c), .int 0)])) a1 (.tup [.ref m1, .int 1])) 2 (.ref a1) (.good [lkRow (c, 0)] [.int 1] [.int 1]) := st_at upd_same LK.1 f9 (fun _ => .cons (.int _) .nil) rfl (by simp; decide)
      have A2 : StX K w (upd (upd (upd (upd (upd (upd (upd (upd (upd (upd (upd (hid p H1) m0 (dM w m0 [])) T3 (.tup [.str (oneS c), .int 0])) T2 (.tup [.str "", .int 0])) m0 (dM w m0 [(.tup [.text (oneS c), .num 0], .ref T3, .ref T2)])) a0 (.tup [.ref m0, .int 0, .str ""])) R (.lst [.ref a0])) m1 (dM w m1 [])) m1 (dM w m1 [(.text (oneS c), .str (oneS c), .int 0)])) a1 (.tup [.ref m1, .int 1])) m2 (dM w m2 [])) a2 (.tup [.ref m2, .int 1])) 2 (.ref a2) (.good [] [.int 1] [.int 1]) := st_at upd_same rowsx_nil f11 (fun _ => .cons (.int _) .nil) rfl (by simp; decide)
      refine q _ t R B S [.ref a0] [.ref a1, .ref a2] [.int 0, .int 0] _ _ [.int 0, .int 0] (k1.trans (Keep.of_same d1 s14)) ?_ (ok2 MV.2.2.2 (List.all_eq_true.mp LK.2 _ List.mem_cons_self))
      exact Eq.mpr (congrArg (fun G => WildAt K w G t R B S _ _ _ _ _ _) hh) (show WildAt K w (upd (upd (upd (upd (upd (upd (upd (upd (upd (upd (upd (upd (upd (upd (hid p H1) m0 (dM w m0 [])) T3 (.tup [.str (oneS c), .int 0])) T2 (.tup [.str "", .int 0])) m0 (dM w m0 [(.tup [.text (oneS c), .num 0], .ref T3, .ref T2)])) a0 (.tup [.ref m0, .int 0, .str ""])) R (.lst [.ref a0])) m1 (dM w m1 [])) m1 (dM w m1 [(.text (oneS c), .str (oneS c), .int 0)])) a1 (.tup [.ref m1, .int 1])) m2 (dM w m2 [])) a2 (.tup [.ref m2, .int 1])) B (.lst [.ref a1, .ref a2])) S (.lst [.int 0, .int 0])) t (.tup [.ref R, .ref B, .ref S])) t R B S _ _ _ _ _ _ from ⟨.of upd_same, .of (o6_14 _ _ upd_same), .of (o12_14 _ _ upd_same), .of (o13_14 _ _ upd_same), .cons (A0.same o5_14) .nil, .cons (A1.same o9_14) (.cons (A2.same o11_14) .nil), .cons (.int _) (.cons (.int _) .nil)⟩)
    exact ⟨_, rfl, _, rfl, p, sg, cs, rfl, d1, same_tup (hid_keep k1) hT, nd, ne, l3, mem, fun H' t R B S xs ys zs ws ls ds k2 W O => q H' t R B S xs ys zs ws ls ds (k1.trans k2) W O⟩
end
end J
end K0
end
/-! ### CP -/
section
set_option Elab.async false
set_option linter.all false
set_option maxRecDepth 100000
set_option maxHeartbeats 4000000
/-! is_text of any value, check_passed, Cleaner.views, walk, __call__, __contains__. -/
namespace K0
open PySem PySem.Spec PyProof.Rows L2
open MD (dM KeysV KeyV)
def spTextI (K : PySem.W.Frag) (C : Addr) : Sp := fun vs H Q E => spD K isTextD vs H Q E ∨ ∃ (x dx : Addr) (fs : List (Str × V)), vs = [.ref x] ∧ H x = some (.ins C dx fs) ∧ Q (.bl false) H
def passD : PyData → Bool
  | .str z => sgAll z && decide (z.length ≤ 2000)
  | _ => false
/-- an argument: data, or an instance of the class -/
def ArgA (K : PySem.W.Frag) (C : Addr) (H : Hp) (v : V) (d : PyData) : Prop := (Dv K H v d ∧ d.bulk ≤ 100000) ∨ (d = .none ∧ ∃ (x dx : Addr) (fs : List (Str × V)), v = .ref x ∧ H x = some (.ins C dx fs))
theorem ArgA.same {K : PySem.W.Frag} {C : Addr} {H H' : Hp} {v : V} {d : PyData} (h : ArgA K C H v d) (e : Same H H') : ArgA K C H' v d := by
  rcases h with ⟨h, b⟩ | ⟨hd, x, dx, fs, h1, h2⟩
  · exact .inl ⟨h.same' e, b⟩
  · exact .inr ⟨hd, x, dx, fs, h1, e _ _ h2⟩
theorem ArgA.text {K : PySem.W.Frag} {C : Addr} {H : Hp} {v : V} {d : PyData} {Q : VK} {E : XK} (h : ArgA K C H v d) (q : ∀ H', Same H H' → Q (.bl (isTextD d)) H') : spTextI K C [v] H Q E := by
  rcases h with ⟨h, b⟩ | ⟨rfl, x, dx, fs, rfl, h2⟩
  · exact .inl ⟨v, d, rfl, h, b, q⟩
  · exact .inr ⟨x, dx, fs, rfl, h2, q H (Same.refl H)⟩
theorem ArgA.str {K : PySem.W.Frag} {C : Addr} {H : Hp} {v : V} {d : PyData} (h : ArgA K C H v d) (t : isTextD d = true) : ∃ z, v = .str z ∧ d = .str z ∧ sgAll z = true ∧ z.length ≤ 100000 := by
  rcases h with ⟨h, b⟩ | ⟨rfl, _⟩
  · cases h with
    | str z => exact ⟨z, rfl, rfl, t, b⟩
    | _ => cases t
  · cases t
def spCheck (K : PySem.W.Frag) (C CT : Addr) : Sp := fun vs H Q E => ∃ (v : V) (d : PyData), vs = [v] ∧ ArgA K C H v d ∧ (passD d = true → ∀ H', Same H H' → Q .non H') ∧ (passD d = false → ∀ H', Same H H' → E (.ref CT) none H')
theorem scCheck : FnScope ["value"] ["value"] (defScope (top iCheckP)) := ⟨rfl, rfl, rfl, by decide +kernel, rfl, by decide +kernel, by decide +kernel⟩
section
variable {P : Program} {w : World} {K : PySem.W.Frag} {mg : Str → Option Value} {base : Heap} {f fT C CT : Addr} {fd fdT : FuncData}
theorem ok_textI {k : Nat} (F : FnP K "is_text" iIsText f fd) (misi : mg "isinstance" = none) (mstr : mg "str" = none) (ms : ∃ t, mg "SIGNS" = some (.str allSigns t)) (T : ClK K C) (M : ClM K C) (hk : PySem.W.kitOne K (.ref C) (.type "str") = some false) : FnOk P w K mg base CX0 (k + 1) f fd ["value"] (spTextI K C) := by
  refine F.ok scText (fun vs H Q E h => ?_) (fun cdv A outer s H vs Q E hr h => ?_)
  · rcases h with ⟨v, d, rfl, _⟩ | ⟨x, dx, fs, rfl, _⟩ <;> rfl
  · obtain ⟨t, ms⟩ := ms
    refine ⟨_, PSs.nox (pss_one (ps_ret (pe_and (pe_callB call_isi (by rfl) misi boot_isinstance (pa_cons (pv 0) (pa_cons (pe_bltn (v := .ty "str") (by rfl) mstr (by decide +kernel) rfl) pa_nil)))
      (pe_one (pe_cmpR op_eq (pe_bm PySem.F.plainAttrs_str PySem.F.slot_str_strip PySem.F.type_str_strip mt_stripChars (pv 0) (pa_cons (pe_glob (v := .str allSigns) (by rfl) ms ⟨t, rfl⟩) pa_nil)) pe_str (nomark _)))))), ?_⟩
    rcases h with ⟨v, d, rfl, hd, sz, q⟩ | ⟨x, dx, fs, rfl, hx, q⟩
    · refine ⟨_, rfl, v, _, _, _, _, rfl, .ty _, hd.ty, kit_str d, _, rfl, ite2 (fun e => ?_) (fun e => ?_)⟩
      · obtain ⟨z, rfl, rfl⟩ := is_str hd e
        refine ⟨_, rfl, rfl, z, allSigns, rfl, rfl, Nat.le_of_lt (small5 sz), rfl, ?_⟩
        have y : isTextD (.str z) = decide (V.str (Txt.stripChars z allSigns) = V.str ("" : Str)) := by
          have x := (strip_len z allSigns)
          by_cases u : (Txt.stripChars z allSigns).length = 0
          · rw [decide_eq_true (by rw [str_nil.mpr u])]
            exact x.mp u
          · rw [decide_eq_false (fun w => u (by injection w with w; exact str_nil.mp w))]
            exact Bool.eq_false_iff.mpr fun w => u (x.mpr w)
        have q2 := q H (Same.refl H)
        rw [y] at q2
        exact q2
      · have q2 := q H (Same.refl H)
        rw [(not_str e).1] at q2
        exact q2
    · exact ⟨_, rfl, _, _, _, _, _, rfl, .ty _, .base (.ins hx T.cl M.ca M.cg M.ct M.ob), hk, _, rfl, ite2 (fun e => by cases e) (fun _ => q)⟩
theorem ok_check {k : Nat} (F : FnP K "check_passed" iCheckP f fd) (TE : ExcK K CT) (gE : mg "InvalidText" = some (.ref CT)) (mlen : mg "len" = none) (mp : ∃ t, mg "MAX_PASSED" = some (.int 2000 t))
    (FT : FnOk P w K mg base CX0 (k + 1) fT fdT ["value"] (spTextI K C)) (gT : mg "is_text" = some (.ref fT)) (kT : PySem.W.keepIn K (.ref fT) = true) (bT : Binds K fdT ["value"] []) :
    FnOk P w K mg base (L2.CX P w) (k + 2) f fd ["value"] (spCheck K C CT) := by
  refine F.ok scCheck (fun vs H Q E h => ?_) (fun cdv A outer s H vs Q E hr h => ?_)
  · obtain ⟨v, d, rfl, _⟩ := h
    rfl
  · obtain ⟨v, d, rfl, hA, good, bad⟩ := h
    obtain ⟨tp, mp⟩ := mp
    refine ⟨_, pss_one (ps_if (PW.pt (pw_or (pt_not (pt_val (pe_call FT hr (by rfl) gT kT bT .nil pass0 (pa_cons (pv 0) pa_nil)))) (pw_or1 (pt_cmpR op_gt (pe_callB call_len_str (by rfl) mlen PySem.boot_len (pa_cons (pv 0) pa_nil)) (pe_glob (v := .int 2000) (by rfl) mp ⟨tp, rfl⟩) (nomark _)))))
      (pss_one (ps_raise rfl (takes_of rfl rfl rfl rfl) (pmk_ownA PySem.F.excBase_ValueError TE.exc gE TE.kp (raises_own TE.sub TE.ty) (by rfl) (pa_cons pe_str pa_nil)))) pss_nil), ?_⟩
    refine ⟨_, rfl, hA.text fun H1 s1 => ⟨_, rfl, ite2 (fun e => ?_) (fun e => ?_)⟩⟩
    · have e : isTextD d = false := nF e
      have p : passD d = false := by
        cases d <;> first | rfl | skip
        have e : sgAll _ = false := e
        show (sgAll _ && _) = false
        rw [e]
        rfl
      exact ⟨by show 1 ≤ sizeLine; decide, bad p H1 s1⟩
    · have e : isTextD d = true := nT e
      obtain ⟨z, rfl, rfl, sg, zl⟩ := hA.str e
      refine ⟨_, rfl, z, rfl, Nat.le_of_lt (small5 zl), _, _, rfl, rfl, _, rfl, ite2 (fun e2 => ?_) (fun e2 => ?_)⟩
      · have e2 : (2000 : Int) < z.length := of_decide_eq_true e2
        refine ⟨by show 1 ≤ sizeLine; decide, bad ?_ H1 s1⟩
        show (sgAll z && decide (z.length ≤ 2000)) = false
        rw [sg, decide_eq_false (by omega)]
        rfl
      · have e2 : ¬ (2000 : Int) < z.length := fun z => e2 (decide_eq_true z)
        refine good ?_ H1 s1
        show (sgAll z && decide (z.length ≤ 2000)) = true
        rw [sg, decide_eq_true (by omega)]
        rfl
end
end K0
end
/-! ### CW -/
section
set_option Elab.async false
set_option linter.all false
set_option maxRecDepth 100000
set_option maxHeartbeats 4000000
/-! Cleaner.views, walk, __call__, __contains__. -/
namespace K0
open PySem PySem.Spec PyProof.Rows L2
open MD (dM KeysV KeyV)
theorem pass_str {K : PySem.W.Frag} {C : Addr} {H : Hp} {v : V} {d : PyData} (h : ArgA K C H v d) (p : passD d = true) : ∃ z, v = .str z ∧ d = .str z ∧ sgAll z = true ∧ z.length ≤ 2000 := by
  have t : isTextD d = true := by
    cases d with
    | str z => exact (Bool.and_eq_true_iff.mp p).1
    | _ => cases p
  obtain ⟨z, rfl, rfl, sg, _⟩ := h.str t
  exact ⟨z, rfl, rfl, sg, of_decide_eq_true (Bool.and_eq_true_iff.mp p).2⟩
/-- a method's promise: what a good text gives, and that all others raise -/
def spMeth (K : PySem.W.Frag) (w : World) (C CT : Addr) (R : List StD → List StD → List PyData → List Nat → V → Hp → Prop) : Sp := fun vs H Q E => ∃ (x : Addr) (v : V) (d : PyData) (ws ls : List StD) (ds : List PyData) (zs : List V), vs = [.ref x, v] ∧ ClR K w C H x ws ls ds zs ∧ ArgA K C H v d ∧
  (∀ z, d = .str z → passD d = true → ∀ H' r, Same H H' → R ws ls ds z.cps.toList r H' → Q r H') ∧ (passD d = false → ∀ H', Same H H' → E (.ref CT) none H')
def rViews (K : PySem.W.Frag) : List StD → List StD → List PyData → List Nat → V → Hp → Prop := fun _ ls _ cs r H => ∃ T, r = .ref T ∧ SqT K H T ((viewsL ls cs).map V.int)
def rWalk (K : PySem.W.Frag) : List StD → List StD → List PyData → List Nat → V → Hp → Prop := fun ws ls ds cs r H => ∃ T vs, r = .ref T ∧ SqT K H T vs ∧ DvAll K H vs (walkD ws ls ds cs)
def rRes : List StD → List StD → List PyData → List Nat → V → Hp → Prop := fun ws ls ds cs r _ => r = resV (resD ws ls ds cs)
def spHas (K : PySem.W.Frag) (w : World) (C : Addr) : Sp := fun vs H Q E => ∃ (x : Addr) (v : V) (d : PyData) (ws ls : List StD) (ds : List PyData) (zs : List V), vs = [.ref x, v] ∧ ClR K w C H x ws ls ds zs ∧ ArgA K C H v d ∧
  (∀ z, d = .str z → z.length ≤ 5000) ∧ (∀ z, d = .str z → isTextD d = true → ∀ H', Same H H' → Q (.bl (resD ws ls ds z.cps.toList).isSome) H') ∧ (isTextD d = false → ∀ H', Same H H' → Q (.bl false) H')
theorem scCViews : FnScope ["self", "text"] ["self", "text"] (defScope (crow 5)) := ⟨rfl, rfl, rfl, by decide +kernel, rfl, by decide +kernel, by decide +kernel⟩
theorem scCWalk : FnScope ["self", "text"] ["self", "text"] (defScope (crow 6)) := ⟨rfl, rfl, rfl, by decide +kernel, rfl, by decide +kernel, by decide +kernel⟩
theorem scCCall : FnScope ["self", "text"] ["self", "text"] (defScope (crow 8)) := ⟨rfl, rfl, rfl, by decide +kernel, rfl, by decide +kernel, by decide +kernel⟩
theorem scCHas : FnScope ["self", "value"] ["self", "value"] (defScope (crow 9)) := ⟨rfl, rfl, rfl, by decide +kernel, rfl, by decide +kernel, by decide +kernel⟩
section
variable {P : Program} {w : World} {K : PySem.W.Frag} {mg : Str → Option Value} {base : Heap} {f fC fV fT C CT : Addr} {fd fdC fdV fdT : FuncData}
theorem ok_cviews {k : Nat} (F : CrP K "views" "Cleaner.views" 5 f fd) (mtup : mg "tuple" = none)
    (FC : FnOk P w K mg base (L2.CX P w) (k + 2) fC fdC ["value"] (spCheck K C CT)) (gC : mg "check_passed" = some (.ref fC)) (kC : PySem.W.keepIn K (.ref fC) = true) (bC : Binds K fdC ["value"] [])
    (FV : FnOk P w K mg base CX0 (k + 2) fV fdV ["cleaner", "text"] (spViews K w C)) (gV : mg "views_at" = some (.ref fV)) (kV : PySem.W.keepIn K (.ref fV) = true) (bV : Binds K fdV ["cleaner", "text"] []) :
    FnOk P w K mg base (L2.CX P w) (k + 3) f fd ["self", "text"] (spMeth K w C CT (rViews K)) := by
  refine F.ok scCViews (fun vs H Q E h => ?_) (fun cdv A outer s H vs Q E hr h => ?_)
  · obtain ⟨x, v, d, ws, ls, ds, zs, rfl, _⟩ := h
    rfl
  · obtain ⟨x, v, d, ws, ls, ds, zs, rfl, R, hA, good, bad⟩ := h
    refine ⟨_, pss_cons (ps_expr (pe_call FC hr (by rfl) gC kC bC .nil (passes_call (takes_of rfl rfl rfl rfl) fun _ _ _ _ z => z) (pa_cons (pv 1) pa_nil)))
      (pss_one (ps_ret (pe_callTy call_tuple_of (by rfl) mtup (by decide +kernel) (pa_cons (pe_call FV hr (by rfl) gV kV bV .nil pass0 (pa_cons (pv 0) (pa_cons (pv 1) pa_nil))) pa_nil)))), ?_⟩
    refine ⟨_, rfl, v, d, rfl, hA, fun p H1 s1 => ?_, fun p H1 s1 => bad p H1 s1⟩
    obtain ⟨z, rfl, rfl, sg, zl⟩ := pass_str hA p
    refine ⟨_, rfl, _, rfl, x, z, ws, ls, ds, zs, rfl, R.same s1, by omega, fun H2 l s2 hl => ?_⟩
    exact ⟨l, _, rfl, .inl ⟨.of hl, fun t nt => good z rfl p _ _ (s1.trans (s2.trans (same_upd nt))) ⟨t, rfl, .of upd_same⟩⟩⟩
theorem ok_cwalk {k : Nat} (F : CrP K "walk" "Cleaner.walk" 6 f fd) (mtup : mg "tuple" = none)
    (FC : FnOk P w K mg base (L2.CX P w) (k + 2) fC fdC ["value"] (spCheck K C CT)) (gC : mg "check_passed" = some (.ref fC)) (kC : PySem.W.keepIn K (.ref fC) = true) (bC : Binds K fdC ["value"] [])
    (FV : FnOk P w K mg base CX0 (k + 2) fV fdV ["cleaner", "text"] (spStates K w C)) (gV : mg "states_along" = some (.ref fV)) (kV : PySem.W.keepIn K (.ref fV) = true) (bV : Binds K fdV ["cleaner", "text"] []) :
    FnOk P w K mg base (L2.CX P w) (k + 3) f fd ["self", "text"] (spMeth K w C CT (rWalk K)) := by
  refine F.ok scCWalk (fun vs H Q E h => ?_) (fun cdv A outer s H vs Q E hr h => ?_)
  · obtain ⟨x, v, d, ws, ls, ds, zs, rfl, _⟩ := h
    rfl
  · obtain ⟨x, v, d, ws, ls, ds, zs, rfl, R, hA, good, bad⟩ := h
    refine ⟨_, pss_cons (ps_expr (pe_call FC hr (by rfl) gC kC bC .nil (passes_call (takes_of rfl rfl rfl rfl) fun _ _ _ _ z => z) (pa_cons (pv 1) pa_nil)))
      (pss_one (ps_ret (pe_callTy call_tuple_of (by rfl) mtup (by decide +kernel) (pa_cons (pe_call FV hr (by rfl) gV kV bV .nil pass0 (pa_cons (pv 0) (pa_cons (pv 1) pa_nil))) pa_nil)))), ?_⟩
    refine ⟨_, rfl, v, d, rfl, hA, fun p H1 s1 => ?_, fun p H1 s1 => bad p H1 s1⟩
    obtain ⟨z, rfl, rfl, sg, zl⟩ := pass_str hA p
    refine ⟨_, rfl, _, rfl, x, z, ws, ls, ds, zs, rfl, R.same s1, by omega, sg, fun H2 l vs s2 hl dv => ?_⟩
    exact ⟨l, _, rfl, .inl ⟨.of hl, fun t nt => good z rfl p _ _ (s1.trans (s2.trans (same_upd nt))) ⟨t, vs, rfl, .of upd_same, DvAll.same (same_upd nt) _ _ dv⟩⟩⟩
theorem ok_ccall {k : Nat} (F : CrP K "__call__" "Cleaner.__call__" 8 f fd)
    (FC : FnOk P w K mg base (L2.CX P w) (k + 2) fC fdC ["value"] (spCheck K C CT)) (gC : mg "check_passed" = some (.ref fC)) (kC : PySem.W.keepIn K (.ref fC) = true) (bC : Binds K fdC ["value"] [])
    (FV : FnOk P w K mg base CX0 (k + 2) fV fdV ["cleaner", "text"] (spRes K w C)) (gV : mg "result_of" = some (.ref fV)) (kV : PySem.W.keepIn K (.ref fV) = true) (bV : Binds K fdV ["cleaner", "text"] []) :
    FnOk P w K mg base (L2.CX P w) (k + 3) f fd ["self", "text"] (spMeth K w C CT rRes) := by
  refine F.ok scCCall (fun vs H Q E h => ?_) (fun cdv A outer s H vs Q E hr h => ?_)
  · obtain ⟨x, v, d, ws, ls, ds, zs, rfl, _⟩ := h
    rfl
  · obtain ⟨x, v, d, ws, ls, ds, zs, rfl, R, hA, good, bad⟩ := h
    refine ⟨_, pss_cons (ps_expr (pe_call FC hr (by rfl) gC kC bC .nil (passes_call (takes_of rfl rfl rfl rfl) fun _ _ _ _ z => z) (pa_cons (pv 1) pa_nil)))
      (pss_one (ps_ret (pe_call FV hr (by rfl) gV kV bV .nil pass0 (pa_cons (pv 0) (pa_cons (pv 1) pa_nil))))), ?_⟩
    refine ⟨_, rfl, v, d, rfl, hA, fun p H1 s1 => ?_, fun p H1 s1 => bad p H1 s1⟩
    obtain ⟨z, rfl, rfl, sg, zl⟩ := pass_str hA p
    exact ⟨_, rfl, _, rfl, x, z, ws, ls, ds, zs, rfl, R.same s1, by omega, sg, fun H2 s2 => good z rfl p _ _ (s1.trans s2) rfl⟩
theorem res_some {K : PySem.W.Frag} {w : World} {H : Hp} {Tw Tl : List Addr} {ws ls : List StD} {ds : List PyData} {zs : List V} (PA : PartsAt K w H Tw Tl ws ls ds zs) (cs : List Nat) :
    ∃ v, atI zs (hd0 (viewsL ls cs)) = some v ∧ (!decide (v = V.non)) = (resD ws ls ds cs).isSome := by
  obtain ⟨v, e, h⟩ := first_at PA cs
  refine ⟨v, e, ?_⟩
  unfold resD
  rcases h with ⟨rfl, e2⟩ | ⟨q, rfl, e2, _⟩
  · rw [e2]
    rfl
  · rw [e2]
    rfl
theorem ok_chas {k : Nat} (F : CrP K "__contains__" "Cleaner.__contains__" 9 f fd) (T : ClK K C)
    (FT : FnOk P w K mg base CX0 (k + 2) fT fdT ["value"] (spTextI K C)) (gT : mg "is_text" = some (.ref fT)) (kT : PySem.W.keepIn K (.ref fT) = true) (bT : Binds K fdT ["value"] [])
    (FV : FnOk P w K mg base CX0 (k + 2) fV fdV ["cleaner", "text"] (spViews K w C)) (gV : mg "views_at" = some (.ref fV)) (kV : PySem.W.keepIn K (.ref fV) = true) (bV : Binds K fdV ["cleaner", "text"] []) :
    FnOk P w K mg base CX0 (k + 3) f fd ["self", "value"] (spHas K w C) := by
  refine F.ok scCHas (fun vs H Q E h => ?_) (fun cdv A outer s H vs Q E hr h => ?_)
  · obtain ⟨x, v, d, ws, ls, ds, zs, rfl, _⟩ := h
    rfl
  · obtain ⟨x, v, d, ws, ls, ds, zs, rfl, R, hA, sz, good, bad⟩ := h
    refine ⟨_, PSs.nox (pss_one (ps_ret (pe_and (pe_call FT hr (by rfl) gT kT bT .nil pass0 (pa_cons (pv 1) pa_nil))
      (pe_one (pe_cmp (pc_notN (pe_ix ix_tup (pe_fld (pv 0) rfl) (pe_ix ix_list (pe_call FV hr (by rfl) gV kV bV .nil pass0 (pa_cons (pv 0) (pa_cons (pv 1) pa_nil))) pe_int (fun _ _ => rfl)) (fun _ _ => rfl))) rfl))))), ?_⟩
    refine ⟨_, rfl, hA.text fun H1 s1 => ⟨_, rfl, ite2 (fun e => ?_) (fun e => ?_)⟩⟩
    · have e : isTextD d = true := e
      obtain ⟨z, rfl, rfl, sg, _⟩ := hA.str e
      obtain ⟨dx, tw, tl, to, f1, Tw, Tl, hx, hTw, hTl, hf, PA⟩ := (R.same s1).at_
      refine ⟨_, rfl, x, C, dx, _, _, rfl, hx, T.cl, T.nf, rfl, _, rfl, _, rfl, x, z, ws, ls, ds, zs, rfl, R.same s1, sz z rfl, fun H2 l s2 hl => ?_⟩
      obtain ⟨v0, ix0, hv0⟩ := res_some PA z.cps.toList
      have ixl : atI ((viewsL ls z.cps.toList).map V.int) 0 = some (.int (hd0 (viewsL ls z.cps.toList))) := by
        have e : atI ((viewsL ls z.cps.toList).map V.int) ((0 : Nat) : Int) = some (.int (hd0 (viewsL ls z.cps.toList))) := atI_nat (by
          cases e : viewsL ls z.cps.toList with
          | nil => exact absurd e (viewsL_ne ls _)
          | cons a b => rfl)
        exact e
      refine ⟨l, _, 0, _, rfl, rfl, .of hl, ixl, f1, _, _, v0, rfl, rfl, same_tup s2 hf, ix0, ?_⟩
      show Q (.bl (!decide (v0 = V.non))) H2
      rw [hv0]
      exact good z rfl e H2 (s1.trans s2)
    · have e : isTextD d = false := Bool.eq_false_iff.mpr e
      exact bad e H1 s1
end
end K0
end
/-! ### E0 -/
section
set_option Elab.async false
set_option linter.all false
set_option maxRecDepth 100000
set_option maxHeartbeats 4000000
/-! except (A, B, ..): how a tuple of any length is matched. -/
namespace K0
open PySem PySem.Spec PyProof.Rows PySem.W
section
variable {M : Model} {A : Around} {E : Value → Shared → Prop} {s : Shared}
theorem loopY {β : Type} {f : Value → β → Sem (ForInStep β)} {b : β} {Q : β → Shared → Prop} : ∀ (cs : List Value), (∀ c ∈ cs, ∀ Q' : ForInStep β → Shared → Prop, Q' (.yield b) s → wpAny M A (f c b) Q' E s) → Q b s → wpAny M A (forIn cs b f) Q E s
  | [], _, q => by
    rw [List.forIn_nil]
    exact wpAny_pure q
  | c :: cs, h, q => by
    rw [List.forIn_cons]
    exact wpAny_bind (h c List.mem_cons_self _ (loopY cs (fun d hd => h d (List.mem_cons_of_mem _ hd)) q))
theorem loopR {β : Type} {f : Value → β → Sem (ForInStep β)} {b dv : β} {Q : β → Shared → Prop} : ∀ (cs : List Value) (bs : List Bool), Paired (fun c i => ∀ Q' : ForInStep β → Shared → Prop, Q' (if i = true then .done dv else .yield b) s → wpAny M A (f c b) Q' E s) cs bs →
    Q (if bs.any id = true then dv else b) s → wpAny M A (forIn cs b f) Q E s
  | [], _, h, q => by
    cases h
    rw [List.forIn_nil]
    exact wpAny_pure q
  | c :: cs, i :: bs, .cons h t, q => by
    rw [List.forIn_cons]
    refine wpAny_bind (h _ ?_)
    cases i with
    | true =>
      rw [if_pos rfl]
      exact wpAny_pure (by simpa using q)
    | false =>
      rw [if_neg Bool.false_ne_true]
      exact loopR cs bs t (by simpa using q)
end
def anyB : List (Option Bool) → Option Bool
  | [] => some false
  | some b :: r => (anyB r).map (b || ·)
  | none :: _ => none
theorem exmAny_bs {K : Frag} {cls : Value} : ∀ {cs : List Value} {b : Bool}, exmAny K cls cs = some b → ∃ bs : List Bool, Paired (fun c i => exmOne K cls c = some i) cs bs ∧ bs.any id = b
  | [], b, h => ⟨[], .nil, by cases h; rfl⟩
  | c :: cs, b, h => by
    obtain ⟨b1, d1, h1, h2, rfl⟩ := exmAny_cons h
    obtain ⟨bs, p, q⟩ := exmAny_bs h2
    exact ⟨b1 :: bs, .cons h1 p, by rw [List.any_cons, q]; rfl⟩
theorem paired_mem {α β : Type} {F : α → β → Prop} : ∀ {l : List α} {m : List β}, Paired F l m → ∀ x ∈ l, ∃ y, F x y
  | _, _, .nil, _, h => nomatch h
  | _, _, .cons r t, x, h => by
    rcases List.mem_cons.mp h with rfl | h
    · exact ⟨_, r⟩
    · exact paired_mem t x h
theorem paired_map {α β : Type} {F G : α → β → Prop} : ∀ {l : List α} {m : List β}, Paired F l m → (∀ a b, F a b → G a b) → Paired G l m
  | _, _, .nil, _ => .nil
  | _, _, .cons r t, f => .cons (f _ _ r) (paired_map t f)
theorem exm_any {M : Model} {K : Frag} {cs : List Value} {cls : Value} {tp e : Addr} {b : Bool} {h : Heap} (X : K.In h) (LT : Looks M h (typeOf (.ref e)) cls) (hp : h.get? tp = some { cls := .type "tuple", data := .seq cs.toArray }) (hx : exmAny K cls cs = some b) :
    Looks M h (excMatches (.ref e) (.ref tp)) b := by
  intro A Q E s k₀ q
  obtain ⟨hh, g, d, tk, os⟩ := s
  have k : ∀ b o, h.get? b = some o → hh.get? b = some o := k₀
  have LT0 : Looks M h (isInstance (.ref tp) (.type "tuple")) true := ((Looks.ld hp).andThen .now).andThen (Looks.of_pure isSubtype_tuple_tuple)
  obtain ⟨bs, pr, eb⟩ := exmAny_bs hx
  have hp' := k _ _ hp
  unfold excMatches
  refine wpAny_bind ((LT0.keeps k).at ?_)
  dsimp only
  rw [if_pos rfl]
  first
    | refine wpAny_bind (wpAny_seqItems hp' rfl ?_)
    | refine wpAny_bind (wpAny_bind (wpAny_seqItems hp' rfl (wpAny_pure ?_)))
  dsimp only [Option.getD_some, Option.getD]
  refine wpAny_bind (wpAny_pure ?_)
  refine wpAny_bind (loopY _ (fun c hc Q' q' => ?_) ?_)
  · obtain ⟨i, hi⟩ := paired_mem pr c hc
    obtain ⟨e1, _⟩ := exm_cls (M := M) X hi
    refine wpAny_bind ((e1.keeps k).at ?_)
    simp only [Bool.not_true, Bool.false_eq_true, if_false]
    exact wpAny_pure q'
  · refine wpAny_bind ((LT.keeps k).at ?_)
    refine wpAny_bind (loopR (dv := (some true, ())) cs bs (paired_map pr fun c i hi Q' q' => ?_) ?_)
    · obtain ⟨_, e2⟩ := exm_cls (M := M) X hi
      refine wpAny_bind ((e2.keeps k).at ?_)
      cases i with
      | true => simp only [if_true] at q' ⊢; exact wpAny_pure q'
      | false => simp only [Bool.false_eq_true, if_false] at q' ⊢; exact wpAny_pure q'
    · rw [eb]
      cases b with
      | true => simp only [if_true]; exact wpAny_pure q
      | false => simp only [Bool.false_eq_true, if_false]; exact wpAny_pure q
end K0
end
/-! ### E1 -/
section
set_option Elab.async false
set_option linter.all false
set_option maxRecDepth 100000
set_option maxHeartbeats 4000000
/-! try with several clauses; a clause names a class or a tuple of classes, and may name the exception. -/
namespace K0
open PySem PySem.Spec PyProof.Rows L2
theorem flying_push {B h : Heap} {l : List Env} {a : Addr} {Z : Obj → Prop} {o : Obj} (x : HandSPX.FlyingZ B l a Z h) : HandSPX.FlyingZ B l a Z (h.push o) := by
  have k : ∀ b u, h.get? b = some u → (h.push o).get? b = some u := fun b u e => Heap.get?_push_of_some _ e
  obtain ⟨x1, x2, x3, oe, vs, T, oT, ts, y1, y2, y3, y4, y5, y6, y7, y8, y9⟩ := x
  exact ⟨fun b u e => k b u (x1 b u e), x2, Heap.FunFrames.of_keeps (fun b u e _ => ⟨u, k b u e, rfl⟩) x3, oe, vs, T, oT, ts, k _ _ y1, y2, y3, y4, y5, y6, k _ _ y7, y8, y9⟩
inductive NamesAll (X : Cx) : List Expr → List Value → Prop
  | nil : NamesAll X [] []
  | cons {x : Str} {np : Pos} {c : Value} {es : List Expr} {cs : List Value} : Names X x c → NamesAll X es cs → NamesAll X (.Name x np :: es) (c :: cs)
/-- the test of a clause -/
inductive Cls (X : Cx) : Expr → List Value → Prop
  | one {x : Str} {np : Pos} {c : Value} : Names X x c → Cls X (.Name x np) [c]
  | tup {es : List Expr} {cs : List Value} {k : Nat} {pos : Pos} : NamesAll X es cs → cs.length ≤ 1000 → Cls X (.Tuple es k pos) cs
structure HC where
  cs : List Value
  slot : Option Nat
  ts : Addr → Value → Option Addr → TS
def endsW (D : Ends) : Option Nat → Ends
  | none => D
  | some i => { nx := fun σ' H' => D.nx (σ'.set i none) H', rt := D.rt, bk := fun σ' H' => D.bk (σ'.set i none) H', ct := fun σ' H' => D.ct (σ'.set i none) H' }
def slotW (σ : L2.St) (a : Addr) : Option Nat → L2.St
  | none => σ
  | some i => σ.set i (some (.ref a))
def wAny (K : PySem.W.Frag) (Wout : WX) (D : Ends) : List HC → WX
  | [] => Wout
  | c :: r => fun cls d σ H => ∃ b, PySem.W.exmAny K cls c.cs = some b ∧ (b = true → ∀ a, H a = none → c.ts a cls d (endsW D c.slot) (slotW σ a c.slot) H) ∧ (b = false → wAny K Wout D r cls d σ H)
inductive Hds (X : Cx) : List ExceptHandler → List HC → Prop
  | nil : Hds X [] []
  | cons {t : Expr} {cs : List Value} {nm : Option Str} {sl : Option Nat} {ts : Addr → Value → Option Addr → TS} {b₀ : Stmt} {suite : List Stmt} {pos' : Pos} {hds : List ExceptHandler} {l : List HC} (ht : Cls X t cs)
      (hn : (nm = none ∧ sl = none) ∨ ∃ n i, nm = some n ∧ sl = some i ∧ X.N[i]? = some n ∧ X.env.kindOf n = some .local)
      (hs : ∀ (a : Addr) (oe : Obj) (cls : Value) (d : Option Addr) (pn : List (Addr × Obj)), Zc cls d oe → (∃ vs, oe.data = .fields vs) → PSs (X.suite a ((a, oe) :: pn)) (b₀ :: suite) (ts a cls d)) (r : Hds X hds l) :
      Hds X (.ExceptHandler (some t) nm (b₀ :: suite) pos' :: hds) (⟨cs, sl, ts⟩ :: l)
section
variable {X : Cx}
theorem names_run {pins : List (Addr × Obj)} {σ : L2.St} {H : Hp} {s : Shared} (I : Inv X pins σ H s) {pos : Pos} {E : Value → Shared → Prop} : ∀ {es : List Expr} {cs : List Value} {Q : List Value → Shared → Prop}, NamesAll X es cs → Q cs s → wpAny (model X.prog X.w) X.A (spliced (backTo pos (starEach es X.env))) Q E s
  | _, _, _, .nil, q => Calls.spliced_nil q
  | _, _, _, .cons (x := x) (np := np) (es := es) nm r, q => by
    show wpAny _ _ (spliced ((false, eval (.Name x np) X.env) :: backTo pos (starEach es X.env))) _ _ s
    refine Calls.spliced_cons ?_
    obtain ⟨g, db, z | ⟨z, bv, nn⟩⟩ := nm
    · exact ld_glob I g z (names_run I r q) db
    · exact ld_blt I g z bv (names_run I r q) nn db
/-- a clause's test: it leaves the heap but for a tuple -/
theorem cls_run {pins : List (Addr × Obj)} {σ : L2.St} {H : Hp} {s : Shared} (I : Inv X pins σ H s) {cls : Value} {e : Addr} {cs : List Value} {t : Expr} {b : Bool} {Q : Bool → Shared → Prop} {E1 E2 : Value → Shared → Prop} (LT : PySem.W.Looks (model X.prog X.w) s.heap (typeOf (.ref e)) cls)
    (c : Cls X t cs) (hb : PySem.W.exmAny X.K cls cs = some b) (q1 : Q b s) (q2 : ∀ o, Q b { s with heap := s.heap.push o }) : wpAny (model X.prog X.w) X.A (eval t X.env) (fun v s₁ => wpAny (model X.prog X.w) X.A (excMatches (.ref e) v) Q E2 s₁) E1 s := by
  cases c with
  | one nm =>
    obtain ⟨b1, d1, h1, h2, rfl⟩ := PySem.W.exmAny_cons hb
    have h3 : some false = some d1 := h2
    cases h3
    have L := PySem.W.exm_one (M := model X.prog X.w) I.kIn LT h1
    rw [Bool.or_false] at q1
    obtain ⟨g, db, z | ⟨z, bv, nn⟩⟩ := nm
    · exact ld_glob I g z (L.here q1) db
    · exact ld_blt I g z bv (L.here q1) nn db
  | tup nms hl =>
    refine wpAny_Tuple_spliced (names_run I nms ⟨Nat.le_of_lt (small1000 hl), ?_⟩)
    obtain ⟨hp, g, d, tk, os⟩ := s
    have k : ∀ b u, hp.get? b = some u → (hp.push { cls := .type "tuple", data := .seq cs.toArray }).get? b = some u := fun b u z => Heap.get?_push_of_some _ z
    have L := exm_any (M := model X.prog X.w) (I.kIn.keeps k) (LT.keeps k) (Heap.get?_push_size hp rfl) hb
    exact L.here (q2 _)
variable {body : List Stmt} {h₀ : ExceptHandler} {hds : List ExceptHandler} {l : List HC} {pos : Pos} {tb : WX → TS} {Wout : WX}
theorem ps_tryA (hs : X.stack = X.env :: X.outer) (hf : X.env.frame = some X.env.locals) (hN : X.N.Nodup) (tk : Takes X Wout)
    (hb : ∀ (W : WX) (pn : List (Addr × Obj)) (xe : Value → Shared → Prop), Takes (X.tr pn xe) W → PassesOwn (model X.prog X.w) X.A X.env xe → PSs (X.tr pn xe) body (tb W)) (hh : Hds X (h₀ :: hds) l) : PS X (.Try body (h₀ :: hds) [] [] pos) (fun D σ H => tb (wAny X.K Wout D l) D σ H) := by
  refine ⟨fun pins s σ H D I h => wpAny_Try_except ?_⟩
  have ok := I.ok
  have frames : X.A.frames = some (X.env :: X.outer) := by rw [ok.frames, hs]
  refine wpAny_mono ((hb (wAny X.K Wout D l) (X.pn ++ pins) _ (fun u s' air => ?_) PassesOwn.looking).run [] s σ H D (I.toTry _) h) (fun f s1 z => ?_) (fun e s1 z => z)
  · obtain ⟨a, B, sI, pins', σ', H', cls, d, rfl, J', gr, up, sky, na, os, ag, w⟩ := air
    have J : Inv X pins σ' H' sI := J'.ofTry ok
    have sky2 : Sky B (X.env :: X.outer) a (Zc cls d) X.env.locals s'.heap := by rw [← hs]; exact sky
    show wpAny _ _ (noteFrame (.ref a) X.env) _ _ _
    refine Sky.land Zc.steady frames hf sky2 fun h3 fl3 up3 => ?_
    have suiteAt : ∀ {h : Heap} {tk' : Nat}, HandSPX.FlyingZ B (X.env :: X.outer) a (Zc cls d) h → sI.heap.UpToSlots h → ∃ oe, (∃ vs, oe.data = .fields vs) ∧ Zc cls d oe ∧ h.get? a = some oe ∧ Inv (X.suite a ((a, oe) :: (X.pn ++ pins))) [] σ' H' { s' with heap := h } := by
      intro h tk' fl upS
      obtain ⟨oe, vs, e1, e2, e3⟩ := fl.there
      have nfr : a ∉ frs (X.env :: X.outer) := fun m => by
        obtain ⟨_, o, e4, nf⟩ := fl.2.2.1.mem m
        rw [e1] at e4
        cases e4
        exact nf vs e3
      have nL : a ≠ X.env.locals := fun z => nfr (List.mem_filterMap.mpr ⟨X.env, List.mem_cons_self, by rw [hf, z]⟩)
      have nF : a ∉ X.fs := fun m => (List.mem_filterMap.mp m).elim fun e z => nfr (List.mem_filterMap.mpr ⟨e, List.mem_cons_of_mem _ z.1, z.2⟩)
      exact ⟨oe, ⟨vs, e3⟩, e2, e1, (J.landed (s' := { s' with heap := h }) gr fl.1 upS os ag).suite e1 e3 na nL nF⟩
    have go : ∀ {hs2 : List ExceptHandler} {l2 : List HC}, Hds X hs2 l2 → wAny X.K Wout D l2 cls d σ' H' → ∀ h, HandSPX.FlyingZ B (X.env :: X.outer) a (Zc cls d) h → sI.heap.UpToSlots h → wpAny (model X.prog X.w) X.A (handleBy (.ref a) X.env hs2) (SP X pins D) X.xe { s' with heap := h } := by
      intro hs2 l2 hk
      induction hk with
      | nil =>
        intro w h fl upS
        refine wpAny_handleBy_nil ?_
        obtain ⟨k1, k2, k3, oe, vs, T, oT, ts', he, hz, hd, h1, hr⟩ := id fl
        unfold PySem.passOn
        refine wpAny_bind (wpAny_field he hd h1 ?_)
        rw [if_neg (show ¬ ((Value.ref T == Value.none) = true) by simp)]
        have out : wpAny (model X.prog X.w) X.A (setFlight (.ref a) X.env.frame) (fun _ s4 => wpAny (model X.prog X.w) X.A (throw (.ref a) : Sem Flow) (SP X pins D) X.xe s4) X.xe { s' with heap := h } := by
          rw [hf]
          exact HandSPX.setFlight_upZ fl fun h4 hh4 up4 => wpAny_throw (tk _ _ ⟨a, B, sI, pins, σ', H', cls, d, rfl, J, gr, upS.trans up4, .inr (.inr (by rw [hs]; exact hh4)), na, os, ag, w⟩)
        first
          | exact wpAny_bind (wpAny_pure (wpAny_bind out))
          | exact wpAny_bind out
      | @cons t cs nm sl ts b₀ suite pos' hds2 l3 ht hn hsu r ih =>
        intro w h fl upS
        obtain ⟨b, hb1, yes, no⟩ := w
        obtain ⟨oe, hfl, hz, he, S⟩ := suiteAt (tk' := 0) fl upS
        have LT : PySem.W.Looks (model X.prog X.w) h (typeOf (.ref a)) cls := fun A Q E s k q => wpAny_typeOf_ref (k _ _ he) (by rw [hz.1]; exact q)
        have htS : Cls (X.suite a ((a, oe) :: (X.pn ++ pins))) t cs := by
          have nmS : ∀ {es : List Expr} {cs : List Value}, NamesAll X es cs → NamesAll (X.suite a ((a, oe) :: (X.pn ++ pins))) es cs := by
            intro es cs z
            induction z with
            | nil => exact .nil
            | cons n r ih => exact .cons n ih
          cases ht with
          | one n => exact .one n
          | tup n z => exact .tup (nmS n) z
        refine wpAny_handleBy_cons (codeAny_handlers_test ?_) (by intro q; cases q)
        have next : ∀ h2, HandSPX.FlyingZ B (X.env :: X.outer) a (Zc cls d) h2 → sI.heap.UpToSlots h2 →
            (match (Except.ok (if b then Flow.brk else Flow.next) : Result) with
              | .ok .brk => codeAny (model X.prog X.w) (X.A.mark (some (.ref a))) (.handlers (.ref a) [.ExceptHandler none nm (b₀ :: suite) pos'] X.env) (fun r s₂ => match (generalizing := false) r with
                  | .ok f => (match (generalizing := false) nm with
                    | none => SP X pins D f s₂
                    | some n => wpAny (model X.prog X.w) X.A (do bindName X.env n .none; unbindBehindTheSuite X.env n pos') (fun _ s₃ => SP X pins D f s₃) X.xe s₂)
                  | .error x => cameBackBy (model X.prog X.w) X.A X.env X.xe x s₂) { s' with heap := h2 }
              | .ok _ => wpAny (model X.prog X.w) X.A (handleBy (.ref a) X.env hds2) (SP X pins D) X.xe { s' with heap := h2 }
              | .error x => cameBackBy (model X.prog X.w) X.A X.env X.xe x { s' with heap := h2 }) := by
          intro h2 fl2 up2
          cases b with
          | false => exact ih (no rfl) h2 fl2 up2
          | true =>
            rcases hn with ⟨rfl, rfl⟩ | ⟨n, i, rfl, rfl, hi, hl⟩
            · refine codeAny_handlers_suite (HandSPX.lands_againZ fl2 fun h4 fl4 up4 => ?_)
              obtain ⟨oe4, f4, z4, e4, S4⟩ := suiteAt (tk' := 0) fl4 (up2.trans up4)
              refine wpAny_mono ((hsu a oe4 cls d (X.pn ++ pins) z4 f4).run [] _ _ H' _ S4 (yes rfl a na)) (fun f s6 z => ?_) (fun _ _ z => z.elim)
              cases f with
              | next => exact z.elim fun σ6 z => z.elim fun H6 z => ⟨σ6, H6, z.1.unsuite ok, z.2⟩
              | brk => exact z.elim fun σ6 z => z.elim fun H6 z => ⟨σ6, H6, z.1.unsuite ok, z.2⟩
              | cont => exact z.elim fun σ6 z => z.elim fun H6 z => ⟨σ6, H6, z.1.unsuite ok, z.2⟩
              | ret u => obtain ⟨v6, σ6, H6, S6, r6, q6⟩ := z; exact ⟨v6, σ6, H6, S6.unsuite ok, r6, q6⟩
            · refine codeAny_handlers_suite_as (HandSPX.lands_againZ fl2 fun h4 fl4 up4 => ?_)
              obtain ⟨oe4, f4, z4, e4, S4⟩ := suiteAt (tk' := 0) fl4 (up2.trans up4)
              refine store_ok (X := X.suite a ((a, oe4) :: (X.pn ++ pins))) (v := .ref a) S4 hN hi (.inl hl) rfl (fun s5 S5 => ?_) (.inr hl)
              refine wpAny_mono ((hsu a oe4 cls d (X.pn ++ pins) z4 f4).run [] s5 _ H' _ S5 (yes rfl a na)) (fun f s6 z => ?_) (fun _ _ z => z.elim)
              cases f with
              | next => obtain ⟨σ6, H6, S6, q6⟩ := z; exact gone_ok (S6.unsuite ok) hN hi hl fun s7 J7 => ⟨_, _, J7, q6⟩
              | brk => obtain ⟨σ6, H6, S6, q6⟩ := z; exact gone_ok (S6.unsuite ok) hN hi hl fun s7 J7 => ⟨_, _, J7, q6⟩
              | cont => obtain ⟨σ6, H6, S6, q6⟩ := z; exact gone_ok (S6.unsuite ok) hN hi hl fun s7 J7 => ⟨_, _, J7, q6⟩
              | ret u => obtain ⟨v6, σ6, H6, S6, r6, q6⟩ := z; exact gone_ok (S6.unsuite ok) hN hi hl fun s7 J7 => ⟨_, _, _, J7, r6, q6⟩
        exact cls_run S LT htS hb1 (next h fl upS) fun o => next _ (flying_push fl) (upS.trans (Heap.UpToSlots.of_keeps fun b u z => Heap.get?_push_of_some _ z))
    exact go hh w h3 fl3 (up.trans up3)
  · cases f with
    | next => exact z.elim fun σ' z => z.elim fun H' z => wpAny_execs_nil ⟨σ', H', z.1.ofTry ok, z.2⟩
    | brk => exact z.elim fun σ' z => z.elim fun H' z => ⟨σ', H', z.1.ofTry ok, z.2⟩
    | cont => exact z.elim fun σ' z => z.elim fun H' z => ⟨σ', H', z.1.ofTry ok, z.2⟩
    | ret u => obtain ⟨v, σ', H', J', r, q⟩ := z; exact ⟨v, σ', H', J'.ofTry ok, r, q⟩
end
end K0
end
/-! ### MK -/
section
set_option Elab.async false
set_option linter.all false
set_option maxRecDepth 100000
set_option maxHeartbeats 4000000
/-! _law_made_cleaner, _law_made_of. -/
namespace K0
open PySem PySem.Spec PyProof.Rows L2 LamX
open MD (dM KeysV KeyV)
abbrev KbC (K : PySem.W.Frag) (fd : FuncData) : Prop := KBn K fd ["self", "writer", "look", "firsts"] 2 ["look", "firsts"] (fun us ws => us ++ ws) (fun vs zs => vs ++ zs)
theorem scMadeC : FnScope ["cleaner"] ["cleaner"] (defScope (top iMade)) := ⟨rfl, rfl, rfl, by decide +kernel, rfl, by decide +kernel, by decide +kernel⟩
/-- from the constructor's promise: a new cleaner -/
theorem init_at {K : PySem.W.Frag} {w : World} {C CE : Addr} {PT : List (Addr × Str)} {H : Hp} {wv lv fv : V} {dw dl : WhD} {df : PyData} {Q : VK} {E : XK} (hW : WhX K w H 3 wv dw) (hL : LookV K w H lv dl) (hF : Dv K H fv df) (sz : df.bulk ≤ 10000) (few : df = .none → ∀ ss, dl = .sts ss → ss.length ≤ 1000) (tabs : Tabs PT H)
    (good : partsD dw dl (firstD dl df) = true → ∀ H' x fv', (fv ≠ .non → fv' = fv) → Dv K H' fv' (firstD dl df) → ExtN H H' → Tabs PT H' → CleanerAt K w C H' x (stsD dw) (stsD dl) fv' → Q (.ref x) H') (bad : partsD dw dl (firstD dl df) = false → ∀ H', Same H H' → E (.ref CE) none H') :
    ∀ x dx, H x = none → H dx = none → dx ≠ x → spCInit K w C CE PT [.ref x, wv, lv, fv] (upd (upd H dx (.own x)) x (.ins C dx [])) (fun v H3 => v = .non ∧ Q (.ref x) H3) E := by
  intro x dx nx ndx ne
  have s1 : Same H (upd (upd H dx (.own x)) x (.ins C dx [])) := fun b o e => by
    rw [upd_ne (ne_of_none e nx), upd_ne (ne_of_none e ndx)]
    exact e
  refine ⟨x, dx, wv, lv, fv, dw, dl, df, rfl, upd_same, hW.same s1, hL.same s1, hF.same' s1, sz, few, Tabs.ext tabs s1, fun ok H' tw tl to fv' kf dvf ex tb hx k1 k2 => ⟨rfl, good ok H' x fv' kf dvf (fun b o e nt => ?_) tb ⟨dx, tw, tl, to, hx, k1, k2⟩⟩, fun no H' s2 => bad no H' (s1.trans s2)⟩
  exact ex b o (ne_of_none e nx) (s1 _ _ e) nt
def spMadeC (K : PySem.W.Frag) (w : World) (C : Addr) (PT : List (Addr × Str)) : Sp := fun vs H Q _ => ∃ (t R B S : Addr) (xs ys zs : List V) (ws ls : List StD) (ds : List PyData), vs = [.ref t] ∧ WildAt K w H t R B S xs ys zs ws ls ds ∧ WildOk ws ls ds ∧ Tabs PT H ∧
  ∀ H' x fv, ExtN H H' → Tabs PT H' → CleanerAt K w C H' x ws ls (.ref fv) → SqT K H' fv zs → Q (.ref x) H'
theorem wild_bulk : ∀ {ds : List PyData}, (∀ d ∈ ds, d.bulk ≤ 10) → PyData.bulkAll ds ≤ 11 * ds.length
  | [], _ => Nat.le_refl _
  | d :: ds, h => by
    have a := wild_bulk fun e m => h e (List.mem_cons_of_mem _ m)
    have b := h d List.mem_cons_self
    rw [PyData.bulkAll, List.length_cons]
    omega
section
variable {P : Program} {w : World} {K : PySem.W.Frag} {mg : Str → Option Value} {base : Heap} {f fI C CE : Addr} {PT : List (Addr × Str)} {fd fdI : FuncData}
theorem ok_madeC {k : Nat} (F : FnP K "_law_made_cleaner" iMade f fd) (mtup : mg "tuple" = none) (gC : mg "Cleaner" = some (.ref C)) (M : Mk K C fI)
    (FI : FnG P w K mg base (L2.CX P w) (k + 8) fI fdI ["self", "writer", "look", "firsts"] (spCInit K w C CE PT)) (kb : KbC K fdI) :
    FnG P w K mg base CX0 (k + 10) f fd ["cleaner"] (spMadeC K w C PT) := by
  refine fnG_ofC F scMadeC (fun vs H Q E h => ?_) (fun cdv hcd A outer s H vs Q E gd hr h => ?_)
  · obtain ⟨t, R, B, S, xs, ys, zs, ws, ls, ds, rfl, _⟩ := h
    rfl
  · obtain ⟨t, R, B, S, xs, ys, zs, ws, ls, ds, rfl, W, O, tabs, q⟩ := h
    refine ⟨_, PSs.nox (pss_one (ps_ret (pe_makeKG (E := fun _ _ _ => False) M FI gd hr (by rfl) gC kb (passes_call L2.takes0 fun _ _ _ _ z => z.elim) (pa_cons (pe_callTy call_tuple_of (by rfl) mtup (by decide +kernel) (pa_cons (pe_ix ix_tup (pv 0) pe_int (fun _ _ => rfl)) pa_nil)) pa_nil)
      (pk_cons (pe_callTy call_tuple_of (by rfl) mtup (by decide +kernel) (pa_cons (pe_ix ix_tup (pv 0) pe_int (fun _ _ => rfl)) pa_nil)) (pk_cons (pe_callTy call_tuple_of (by rfl) mtup (by decide +kernel) (pa_cons (pe_ix ix_tup (pv 0) pe_int (fun _ _ => rfl)) pa_nil)) pk_nil))))), ?_⟩
    have pw := MD.paired_len W.rows
    have pb := MD.paired_len W.back
    have ps := W.starts.length
    refine ⟨_, rfl, t, _, 0, .ref R, rfl, rfl, W.tup, rfl, R, xs, rfl, .inl ⟨W.rl, fun t1 n1 => ?_⟩⟩
    have u1 := same_upd (o := .tup xs) n1
    refine ⟨_, rfl, t, _, 1, .ref B, rfl, rfl, same_tup u1 W.tup, rfl, B, ys, rfl, .inl ⟨u1.seq W.bl, fun t2 n2 => ?_⟩⟩
    have u2 := u1.trans (same_upd (o := .tup ys) n2)
    refine ⟨_, rfl, t, _, 2, .ref S, rfl, rfl, same_tup u2 W.tup, rfl, S, zs, rfl, .inl ⟨u2.seq W.sl, fun t3 n3 => ?_⟩⟩
    have l3 := same_upd (o := .tup zs) n3
    have u3 := u2.trans l3
    have W3 := W.same u3
    have bk := wild_bulk O.fb
    have l12 := O.nl
    have nf := O.nf
    have nw := O.nw
    refine ⟨rfl, rfl, ?_⟩
    refine init_at (dw := .sts ws) (dl := .sts ls) (df := .tuple ds) (E := fun _ _ _ => False) (CE := CE) (PT := PT) ⟨t1, xs, rfl, .of (l3 _ _ (same_upd n2 _ _ upd_same)), W3.rows, by omega⟩ (.inr ⟨by simp, t2, ys, rfl, .of (l3 _ _ upd_same), W3.back, by omega⟩) (.tup (.of upd_same) W3.starts) (by show PyData.bulkAll ds ≤ 10000; omega) (fun e => by cases e) (Tabs.ext tabs u3)
      (fun ok H' x fv' kf _ ex tb ca => ?_) (fun no => ?_)
    · have e := kf (by simp)
      subst e
      exact q H' x t3 (fun b o e nt => ex b o (u3 _ _ e) nt) tb ca (.of (ex _ _ upd_same (fun _ z => by cases z)))
    · have y := O.parts
      rw [show firstD (.sts ls) (.tuple ds) = .tuple ds from rfl, y] at no
      cases no
end
end K0
end
/-! ### FT -/
section
set_option Elab.async false
set_option linter.all false
set_option maxRecDepth 100000
set_option maxHeartbeats 4000000
/-! What is shown of views, walks and results. -/
namespace K0
open PySem PySem.Spec PyProof.Rows L2
/-- small data -/
structure Sm (n : Nat) (d : PyData) : Prop where
  able : d.showable = true
  leaf : d.leavesShort 60 = true
  bulk : d.bulk ≤ n
  depth : d.depth ≤ 2
theorem sm_all {n : Nat} : ∀ {ds : List PyData}, (∀ d ∈ ds, Sm n d) → PyData.showableAll ds = true ∧ PyData.leavesShortAll 60 ds = true ∧ PyData.bulkAll ds ≤ (n + 1) * ds.length ∧ PyData.depthAll ds ≤ 2
  | [], _ => ⟨rfl, rfl, Nat.zero_le _, Nat.zero_le _⟩
  | d :: ds, h => by
    obtain ⟨a, b, c, e⟩ := sm_all fun x m => h x (List.mem_cons_of_mem _ m)
    have z := h d List.mem_cons_self
    have z1 := z.bulk
    have z2 := z.depth
    refine ⟨?_, ?_, ?_, ?_⟩
    · rw [PyData.showableAll, a, z.able]
      rfl
    · rw [PyData.leavesShortAll, b, z.leaf]
      rfl
    · rw [PyData.bulkAll, List.length_cons, Nat.mul_succ]
      omega
    · rw [PyData.depthAll]
      omega
theorem fit_list {n m : Nat} {ds : List PyData} (h : ∀ d ∈ ds, Sm n d) (l : ds.length ≤ m) (s : (n + 1) * m ≤ 100000) : Fit (.list ds) := by
  obtain ⟨a, b, c, e⟩ := sm_all h
  refine ⟨a, b, ?_, ?_⟩
  · show PyData.bulkAll ds ≤ 100000
    have := Nat.mul_le_mul_left (n + 1) l
    omega
  · show PyData.depthAll ds + 1 ≤ 8
    omega
theorem fit_tup {n m : Nat} {ds : List PyData} (h : ∀ d ∈ ds, Sm n d) (l : ds.length ≤ m) (s : (n + 1) * m ≤ 100000) : Fit (.tuple ds) := by
  obtain ⟨a, b, c, e⟩ := sm_all h
  refine ⟨a, b, ?_, ?_⟩
  · show PyData.bulkAll ds ≤ 100000
    have := Nat.mul_le_mul_left (n + 1) l
    omega
  · show PyData.depthAll ds + 1 ≤ 8
    omega
theorem sm_none {n : Nat} : Sm n .none := ⟨rfl, rfl, Nat.zero_le _, Nat.zero_le _⟩
theorem sm_bool {n : Nat} (b : Bool) : Sm n (.bool b) := ⟨rfl, rfl, Nat.zero_le _, Nat.zero_le _⟩
theorem ints10 : ((List.range 10).all fun n => (PyData.int (n : Nat)).showable && (PyData.int (n : Nat)).leavesShort 60) = true := by decide +kernel
theorem sm_int {n : Nat} {i : Int} (h0 : 0 ≤ i) (h1 : i < 10) : Sm n (.int i) := by
  have z := List.all_eq_true.mp ints10 i.toNat (List.mem_range.mpr (by omega))
  rw [show ((i.toNat : Nat) : Int) = i by omega, Bool.and_eq_true] at z
  exact ⟨z.1, z.2, Nat.zero_le _, Nat.zero_le _⟩
theorem leaf_str {z : Str} (h : sgAll z = true) : (PyData.str z).leavesShort 60 = true := by
  show (z.cps.toList.all fun c => decide (c < 16 ^ 8)) = true
  refine List.all_eq_true.mpr fun c m => decide_eq_true ?_
  have y := asc_of h
  rw [← Array.all_toList] at y
  have y := of_decide_eq_true (List.all_eq_true.mp y c m)
  exact Nat.lt_of_lt_of_le y (by decide)
theorem sm_str {n : Nat} {z : Str} (h : sgAll z = true) (l : z.length ≤ n) : Sm n (.str z) := ⟨rfl, leaf_str h, l, Nat.zero_le _⟩
theorem fit_str {z : Str} (h : sgAll z = true) (l : z.length ≤ 100000) : Fit (.str z) := ⟨rfl, leaf_str h, l, Nat.zero_le _⟩
theorem sg_of {z : Str} (h : ∀ c ∈ z.cps.toList, c ∈ allSigns.cps.toList) : sgAll z = true := List.all_eq_true.mpr fun c m => by rw [sg_mem, decide_eq_true (h c m)]
theorem join_sg {l : List Str} (h : ∀ z ∈ l, sgAll z = true) : sgAll (Txt.join "" l) = true := sg_of fun c m => by
  rw [join_cps, List.mem_flatten] at m
  obtain ⟨q, hq, hc⟩ := m
  obtain ⟨z, hz, rfl⟩ := List.mem_map.mp hq
  exact sg_all (h z hz) c hc
theorem app_sg {a b : Str} (ha : sgAll a = true) (hb : sgAll b = true) : sgAll (a ++ b) = true := sg_of fun c m => by
  have e : (a ++ b).cps.toList = a.cps.toList ++ b.cps.toList := TL.tl_append a b
  rw [e] at m
  exact (List.mem_append.mp m).elim (sg_all ha c) (sg_all hb c)
def dRes : Option Str → PyData
  | none => .none
  | some z => .str z
theorem dv_res {K : PySem.W.Frag} {H : Hp} (r : Option Str) : Dv K H (resV r) (dRes r) := by
  cases r with
  | none => exact .non
  | some z => exact .str z
theorem first_ok {ws ls : List StD} {ds : List PyData} (O : CleanOk ws ls ds) (cs : List Nat) {q : Int} (h : firstQ ls ds cs = .int q) : 0 ≤ q ∧ q < ws.length := by
  have hr := hd_range O cs
  have nf := O.nf
  have lt : (hd0 (viewsL ls cs)).toNat < ds.length := by omega
  have hd : ds[(hd0 (viewsL ls cs)).toNat]? = some (firstQ ls ds cs) := by
    unfold firstQ
    rw [List.getD_eq_getElem?_getD, List.getElem?_eq_getElem lt]
    rfl
  have vw := O.f _ (List.mem_of_getElem? hd)
  rw [h] at vw
  have h : (decide (0 ≤ q) && decide (q ≤ (ws.length : Int) - 1)) = true := vw
  rw [Bool.and_eq_true, decide_eq_true_iff, decide_eq_true_iff] at h
  exact ⟨h.1, by omega⟩
theorem res_ok {ws ls : List StD} {ds : List PyData} (O : CleanOk ws ls ds) {cs : List Nat} (inS : ∀ c ∈ cs, c ∈ allSigns.cps.toList) {z : Str} (h : resD ws ls ds cs = some z) : sgAll z = true ∧ z.length ≤ 2 * cs.length + 2 := by
  unfold resD at h
  cases e : firstQ ls ds cs with
  | int q =>
    rw [e] at h
    obtain ⟨q1, q2⟩ := first_ok O cs e
    obtain ⟨g1, g2, g3, g4⟩ := goW_range O q1 q2 _ (pairsL ls cs) rfl (pairs_mem inS)
    have ll := last_range (O.w _ (atS_mem g1 g2).2)
    have h := Option.some.inj h
    rw [← h]
    have sum2 := flat_len (n := 2) fun y m => (g4 y m).2
    have jl := join_len (goW ws q (pairsL ls cs)).1
    have np := pairsL_len ls cs
    refine ⟨app_sg (join_sg fun z m => (g4 z m).1) ll.1, ?_⟩
    rw [add_len]
    omega
  | _ =>
    rw [e] at h
    cases h
theorem walk_sm {ws ls : List StD} {ds : List PyData} (O : CleanOk ws ls ds) (w9 : ws.length ≤ 9) {cs : List Nat} (inS : ∀ c ∈ cs, c ∈ allSigns.cps.toList) (l : cs.length ≤ 40) : (∀ d ∈ walkD ws ls ds cs, Sm 90 d) ∧ (walkD ws ls ds cs).length ≤ 41 := by
  unfold walkD
  cases e : firstQ ls ds cs with
  | int q =>
    obtain ⟨q1, q2⟩ := first_ok O cs e
    refine ⟨fun d m => ?_, by show (List.map _ _).length ≤ 41; rw [List.length_map, List.length_range]; omega⟩
    have m : d ∈ (List.range (cs.length + 1)).map (walkP ws q (pairsL ls cs)) := m
    obtain ⟨i, _, rfl⟩ := List.mem_map.mp m
    obtain ⟨g1, g2, g3, g4⟩ := goW_range O q1 q2 _ ((pairsL ls cs).take i) rfl fun y m => pairs_mem inS y (List.mem_of_mem_take m)
    have sum2 := flat_len (n := 2) fun y m => (g4 y m).2
    have jl := join_len (goW ws q ((pairsL ls cs).take i)).1
    have np := pairsL_len ls cs
    have ln : (goW ws q ((pairsL ls cs).take i)).1.length ≤ 40 := by
      rw [g3, List.length_take]
      omega
    obtain ⟨a, b, c, e⟩ := sm_all (n := 80) (ds := [.int (goW ws q ((pairsL ls cs).take i)).2, .str (Txt.join "" (goW ws q ((pairsL ls cs).take i)).1)]) fun d m => by
      simp only [List.mem_cons, List.not_mem_nil, or_false] at m
      rcases m with rfl | rfl
      · exact sm_int g1 (by omega)
      · exact sm_str (join_sg fun z m => (g4 z m).1) (by omega)
    refine ⟨a, b, ?_, ?_⟩
    · show PyData.bulkAll [PyData.int _, PyData.str (Txt.join "" _)] ≤ 90
      rw [PyData.bulkAll, PyData.bulkAll, PyData.bulkAll]
      show 0 + 1 + (Str.length _ + 1 + 0) ≤ 90
      omega
    · show max 0 (max 0 0) + 1 ≤ 2
      decide
  | _ => exact ⟨fun d m => (nomatch (show d ∈ ([] : List PyData) from m)), Nat.zero_le _⟩
theorem views_sm {ws ls : List StD} {ds : List PyData} (O : CleanOk ws ls ds) (l9 : ls.length ≤ 9) (cs : List Nat) (n : Nat) : ∀ d ∈ (viewsL ls cs).map PyData.int, Sm n d := fun d m => by
  obtain ⟨v, hv, rfl⟩ := List.mem_map.mp m
  have := views_range O cs v hv
  exact sm_int this.1 (by omega)
theorem dv_ints {K : PySem.W.Frag} {H : Hp} : ∀ l : List Int, DvAll K H (l.map V.int) (l.map PyData.int)
  | [] => .nil
  | i :: l => .cons (.int i) (dv_ints l)
end K0
end
/-! ### SMA -/
section
set_option Elab.async false
set_option linter.all false
set_option maxRecDepth 100000
set_option maxHeartbeats 4000000
/-! text * int from 0 on; texts of signs repeated and cut. -/
namespace K0
open PySem PySem.Spec PyProof.Rows L2
theorem str_empty {z : Str} (h : z.length = 0) : z = ⟨#[]⟩ := by
  obtain ⟨a⟩ := z
  have e : a = #[] := Array.eq_empty_of_size_eq_zero h
  rw [e]
theorem rep_none {z : Str} {n : Int} (h : n.toNat = 0 ∨ z.length = 0) : rep z n = ⟨#[]⟩ := str_empty (by
  rw [rep_len]
  rcases h with h | h <;> rw [h]
  · exact Nat.zero_mul _
  · exact Nat.mul_zero _)
theorem rep_one (z : Str) : rep z 1 = z := by
  obtain ⟨a⟩ := z
  show (⟨#[] ++ a⟩ : Str) = _
  rw [Array.empty_append]
def rStrMulA : R2 := fun x y H Q => ∃ (z : Str) (n : Int), x = .str z ∧ y = .int n ∧ 0 ≤ n ∧ n ≤ 10000 ∧ z.length ≤ 1000 ∧ Q (.str (rep z n)) H
theorem op_strMulA {X : Cx} : OpR X (binaryOp .Mult) rStrMulA := by
  intro pins s σ H x y v u Q I rx ry h
  obtain ⟨z, n, rfl, rfl, n0, n1, z2, q⟩ := h
  obtain ⟨t, rfl⟩ := rx
  obtain ⟨t', rfl⟩ := ry
  have e2 : (2 : Int) ^ 63 = 9223372036854775808 := by decide
  have big : z.length * n.toNat ≤ 1000 * 10000 := Nat.mul_le_mul z2 (by omega)
  refine PySem.P.mul_str (by simp; omega) (fun hn _ => ?_) (fun _ _ => ?_) ?_
  · have h1 : (1000 : Int) ≤ (2 ^ 63 - 1) / n := (Int.le_ediv_iff_mul_le (by omega)).mpr (by omega)
    omega
  · unfold Builtin.Str.tooLong
    rw [sizeLine_eq]
    exact decide_eq_false (by omega)
  · by_cases c1 : n < 1
    · rw [if_pos c1]
      have e : rep z n = Str.empty := rep_none (.inl (by omega))
      rw [e] at q
      exact ⟨by decide, ⟨.str Str.empty, H, I.tok _, ⟨_, rfl⟩, q⟩⟩
    · rw [if_neg c1]
      by_cases c2 : (n == 1 || z.length == 0) = true
      · rw [if_pos c2]
        have e : rep z n = z := by
          rw [Bool.or_eq_true, beq_iff_eq, beq_iff_eq] at c2
          rcases c2 with rfl | c2
          · exact rep_one z
          · rw [rep_none (.inr c2), str_empty c2]
        rw [e] at q
        exact ⟨.str z, H, I, ⟨t, rfl⟩, q⟩
      · rw [if_neg c2]
        have hl := rep_len z n
        exact ⟨by show (rep z n).length ≤ sizeLine; rw [hl, Nat.mul_comm, sizeLine_eq]; omega, ⟨.str (rep z n), H, I.tok _, ⟨_, rfl⟩, q⟩⟩
theorem rep_sg {z : Str} (h : sgAll z = true) (n : Int) : sgAll (rep z n) = true := by
  have all : ∀ (l : List (Array Nat)) (acc : Array Nat), (∀ c ∈ acc.toList, c ∈ allSigns.cps.toList) → (∀ a ∈ l, ∀ c ∈ a.toList, c ∈ allSigns.cps.toList) → ∀ c ∈ (l.foldl (· ++ ·) acc).toList, c ∈ allSigns.cps.toList := by
    intro l
    induction l with
    | nil => exact fun acc h _ => h
    | cons a l ih =>
      intro acc h1 h2
      refine ih (acc ++ a) (fun c m => ?_) fun b m => h2 b (List.mem_cons_of_mem _ m)
      rw [Array.toList_append] at m
      exact (List.mem_append.mp m).elim (h1 c) (h2 a List.mem_cons_self c)
  refine sg_of ?_
  exact all _ #[] (fun c m => by simp at m) fun a m c mc => by
    rw [List.eq_of_mem_replicate m] at mc
    exact sg_all h c mc
theorem cut_sg {z : Str} (h : sgAll z = true) (lo hi : Option Int) : sgAll (cutS z lo hi) = true := sg_of fun c m => sg_all h c (List.mem_of_mem_drop (List.mem_of_mem_take m))
theorem cut_len {z : Str} {n : Nat} (h : n ≤ z.length) : (cutS z none (some (n : Int))).length = n := by
  show (((z.cps.toList.drop 0).take (HT.sIx z.length z.length (some (n : Int)) - 0)).toArray).size = n
  have e : z.cps.toList.length = z.length := Array.length_toList
  rw [HT.sIx_nat, List.size_toArray, List.length_take, List.drop_zero, e]
  omega
end K0
end
/-! ### KN -/
section
set_option Elab.async false
set_option linter.all false
set_option maxRecDepth 100000
set_option maxHeartbeats 4000000
/-! All but the dice and the tables stays. -/
namespace K0
open PySem PySem.Spec PyProof.Rows L2 LamX
/-- all but the dice at p and the tables is as it was -/
structure KN (p : Addr) (T : List (Addr × Str)) (H H' : Hp) : Prop where
  k : ∀ b o, b ≠ p → (∀ ps, o ≠ .tbl ps) → H b = some o → H' b = some o
  d : Dice p H'
  t : Tabs T H'
theorem code_dk2 {c : Addr} {q : Str} {i j k : Int} : CodeO c q ≠ dk i j k := fun z => by
  unfold CodeO dk at z
  cases z
theorem tabsKeep {p : Addr} {T : List (Addr × Str)} {H H' : Hp} (d : Dice p H) (k : Keep p H H') (t : Tabs T H) : Tabs T H' := by
  obtain ⟨a, b, c, e⟩ := d
  intro x hx
  obtain ⟨ps, h1, h2, h3⟩ := t x hx
  refine ⟨ps, k.1 _ _ (fun z => by rw [z, e] at h1; cases h1) h1, h2, fun pos cv hc => ?_⟩
  obtain ⟨c', e1, e2⟩ := h3 pos cv hc
  exact ⟨c', e1, k.1 _ _ (fun z => by rw [z, e] at e2; exact code_dk2 (Option.some.inj e2).symm) e2⟩
variable {p : Addr} {T : List (Addr × Str)} {H H1 H2 : Hp}
theorem KN.refl (d : Dice p H) (t : Tabs T H) : KN p T H H := ⟨fun _ _ _ _ e => e, d, t⟩
theorem KN.trans (a : KN p T H H1) (b : KN p T H1 H2) : KN p T H H2 := ⟨fun x o n t e => b.k x o n t (a.k x o n t e), b.d, b.t⟩
theorem KN.keep (k : KN p T H H1) (z : Keep p H1 H2) : KN p T H H2 := ⟨fun b o n t e => z.1 b o n (k.k b o n t e), z.2, tabsKeep k.d z k.t⟩
theorem KN.same (k : KN p T H H1) (z : Same H1 H2) : KN p T H H2 := ⟨fun b o n t e => z _ _ (k.k b o n t e), k.d.same z, k.t.ext z⟩
theorem KN.extN (k : KN p T H H1) (z : ExtN H1 H2) (t : Tabs T H2) : KN p T H H2 := ⟨fun b o n nt e => z _ _ (k.k b o n nt e) nt, by
  obtain ⟨i, j, l, e⟩ := k.d
  exact ⟨i, j, l, z _ _ e fun ps q => by cases q⟩, t⟩
theorem KN.hid (k : KN p T H H1) : ExtN (hid p H) (hid p H1) := fun b o e nt => by
  by_cases hb : b = p
  · subst hb
    have y : (none : Option HO) = some o := (if_pos rfl).symm.trans e
    cases y
  · rw [hid_ne hb] at e ⊢
    exact k.k _ _ hb nt e
theorem PartsAt.ext {K : PySem.W.Frag} {w : World} {Tw Tl : List Addr} {ws ls : List StD} {ds : List PyData} {zs : List V} (h : PartsAt K w H Tw Tl ws ls ds zs) (e : ExtN H H1) : PartsAt K w H1 Tw Tl ws ls ds zs := h.dat.same (dat_ext e)
theorem sqt_ext {K : PySem.W.Frag} {a : Addr} {xs : List V} (h : SqT K H a xs) (e : ExtN H H1) : SqT K H1 a xs := same_tup noTab_out (same_tup (noTab_ext e) (sqt_noTab h))
theorem sql_ext {K : PySem.W.Frag} {a : Addr} {xs : List V} (h : SqL K H a xs) (e : ExtN H H1) : SqL K H1 a xs := noTab_out.seq ((noTab_ext e).seq (sql_noTab h))
theorem PlainAt.ext {K : PySem.W.Frag} {w : World} {t : Addr} {ws ls : List StD} {ds : List PyData} {zs : List V} (h : PlainAt K w H t ws ls ds zs) (e : ExtN H H1) : PlainAt K w H1 t ws ls ds zs := by
  obtain ⟨R, B, S, Tw, Tl, h1, h2, h3, h4, h5⟩ := h.at_
  exact ⟨R, B, S, Tw, Tl, sqt_ext h1 e, sql_ext h2 e, sql_ext h3 e, sql_ext h4 e, h5.ext e⟩
theorem ClR.ext {K : PySem.W.Frag} {w : World} {C x : Addr} {ws ls : List StD} {ds : List PyData} {zs : List V} (h : ClR K w C H x ws ls ds zs) (e : ExtN H H1) : ClR K w C H1 x ws ls ds zs := by
  obtain ⟨dx, tw, tl, to, f1, Tw, Tl, h1, h2, h3, h4, h5⟩ := h.at_
  exact ⟨dx, tw, tl, to, f1, Tw, Tl, e _ _ h1 (fun _ z => by cases z), sqt_ext h2 e, sqt_ext h3 e, sqt_ext h4 e, h5.ext e⟩
end K0
end
/-! ### OW -/
section
set_option Elab.async false
set_option linter.all false
set_option maxRecDepth 100000
set_option maxHeartbeats 4000000
/-! x(..), v in x of an instance whose class has a __call__, a __contains__ of its own. -/
namespace OE
open PySem PySem.Spec PyProof.Rows L2 PySem.Calls
section
variable {M : Model} {A : Around} {E : Value → Shared → Prop} {s : Shared} {K : PySem.W.Frag} {env : Env} {pos : Pos} {x C : Addr} {first : List Value} {Q : Value → Shared → Prop}
theorem callWith_exOf {args : List (Bool × Sem Value)} {keywords : List (Option Str × Sem Value)} (hplain : (args.any (·.1) || keywords.any (·.1.isNone)) = false)
    (h : wpAny M A (evalArgs (.ref x) true args keywords) (fun a s₁ => (∃ ox od, ox.data = .plain ∧ PySem.W.InstAt s₁.heap x ox C od) ∧ wpAny M A (call (.ref x) (first ++ a.pos) a.kw) Q E s₁) E s) : wpAny M A (callWith pos (.ref x) first args keywords) Q E s := by
  unfold callWith
  refine wpAny_bind (wpAny_holding (wpAny_mono h (fun a s₁ h₁ => wpAny_bind (wpAny_standAt ?_)) fun _ _ y => y))
  obtain ⟨⟨ox, od, hd, J⟩, h₁⟩ := h₁
  have L := PySem.W.kco_keeper (M := M) J hd
  simp only [hplain]
  refine wpAny_bind (L.here ?_)
  have tail : ∀ {t : Sem Value}, wpAny M A t Q E s₁ → wpAny M A (t >>= fun r => holding [r] point >>= fun _ => pure r) Q E s₁ :=
    fun ht => wpAny_bind (wpAny_mono ht (fun r s₂ hr => wpAny_bind (wpAny_holding (wpAny_point (wpAny_pure hr)))) fun _ _ y => y)
  exact tail (wpAny_operateT h₁)
theorem callWith_ex {e : Expr} {rest : List Expr} (h : wpAny M A (spliced (backTo pos (starEach (e :: rest) env))) (fun vs s₁ => (∃ ox od, ox.data = .plain ∧ PySem.W.InstAt s₁.heap x ox C od) ∧ wpAny M A (call (.ref x) (first ++ vs)) Q E s₁) E s)
    (he : starEach (e :: rest) env = (false, eval e env) :: starEach rest env := by rfl) (hplain : (backTo pos (starEach rest env)).any (·.1) = false := by rfl) :
    wpAny M A (callWith pos (.ref x) first (backTo pos (starEach (e :: rest) env)) []) Q E s := by
  rw [he] at h ⊢
  exact callWith_exOf (C := C) (by show ((false || (backTo pos (starEach rest env)).any (·.1)) || false) = false; rw [hplain]; rfl) (evalArgs_plain h)
end
def rInO (C : Addr) (sp : Sp) (E : XK) : R2 := fun x y H Q => ∃ (a dx : Addr) (fs : List (Str × V)), y = .ref a ∧ H a = some (.ins C dx fs) ∧ sp [y, x] H (fun v H' => ∃ c, v = .bl c ∧ Q (.bl c) H') E
def tCallO (C : Addr) (sp : Sp) (E : XK) (tf : TE) (t : TA) : TE := fun σ H Q => tf σ H fun y H1 => ∃ a, y = V.ref a ∧ t σ H1 fun vs H2 => (∃ (dx : Addr) (fs : List (Str × V)), H2 a = some (.ins C dx fs)) ∧ sp (.ref a :: vs) H2 Q E
section
variable {X : Cx} {CX : CXT} {n : Nat} {C g : Addr} {sp : Sp} {E : XK}
theorem op_inO (hs : PySem.W.findIn X.K (.ref C) "__contains__" = some (some (.ref g))) (hf : PySem.W.isFn X.K (.ref g) = true) (F : FnR X.prog X.w X.K X.mg X.base CX n g sp) (hr : Room n X.A) (hx : Passes CX X E) : OpR X (compareOp .In) (rInO C sp E) := by
  intro pins s σ H x y v u Q I rx ry h
  obtain ⟨a, dx, fs, rfl, ha, q⟩ := h
  cases (show u = Value.ref a from ry)
  obtain ⟨mA, O, _⟩ := ins_get I.hok ha
  obtain ⟨od, J, _⟩ := O.look
  obtain ⟨m, hF⟩ := I.fr
  refine PySem.W.in_K hF I.ok.mod.kin J hs hf ?_
  refine wpAny_mono (wpAny_call (run_fnR (us := [.ref a, v]) (vs := [.ref a, x]) F hr hx I (.cons rfl (.cons rx .nil)) q)) (fun w' s' z => ?_) fun _ _ x => x
  obtain ⟨z', H', I', rz, c, rfl, qz⟩ := z
  cases (show w' = Value.bool c from rz)
  exact wpAny_truthy_bool ⟨.bl c, H', I', rfl, qz⟩
theorem pe_callO {fe e : Expr} {es : List Expr} {tf : TE} {t : TA} {pos : Pos} (hs : PySem.W.findIn X.K (.ref C) "__call__" = some (some (.ref g))) (hf : PySem.W.isFn X.K (.ref g) = true) (hfn : PySem.W.fnIn X.K g = true) (F : FnR X.prog X.w X.K X.mg X.base CX n g sp) (hr : Room n X.A) (hx : Passes CX X E)
    (hfe : PE X fe tf) (ha : PA X (e :: es) t)
    (ht : eval (.Call fe (e :: es) [] pos) X.env = (do callWith pos (← eval fe X.env) [] (backTo pos (starEach (e :: es) X.env)) (backToKw pos (keywordEach [] X.env))) := by rfl)
    (he : starEach (e :: es) X.env = (false, eval e X.env) :: starEach es X.env := by rfl) (hpl : (backTo pos (starEach es X.env)).any (·.1) = false := by rfl) : PE X (.Call fe (e :: es) [] pos) (tCallO C sp E tf t) := by
  refine ⟨fun pins s σ H Q I h => ?_⟩
  refine Call_ (thn (hfe.run pins s σ H _ I h) fun u s1 ⟨y, H1, I1, ry, a, ey, q⟩ => ?_) ht
  subst ey
  obtain rfl : u = Value.ref a := ry
  refine callWith_ex (C := C) (thn (ha.run pos pins s1 σ H1 _ I1 q) fun us s2 ⟨vs, H2, I2, rv, ⟨dx, fs, hi⟩, q2⟩ => ?_) he hpl
  obtain ⟨mA, O, _⟩ := ins_get I2.hok hi
  obtain ⟨od, J, _⟩ := O.look
  refine ⟨⟨_, _, rfl, J⟩, ?_⟩
  refine wpAny_call (PySem.W.kco_code I2.kIn J rfl hs hf hfn ?_)
  exact run_fnR (us := .ref a :: us) (vs := .ref a :: vs) F hr hx I2 (.cons rfl rv) q2
end
end OE
end
/-! ### IR -/
section
set_option Elab.async false
set_option linter.all false
set_option maxRecDepth 100000
set_option maxHeartbeats 4000000
/-! _law_is_right. -/
namespace K0
open PySem PySem.Spec PyProof.Rows L2 LamX
def spIsR (K : PySem.W.Frag) (w : World) (C : Addr) : Sp := fun vs H Q _ => ∃ (x t : Addr) (z : Str) (ws ls : List StD) (ds : List PyData) (zs : List V), vs = [.ref x, .ref t, .str z] ∧ ClR K w C H x ws ls ds zs ∧ PlainAt K w H t ws ls ds zs ∧ ws.length ≤ 9 ∧ ls.length ≤ 9 ∧ sgAll z = true ∧ z.length ≤ 40 ∧
  ∀ H', Same H H' → Q (.bl true) H'
theorem scIsR : FnScope ["made", "cleaner", "text", "due"] ["made", "cleaner", "text"] (defScope (top iIsRight)) := ⟨rfl, rfl, rfl, by decide +kernel, rfl, by decide +kernel, by decide +kernel⟩
/-- what the written part says of the class' methods -/
structure ClW (K : PySem.W.Frag) (C gW gV gC gH : Addr) : Prop where
  walk : Meth K C "walk" gW
  views : Meth K C "views" gV
  call : PySem.W.findIn K (.ref C) "__call__" = some (some (.ref gC))
  callF : PySem.W.isFn K (.ref gC) = true
  callN : PySem.W.fnIn K gC = true
  has : PySem.W.findIn K (.ref C) "__contains__" = some (some (.ref gH))
  hasF : PySem.W.isFn K (.ref gH) = true
theorem ClR.inst {K : PySem.W.Frag} {w : World} {C : Addr} {H : Hp} {x : Addr} {ws ls : List StD} {ds : List PyData} {zs : List V} (h : ClR K w C H x ws ls ds zs) : ∃ (dx : Addr) (fs : List (Str × V)), H x = some (.ins C dx fs) := by
  obtain ⟨dx, tw, tl, to, f1, Tw, Tl, hx, _⟩ := h.at_
  exact ⟨_, _, hx⟩
theorem pass_true {z : Str} (sg : sgAll z = true) (l : z.length ≤ 2000) : passD (.str z) = true := by
  show (sgAll z && decide (z.length ≤ 2000)) = true
  rw [sg, decide_eq_true l]
  rfl
section
variable {P : Program} {w : World} {K : PySem.W.Frag} {mg : Str → Option Value} {base : Heap} {f fA fB fD gW gV gC gH C CT : Addr} {fd fdA fdB fdD fdW fdV : FuncData}
theorem ok_isr {k : Nat} (F : FnP K "_law_is_right" iIsRight f fd) (T : ClK K C) (W : ClW K C gW gV gC gH) (sb : sysB K = true) (mrepr : mg "repr" = none) (mtup : mg "tuple" = none)
    (FA : FnOk P w K mg base CX0 (k + 4) fA fdA ["cleaner", "text"] (spLRes K w)) (gA : mg "_law_result" = some (.ref fA)) (kA : PySem.W.keepIn K (.ref fA) = true) (bA : Binds K fdA ["cleaner", "text"] [])
    (FB : FnOk P w K mg base CX0 (k + 4) fB fdB ["cleaner", "text"] (spLWalk K w)) (gB : mg "_law_walk" = some (.ref fB)) (kB : PySem.W.keepIn K (.ref fB) = true) (bB : Binds K fdB ["cleaner", "text"] [])
    (FD : FnOk P w K mg base CX0 (k + 4) fD fdD ["cleaner", "text"] (spLViews K w)) (gD : mg "_law_views" = some (.ref fD)) (kD : PySem.W.keepIn K (.ref fD) = true) (bD : Binds K fdD ["cleaner", "text"] [])
    (FW : FnOk P w K mg base (L2.CX P w) (k + 4) gW fdW ["self", "text"] (spMeth K w C CT (rWalk K))) (bW : Binds K fdW ["self", "text"] [])
    (FV : FnOk P w K mg base (L2.CX P w) (k + 4) gV fdV ["self", "text"] (spMeth K w C CT (rViews K))) (bV : Binds K fdV ["self", "text"] [])
    (FC : FnR P w K mg base (L2.CX P w) (k + 4) gC (spMeth K w C CT rRes)) (FH : FnR P w K mg base CX0 (k + 4) gH (spHas K w C)) :
    FnG P w K mg base CX0 (k + 5) f fd ["made", "cleaner", "text"] (spIsR K w C) := by
  refine fnG_ofC F scIsR (fun vs H Q E h => ?_) (fun cdv hcd A outer s H vs Q E gd hr h => ?_)
  · obtain ⟨x, t, z, ws, ls, ds, zs, rfl, _⟩ := h
    rfl
  · obtain ⟨x, t, z, ws, ls, ds, zs, rfl, R, PL, w9, l9, sg, zl, q⟩ := h
    have no : ∀ {X : Cx}, Passes (L2.CX X.prog X.w) X (fun _ _ _ => False) := fun {X} => passes_call L2.takes0 fun _ _ _ _ z => z.elim
    refine ⟨_, PSs.nox (pss_cons (ps_set (i := 3) scIsR.nd rfl (.inl rfl) (pe_call FA hr (by rfl) gA kA bA .nil pass0 (pa_cons (pv 1) (pa_cons (pv 2) pa_nil))))
      (C8.pss_cut (ps_if (pt_cmpR op_ne (pe_callB (call_repr sb gd hr.units) (by rfl) mrepr (by decide +kernel) (pa_cons (pe_lst (pa_cons (OE.pe_callO (E := fun _ _ _ => False) W.call W.callF W.callN FC hr (passes_call L2.takes0 fun _ _ _ _ z => z.elim) (pv 0) (pa_cons (pv 2) pa_nil)) (pa_cons (pe_cmpR (OE.op_inO W.has W.hasF FH hr pass0) (pv 2) (pv 0) rfl) pa_nil))) pa_nil))
          (pe_callB (call_repr sb gd hr.units) (by rfl) mrepr (by decide +kernel) (pa_cons (pe_lst (pa_cons (pv 3) (pa_cons (pe_cmp (pc_notN (pv 3)) rfl) pa_nil))) pa_nil)) (nomark _)) (pss_one (ps_ret pe_bl)) pss_nil)
      (C8.pss_cut (ps_if (pt_cmpR op_ne (pe_callB (call_repr sb gd hr.units) (by rfl) mrepr (by decide +kernel) (pa_cons (pe_meth (E := fun _ _ _ => False) (pv 0) T.cl W.walk FW hr bW .nil (passes_call L2.takes0 fun _ _ _ _ z => z.elim) (pa_cons (pv 2) pa_nil)) pa_nil))
          (pe_callB (call_repr sb gd hr.units) (by rfl) mrepr (by decide +kernel) (pa_cons (pe_callTy call_tuple_of (by rfl) mtup (by decide +kernel) (pa_cons (pe_call FB hr (by rfl) gB kB bB .nil pass0 (pa_cons (pv 1) (pa_cons (pv 2) pa_nil))) pa_nil)) pa_nil)) (nomark _)) (pss_one (ps_ret pe_bl)) pss_nil)
      (pss_one (ps_ret (pe_cmpR op_eq (pe_callB (call_repr sb gd hr.units) (by rfl) mrepr (by decide +kernel) (pa_cons (pe_meth (E := fun _ _ _ => False) (pv 0) T.cl W.views FV hr bV .nil (passes_call L2.takes0 fun _ _ _ _ z => z.elim) (pa_cons (pv 2) pa_nil)) pa_nil))
          (pe_callB (call_repr sb gd hr.units) (by rfl) mrepr (by decide +kernel) (pa_cons (pe_callTy call_tuple_of (by rfl) mtup (by decide +kernel) (pa_cons (pe_call FD hr (by rfl) gD kD bD .nil pass0 (pa_cons (pv 1) (pa_cons (pv 2) pa_nil))) pa_nil)) pa_nil)) (nomark _))))))), ?_⟩
    have sl : sizeLine = 16777216 := sizeLine_eq
    obtain ⟨cs, hcs⟩ : ∃ cs, cs = z.cps.toList := ⟨_, rfl⟩
    have zn : cs.length ≤ 40 := by rw [hcs, Array.length_toList]; exact zl
    have inS := sg_all sg
    have pz := pass_true sg (by omega : z.length ≤ 2000)
    have A0 : ArgA K C H (.str z) (.str z) := .inl ⟨.str z, by show z.length ≤ 100000; omega⟩
    have O : CleanOk ws ls ds := by
      obtain ⟨_, _, _, _, _, _, _, _, _, PA⟩ := PL.at_
      exact PA.ok
    rw [← hcs] at inS
    refine ⟨_, rfl, _, rfl, t, z, ws, ls, ds, zs, rfl, PL, by omega, sg, fun H1 s1 => ?_⟩
    rw [← hcs]
    have shc : ∀ {G : Hp}, Same H G → ArgA K C G (.str z) (.str z) := fun s => A0.same s
    -- the result
    refine ⟨fun σ' H' => σ' = [some (.ref x), some (.ref t), some (.str z), some (resV (resD ws ls ds cs))] ∧ Same H H', ?_, ?_⟩
    · refine ⟨_, rfl, x, rfl, _, rfl, (R.same s1).inst, x, .str z, .str z, ws, ls, ds, zs, rfl, R.same s1, shc s1, fun z2 e2 _ H2 r s2 hr2 => ?_, fun p => absurd p (by rw [pz]; simp)⟩
      cases e2
      rw [← hcs] at hr2
      obtain rfl : r = resV (resD ws ls ds cs) := hr2
      have s12 := s1.trans s2
      obtain ⟨dx, fs, hx⟩ := (R.same s12).inst
      refine ⟨_, rfl, _, rfl, x, dx, fs, rfl, hx, x, .str z, .str z, ws, ls, ds, zs, rfl, R.same s12, shc s12, fun z3 e3 => by cases e3; omega, fun z3 e3 _ H3 s3 => ?_, fun p => absurd (show isTextD (.str z) = false from p) (by rw [show isTextD (.str z) = true from sg]; simp)⟩
      cases e3
      rw [← hcs]
      refine ⟨_, rfl, by show 2 ≤ sizeLine; omega, fun l1 n1 => ?_⟩
      have fitR : ∀ r : Option Str, (∀ z, r = some z → sgAll z = true ∧ z.length ≤ 90) → Fit (.list [dRes r, .bool r.isSome]) := fun r h => fit_list (n := 90) (m := 2) (fun d m => by
        simp only [List.mem_cons, List.not_mem_nil, or_false] at m
        rcases m with rfl | rfl
        · cases r with
          | none => exact sm_none
          | some z => exact sm_str (h z rfl).1 (h z rfl).2
        · exact sm_bool _) (Nat.le_refl 2) (by decide)
      have fr := fitR (resD ws ls ds cs) fun z e => by
        have y := res_ok O inS e
        exact ⟨y.1, by omega⟩
      have dl : ∀ {G : Hp} {l : Addr}, G l = some (.lst [resV (resD ws ls ds cs), .bl (resD ws ls ds cs).isSome]) → Dv K G (.ref l) (.list [dRes (resD ws ls ds cs), .bool (resD ws ls ds cs).isSome]) := fun e => .lst (.of e) (.cons (dv_res _) (.cons (.bl _) .nil))
      refine ⟨_, _, rfl, dl upd_same, fr, ?_⟩
      refine ⟨_, rfl, _, rfl, by show 2 ≤ sizeLine; omega, fun l2 n2 => ?_⟩
      have e5 : (!decide (resV (resD ws ls ds cs) = V.non)) = (resD ws ls ds cs).isSome := by
        cases resD ws ls ds cs with
        | none => rfl
        | some z => rfl
      refine ⟨_, _, rfl, ?_, fr, ?_⟩
      · refine dl (l := l2) ?_
        rw [upd_same]
        show some (HO.lst [_, V.bl (!decide (resV (resD ws ls ds cs) = V.non))]) = _
        rw [e5]
      refine ⟨rfl, _, rfl, ite2 (fun e => absurd e (by simp)) (fun _ => ⟨rfl, ((s12.trans s3).trans (same_upd n1)).trans (same_upd n2)⟩)⟩
    rintro σ1 H2 ⟨rfl, s2⟩
    obtain ⟨wsm, wsl⟩ := walk_sm O w9 inS zn
    have fw : Fit (.tuple (walkD ws ls ds cs)) := fit_tup wsm wsl (by decide)
    refine ⟨fun σ' H' => σ' = [some (.ref x), some (.ref t), some (.str z), some (resV (resD ws ls ds cs))] ∧ Same H H', ?_, ?_⟩
    · obtain ⟨dx, tw, tl, to, f1, Tw, Tl, hx, _⟩ := (R.same s2).at_
      refine ⟨_, rfl, x, dx, _, rfl, hx, rfl, _, rfl, x, .str z, .str z, ws, ls, ds, zs, rfl, R.same s2, shc s2, fun z2 e2 _ H3 r s3 hr3 => ?_, fun p => absurd p (by rw [pz]; simp)⟩
      cases e2
      rw [← hcs] at hr3
      obtain ⟨T1, vs1, rfl, hT1, dv1⟩ := hr3
      refine ⟨_, _, rfl, .tup hT1 dv1, fw, ?_⟩
      refine ⟨_, rfl, _, rfl, t, z, ws, ls, ds, zs, rfl, PL.same (s2.trans s3), by omega, sg, fun H4 l vs2 s4 hl dv2 => ?_⟩
      rw [← hcs] at dv2
      refine ⟨l, _, rfl, .inl ⟨.of hl, fun t2 nt2 => ?_⟩⟩
      have s5 := same_upd (o := .tup vs2) nt2
      refine ⟨_, _, rfl, .tup (.of upd_same) (DvAll.same s5 _ _ dv2), fw, ?_⟩
      exact ⟨rfl, _, rfl, ite2 (fun e => absurd e (by simp)) (fun _ => ⟨rfl, ((s2.trans s3).trans s4).trans s5⟩)⟩
    rintro σ2 H3 ⟨rfl, s3⟩
    have fv : Fit (.tuple ((viewsL ls cs).map PyData.int)) := fit_tup (n := 1) (m := 41) (views_sm O l9 cs 1) (by rw [List.length_map, viewsL_len]; omega) (by decide)
    obtain ⟨dx, tw, tl, to, f1, Tw, Tl, hx, _⟩ := (R.same s3).at_
    refine ⟨_, rfl, x, dx, _, rfl, hx, rfl, _, rfl, x, .str z, .str z, ws, ls, ds, zs, rfl, R.same s3, shc s3, fun z2 e2 _ H4 r s4 hr4 => ?_, fun p => absurd p (by rw [pz]; simp)⟩
    cases e2
    rw [← hcs] at hr4
    obtain ⟨T1, rfl, hT1⟩ := hr4
    refine ⟨_, _, rfl, .tup hT1 (dv_ints _), fv, ?_⟩
    refine ⟨_, rfl, _, rfl, t, z, ws, ls, ds, zs, rfl, PL.same (s3.trans s4), by omega, fun H5 l s5 hl => ?_⟩
    rw [← hcs] at hl
    refine ⟨l, _, rfl, .inl ⟨.of hl, fun t2 nt2 => ?_⟩⟩
    have s6 := same_upd (o := .tup ((viewsL ls cs).map V.int)) nt2
    refine ⟨_, _, rfl, .tup (.of upd_same) (dv_ints _), fv, ?_⟩
    refine ⟨rfl, ?_⟩
    rw [decide_eq_true rfl]
    exact q _ (((s3.trans s4).trans s5).trans s6)
end
end K0
end
/-! ### LG -/
section
set_option Elab.async false
set_option linter.all false
set_option maxRecDepth 100000
set_option maxHeartbeats 4000000
/-! _law_met, _law_long_right. -/
namespace K0
open PySem PySem.Spec PyProof.Rows L2 LamX
theorem scMet : FnScope ["call"] ["call"] (defScope (top iMet)) := ⟨rfl, rfl, rfl, by decide +kernel, rfl, by decide +kernel, by decide +kernel⟩
theorem met_gives {X : Cx} {q : Str} {g CT : Addr} {cdg : Value} (mT : X.mg "InvalidText" = some (.ref CT)) :
    GivesTo X ["call"] "_law_met" (defScope (top iMet)) g cdg (defBody (top iMet)) "call" q (TTold X.K CT "no text") :=
  told_gives (e := "InvalidText") (ret := "no text") (by rfl) mT (by decide) (fun _ => rfl)
abbrev lgN : List Str := ["dice", "made", "cleaner", "signs", "size", "text", "due"]
abbrev lgQ : Str := "_law_long_right" ++ ".<locals>." ++ "<lambda>"
theorem scLong : FnScope lgN ["dice", "made", "cleaner", "signs"] (defScope (top iLong)) := ⟨rfl, rfl, rfl, by decide +kernel, rfl, by decide +kernel, by decide +kernel⟩
def spLong (K : PySem.W.Frag) (w : World) (C : Addr) (T : List (Addr × Str)) : Sp := fun vs H Q _ => ∃ (p x t sg : Addr) (cs : List Nat) (ws ls : List StD) (ds : List PyData) (zs : List V), vs = [.ref p, .ref x, .ref t, .ref sg] ∧ Dice p H ∧ Tabs T H ∧ ClR K w C (hid p H) x ws ls ds zs ∧ PlainAt K w (hid p H) t ws ls ds zs ∧
  SqT K (hid p H) sg (cs.map oneV) ∧ cs ≠ [] ∧ cs.length ≤ 15 ∧ (∀ c ∈ cs, c ∈ allSigns.cps.toList) ∧ ∀ H', KN p T H H' → Q (.bl true) H'
namespace J
section
variable {P : Program} {w : World} {K : PySem.W.Frag} {mg : Str → Option Value} {base : Heap} {f fO fA fM gW gV gC gH C CT c PL : Addr} {fd fdO fdA fdM : FuncData} {T : List (Addr × Str)}
theorem ok_long {k : Nat} (F : FnP K "_law_long_right" iLong f fd) (hcode : fd.code = .ref c) (TB : TabB base mg c PL) (hmT : (PL, lgQ) ∈ T) (hu : ∀ x ∈ T, x.1 = PL → x.2 = lgQ) (W : ClW K C gW gV gC gH) (sb : sysB K = true) (mrepr : mg "repr" = none)
    (FO : FnOk P w K mg base CX0 (k + 4) fO fdO ["dice", "items"] (spOne K)) (gO : mg "_law_one_of" = some (.ref fO)) (kO : PySem.W.keepIn K (.ref fO) = true) (bO : Binds K fdO ["dice", "items"] [])
    (FA : FnOk P w K mg base CX0 (k + 4) fA fdA ["cleaner", "text"] (spLRes K w)) (gA : mg "_law_result" = some (.ref fA)) (kA : PySem.W.keepIn K (.ref fA) = true) (bA : Binds K fdA ["cleaner", "text"] [])
    (FM : FnP K "_law_met" iMet fM fdM) (gM : mg "_law_met" = some (.ref fM)) (bM : Binds K fdM ["call"] []) (gT : mg "InvalidText" = some (.ref CT)) (eT : PySem.W.exmOne K (.ref CT) (.ref CT) = some true)
    (FC : FnR P w K mg base (L2.CX P w) (k + 4) gC (spMeth K w C CT rRes)) (FH : FnR P w K mg base CX0 (k + 4) gH (spHas K w C)) :
    FnG P w K mg base CX0 (k + 7) f fd ["dice", "made", "cleaner", "signs"] (spLong K w C T) := by
  refine fnG_ofC F scLong (fun vs H Q E h => ?_) (fun cdv hc A outer s H vs Q E gd hr h => ?_)
  · obtain ⟨p, x, t, sg, cs, ws, ls, ds, zs, rfl, _⟩ := h
    rfl
  · obtain ⟨p, x, t, sg, cs, ws, ls, ds, zs, rfl, d0, tabs, R, PL', hT, ne, l15, mem, q⟩ := h
    obtain rfl : cdv = .ref c := hc.symm.trans hcode
    obtain ⟨oc, od, dV, kV, doc, pm, an, cdw, ct, osl, rfl, lkM, codeM, _, _⟩ := FM.ex
    have hr4 := Room.mono hr (show k + 4 ≤ k + 6 by omega)
    refine ⟨_, PSs.nox (C8.pss_cut (ps_set (i := 4) scLong.nd rfl (.inl rfl) (pe_call FO hr4 (by rfl) gO kO bO .nil pass0 (pa_cons (pv 0) (pa_cons (pe_lst (pa_cons pe_int (pa_cons pe_int (pa_cons pe_int pa_nil)))) pa_nil))))
      (C8.pss_cut (ps_set (i := 5) scLong.nd rfl (.inr rfl) (pe_slice sl_str (pe_op op_strMulA (pe_op op_add_str (pe_call FO hr4 (by rfl) gO kO bO .nil pass0 (pa_cons (pv 0) (pa_cons (pv 3) pa_nil))) (pe_call FO hr4 (by rfl) gO kO bO .nil pass0 (pa_cons (pv 0) (pa_cons (pv 3) pa_nil)))) pe_int) po_none (po_some (pv 4))))
      (C8.pss_cut (ps_set (i := 6) scLong.nd rfl (.inl rfl) (pe_call FA hr4 (by rfl) gA kA bA .nil pass0 (pa_cons (pv 2) (pa_cons (pv 5) pa_nil))))
      (C8.pss_cut (ps_if (pt_cmpR op_ne (pe_cmpR (OE.op_inO W.has W.hasF FH hr4 pass0) (pv 5) (pv 1) rfl) (pe_cmp (pc_notN (pv 6)) rfl) (nomark _)) (pss_one (ps_ret pe_bl)) pss_nil)
      (pss_one (ps_ret (pe_cmpR op_eq (pe_callB (call_repr sb gd hr.units) (by rfl) mrepr (by decide +kernel) (pa_cons
          (pe_lamcall (t := fun E' => OE.tCallO C (spMeth K w C CT rRes) E' (tVar 1) (tCons (tVar 5) tNil)) (P := PL) (c := c) (x := "_law_met") (a := "call") (by rfl) gM FM.kp lkM codeM bM scMet rfl (.inl rfl) (met_gives gT) TB rfl hmT hu hr (lamS_by (sc := defScope (top iLong)) (by decide +kernel)) (by rfl) (fun _ _ _ _ _ => rfl)
            (fun A' o' s' H' E' f' c' hr' => OE.pe_callO W.call W.callF W.callN FC hr' (passes_call (takes_of rfl rfl rfl rfl) fun _ _ _ _ h => h) (pv 1) (pa_cons (pv 5) pa_nil))) pa_nil))
        (pe_callB (call_repr sb gd hr.units) (by rfl) mrepr (by decide +kernel) (pa_cons (pe_ifExp (pt_cmpR op_gt (pv 4) pe_int (nomark _)) pe_str (pv 6)) pa_nil)) (nomark _)))))))), ?_⟩
    have sl : sizeLine = 16777216 := sizeLine_eq
    -- size
    refine ⟨fun σ' H' => ∃ n : Nat, σ' = [some (.ref p), some (.ref x), some (.ref t), some (.ref sg), some (.int (n : Nat)), none, none] ∧ (n = 1999 ∨ n = 2000 ∨ n = 2001) ∧ KN p T H H', ?_, ?_⟩
    · refine ⟨_, rfl, by show 3 ≤ sizeLine; omega, fun l nl => one_new d0 nl (by simp) (by decide) fun v mv H1 k1 => ?_⟩
      have kk := (KN.refl d0 tabs).keep k1
      simp only [List.mem_cons, List.not_mem_nil, or_false] at mv
      rcases mv with rfl | rfl | rfl
      · exact ⟨1999, rfl, .inl rfl, kk⟩
      · exact ⟨2000, rfl, .inr (.inl rfl), kk⟩
      · exact ⟨2001, rfl, .inr (.inr rfl), kk⟩
    rintro σ1 H1 ⟨n, rfl, hn, k1⟩
    -- text
    refine ⟨fun σ' H' => ∃ z : Str, σ' = [some (.ref p), some (.ref x), some (.ref t), some (.ref sg), some (.int (n : Nat)), some (.str z), none] ∧ sgAll z = true ∧ z.length = n ∧ KN p T H H', ?_, ?_⟩
    · have one : ∀ {G : Hp} {Q : VK} {E : XK}, KN p T H G → (∀ c H', c ∈ cs → KN p T H H' → Q (.str (oneS c)) H') → spOne K [.ref p, .ref sg] G Q E := fun {G Q E} kk q => one_at (xs := cs.map oneV) kk.d (.inl ⟨_, rfl, .inr (sqt_ext hT kk.hid)⟩) (by simpa using ne) (by rw [List.length_map]; omega) fun v mv H2 k2 => by
        obtain ⟨c, hc, rfl⟩ := List.mem_map.mp mv
        exact q c H2 hc (kk.keep k2)
      refine ⟨_, rfl, _, rfl, one k1 fun c1 H2 m1 k2 => ⟨_, rfl, _, rfl, one k2 fun c2 H3 m2 k3 => ?_⟩⟩
      have s1 : ∀ c ∈ cs, sgAll (oneS c) = true := fun c m => sg_of fun e he => by
        have he : e ∈ [c] := he
        rw [List.mem_singleton.mp he]
        exact mem c m
      have s2 : sgAll (oneS c1 ++ oneS c2) = true := app_sg (s1 c1 m1) (s1 c2 m2)
      have l2 : (oneS c1 ++ oneS c2).length = 2 := by rw [add_len]; rfl
      have l3 : (rep (oneS c1 ++ oneS c2) 1001).length = 2002 := by rw [rep_len, l2]; decide
      refine ⟨_, _, rfl, rfl, by rw [show (oneS c1).length = 1 from rfl, show (oneS c2).length = 1 from rfl]; omega, _, _, rfl, rfl, by decide, by decide, by omega, ?_⟩
      refine ⟨_, rfl, (n : Nat), rfl, _, rfl, by omega, ?_⟩
      exact ⟨_, rfl, cut_sg (rep_sg s2 _) _ _, cut_len (by omega), k3⟩
    rintro σ2 H2 ⟨z, rfl, sg', zl, k2⟩
    have A0 : ∀ {G : Hp}, ArgA K C G (.str z) (.str z) := fun {G} => .inl ⟨.str z, by show z.length ≤ 100000; omega⟩
    have inS := sg_all sg'
    have O : CleanOk ws ls ds := by
      obtain ⟨_, _, _, _, _, _, _, _, _, PA⟩ := PL'.at_
      exact PA.ok
    -- due
    refine ⟨fun σ' H' => σ' = [some (.ref p), some (.ref x), some (.ref t), some (.ref sg), some (.int (n : Nat)), some (.str z), some (resV (resD ws ls ds z.cps.toList))] ∧ KN p T H H', ?_, ?_⟩
    · exact ⟨_, rfl, _, rfl, t, z, ws, ls, ds, zs, rfl, (PL'.ext k2.hid).same hid_out, by omega, sg', fun H3 s3 => ⟨rfl, k2.same s3⟩⟩
    rintro σ3 H3 ⟨rfl, k3⟩
    have nn : ∀ r : Option Str, (!decide (resV r = V.non)) = r.isSome := fun r => by cases r <;> rfl
    refine ⟨fun σ' H' => σ' = [some (.ref p), some (.ref x), some (.ref t), some (.ref sg), some (.int (n : Nat)), some (.str z), some (resV (resD ws ls ds z.cps.toList))] ∧ KN p T H H', ?_, ?_⟩
    · have R3 := (R.ext k3.hid).same hid_out
      obtain ⟨dx, fs, hx⟩ := R3.inst
      refine ⟨_, rfl, _, rfl, x, dx, fs, rfl, hx, x, .str z, .str z, ws, ls, ds, zs, rfl, R3, A0, fun z3 e3 => by cases e3; omega, fun z3 e3 _ H4 s4 => ?_, fun p => absurd (show isTextD (.str z) = false from p) (by rw [show isTextD (.str z) = true from sg']; simp)⟩
      cases e3
      refine ⟨_, rfl, _, rfl, rfl, _, rfl, ite2 (fun e => ?_) (fun _ => ⟨rfl, k3.same s4⟩)⟩
      rw [nn] at e
      exact absurd e (by simp)
    rintro σ4 H4 ⟨rfl, k4⟩
    refine ⟨k4.t, fun H5 eN T5 => ?_⟩
    have k5 := k4.extN eN T5
    have R5 := (R.ext k5.hid).same hid_out
    have fitS : Fit (.str "no text") := ⟨rfl, by decide +kernel, by decide +kernel, by decide⟩
    have fitR : Fit (dRes (resD ws ls ds z.cps.toList)) := by
      cases e : resD ws ls ds z.cps.toList with
      | none => exact ⟨rfl, rfl, Nat.zero_le _, Nat.zero_le _⟩
      | some y =>
        obtain ⟨a, b⟩ := res_ok O inS e
        have e2 : z.cps.toList.length = z.length := Array.length_toList
        exact fit_str a (by omega)
    refine ⟨_, rfl, x, rfl, _, rfl, R5.inst, x, .str z, .str z, ws, ls, ds, zs, rfl, R5, A0, fun z2 e2 pz H6 r s6 hr6 => ?_, fun pz H6 s6 => ⟨true, eT, fun _ => ?_, fun e => by cases e⟩⟩
    · cases e2
      obtain rfl : r = resV (resD ws ls ds z.cps.toList) := hr6
      have n2 : n ≤ 2000 := by
        have y := of_decide_eq_true (Bool.and_eq_true_iff.mp pz).2
        omega
      refine ⟨_, _, rfl, dv_res _, fitR, ?_⟩
      refine ⟨_, rfl, _, _, rfl, rfl, _, rfl, ite2 (fun e => ?_) (fun _ => ?_)⟩
      · have e : (2000 : Int) < (n : Nat) := of_decide_eq_true e
        omega
      · refine ⟨_, rfl, _, _, rfl, dv_res _, fitR, rfl, ?_⟩
        rw [decide_eq_true rfl]
        exact q _ (k5.same s6)
    · have n2 : 2000 < n := by
        have pz : (sgAll z && decide (z.length ≤ 2000)) = false := pz
        rw [sg', Bool.true_and] at pz
        have y := of_decide_eq_false pz
        omega
      refine ⟨_, .str "no text", rfl, .str _, fitS, ?_⟩
      refine ⟨_, rfl, _, _, rfl, rfl, _, rfl, ite2 (fun _ => ?_) (fun e => ?_)⟩
      · refine ⟨_, .str "no text", rfl, .str _, fitS, rfl, ?_⟩
        rw [decide_eq_true rfl]
        exact q _ (k5.same s6)
      · have e : ¬ (2000 : Int) < (n : Nat) := fun z => e (decide_eq_true z)
        omega
end
end J
end K0
end
/-! ### LW6 -/
section
set_option Elab.async false
set_option linter.all false
set_option maxRecDepth 100000
set_option maxHeartbeats 4000000
/-! _law_word, up to six signs. -/
namespace K0
open PySem PySem.Spec PyProof.Rows L2
def spLWord6 (K : PySem.W.Frag) : Sp := fun vs H Q _ => ∃ (p sg : Addr) (a b c : Int) (cs : List Nat), vs = [.ref p, .ref sg, .int 6] ∧ H p = some (dk a b c) ∧ SqT K (hid p H) sg (cs.map oneV) ∧ cs ≠ [] ∧ cs.length ≤ 15 ∧ (∀ c ∈ cs, c ∈ allSigns.cps.toList) ∧
  ∀ H' z, Keep p H H' → sgAll z = true → z.length ≤ 6 → Q (.str z) H'
section
variable {P : Program} {w : World} {K : PySem.W.Frag} {mg : Str → Option Value} {base : Heap} {f fO : Addr} {fd fdO : FuncData}
theorem ok_lword6 {k : Nat} (F : FnP K "_law_word" iLWord f fd) (FO : FnOk P w K mg base CX0 (k + 2) fO fdO ["dice", "items"] (spOne K)) (gO : mg "_law_one_of" = some (.ref fO)) (kO : PySem.W.keepIn K (.ref fO) = true) (bO : Binds K fdO ["dice", "items"] [])
    (mmin : mg "min" = none) (mrange : mg "range" = none) : FnOk P w K mg base CX0 (k + 3) f fd ["dice", "signs", "upto"] (spLWord6 K) := by
  refine F.ok scLWord (fun vs H Q E h => ?_) (fun cdv A outer s H vs Q E hr h => ?_)
  · obtain ⟨p, sg, a, b, c, cs, rfl, _⟩ := h
    rfl
  · obtain ⟨p, sg, a, b, c, cs, rfl, hp, hT, ne, cl, mem, q⟩ := h
    refine ⟨_, PSs.nox (pss_cons (ps_set (i := 3) scLWord.nd rfl (.inl rfl) (pe_callB (call_min2 rfl) (by rfl) mmin boot_min (pa_cons (pv 2) (pa_cons
        (pe_call FO hr (by rfl) gO kO bO .nil pass0 (pa_cons (pv 0) (pa_cons (pe_lst (pa_cons pe_int (pa_cons pe_int (pa_cons pe_int (pa_cons pe_int (pa_cons pe_int (pa_cons pe_int (pa_cons pe_int (pa_cons pe_int (pa_cons pe_int pa_nil)))))))))) pa_nil))) pa_nil))))
      (pss_one (ps_ret (pe_join pe_str (pe_lc (own := [("turn", 4)]) (g := gName 4) (tt := tYes) rfl scLWord.nd (pi_range1 (by rfl) mrange (pa_cons (pv 3) pa_nil)) (blkOk_by (N := lwN) (sc := defScope (top iLWord)) (by decide +kernel))
        (fun _ _ _ _ _ => pg_name (i := 4) scLWord.nd rfl (Or.inl rfl)) (fun _ _ _ _ _ => pts_nil) (fun _ _ _ _ _ => pe_call FO hr (by rfl) gO kO bO .nil pass0 (pa_cons (pv 0) (pa_cons (pv 1) pa_nil)))))))), ?_⟩
    refine ⟨_, rfl, _, rfl, by show 9 ≤ sizeLine; decide, fun l hl => ?_⟩
    have npl : p ≠ l := ne_of_none hp hl
    refine ⟨p, a, b, c, _, _, rfl, by rw [upd_ne npl]; exact hp, .inl ⟨l, rfl, .inl (.of upd_same)⟩, List.cons_ne_nil _ _, by show 9 ≤ sizeLine; decide, fun a' b' c' => .inl ⟨l, rfl, .inl (.of (by rw [upd_ne npl.symm, upd_same]))⟩, fun a1 b1 c1 i x hx => ?_⟩
    have hv : ∃ n : Int, x = .int n ∧ 0 ≤ n ∧ n ≤ 6 := by
      have hm := List.mem_of_getElem? hx
      simp only [List.mem_cons, List.not_mem_nil, or_false] at hm
      rcases hm with rfl | rfl | rfl | rfl | rfl | rfl | rfl | rfl | rfl <;> exact ⟨_, rfl, by decide, by decide⟩
    obtain ⟨n, rfl, n0, n6⟩ := hv
    have k1 : Keep p H (upd (upd H l (.lst [.int 0, .int 1, .int 1, .int 1, .int 2, .int 2, .int 3, .int 4, .int 6])) p (dk a1 b1 c1)) := (Keep.new hp hl).trans (.dice a1 b1 c1)
    refine ⟨_, _, rfl, ?_⟩
    generalize hsz : (if n < 6 then n else 6) = sz
    have hsz2 : 0 ≤ sz ∧ sz ≤ 6 := by
      rw [← hsz]
      split <;> omega
    refine ⟨⟨_, rfl⟩, _, rfl, sz, rfl, by omega, by omega, fun D hD => ?_⟩
    refine lc_range (lo := 0) (n := sz.toNat) (fun i H' => Keep p H H' ∧ ∃ ws : List Str, ws.length = i ∧ (ws.map (·.length)).sum = i ∧ (∀ z ∈ ws, sgAll z = true) ∧ H' D = some (.lst (ws.map V.str))) ⟨k1.new2 hD, [], rfl, rfl, (fun z m => nomatch m), upd_same⟩ (fun i H' hi hP => ?_) (fun H' hP => ?_)
    · obtain ⟨kk, ws, hw, hsum, hsg, hDD⟩ := hP
      obtain ⟨a2, b2, c2, hp2⟩ := kk.2
      have hTs : ∀ a b c : Int, SqT K (upd H' p (dk a b c)) sg (cs.map oneV) := fun a b c => same_tup hid_out (same_tup (hid_keep (kk.trans (.dice a b c))) hT)
      have hT2 : SqT K H' sg (cs.map oneV) := same_tup hid_out (same_tup (hid_keep kk) hT)
      refine ⟨rfl, _, rfl, _, rfl, p, a2, b2, c2, _, _, rfl, hp2, .inl ⟨sg, rfl, .inr hT2⟩, by simpa using ne, by rw [List.length_map]; exact small5 (by omega) |> Nat.le_of_lt, fun a b c => .inl ⟨sg, rfl, .inr (hTs a b c)⟩, fun a3 b3 c3 j x hx => ?_⟩
      rw [List.getElem?_map] at hx
      cases hc : cs[j]? with
      | none => rw [hc] at hx; cases hx
      | some cc =>
        rw [hc] at hx
        cases hx
        have nDp : D ≠ p := fun e => by
          rw [e, hp2] at hDD
          have z : HO.lst _ = HO.lst _ := Option.some.inj hDD
          injection z with z
          have z2 := congrArg (·.map fun v => match v with | V.int _ => true | _ => false) z
          cases ws <;> simp at z2
        refine ⟨ws.map V.str, by rw [upd_ne nDp]; exact hDD, ?_, ?_⟩
        · rw [List.length_map, hw]
          exact small1000 (by omega)
        · refine ⟨?_, ws ++ [oneS cc], by rw [List.length_append, hw]; rfl, by rw [List.map_append, List.sum_append, hsum]; rfl, fun z m => ?_, by rw [upd_same, List.map_append]; rfl⟩
          · exact ⟨fun b o hb e => by rw [upd_ne (ne_of_none (k1.1 b o hb e) hD), upd_ne hb]; exact kk.1 b o hb e, a3, b3, c3, by rw [upd_ne nDp.symm, upd_same]⟩
          · rcases List.mem_append.mp m with m | m
            · exact hsg z m
            · rw [List.mem_singleton.mp m]
              exact sg_one (mem cc (List.mem_of_getElem? hc))
    · obtain ⟨kk, ws, hw, hsum, hsg, hDD⟩ := hP
      refine ⟨_, D, ws, rfl, rfl, .inl (.of hDD), by rw [hsum]; show _ + ws.length * 0 ≤ _; omega, q H' _ kk (sg_glued ws hsg) ?_⟩
      have e := PySem.size_glued ("" : Str) ws
      show (Builtin.Str.glued ("" : Str) ws).length ≤ 6
      rw [e, hsum]
      show _ + (ws.length - 1) * 0 ≤ 6
      omega
end
end K0
end
/-! ### SetTx -/
section
set_option Elab.async false
set_option linter.all false
set_option maxRecDepth 100000
set_option maxHeartbeats 4000000
/-! Sets of texts that can be walked: what they hold, in no order; one more text, new or not. -/
namespace SetTx
open PySem PySem.Spec PyProof.Rows L2 PySem.Froz
/-- the set at a holds the texts l, each once; its table can be walked -/
def Holds (P : Program) (w : World) (h : Heap) (a : Addr) (l : List Str) : Prop := ∃ D : SD, h.get? a = some (sObj "set" D) ∧ TxOk P w D l ∧ Ris D.2.2.place.toList ∧ (w.params.followText "set-order" = true ∨ D.2.2.led = true)
theorem tail_walk {ep : Nat} {es : Array (Int × Value)} {t : SetTable} {b : Bool} (r : Ris t.place.toList) : Ris (tailTx ep es t b).2.2.place.toList ∧ (tailTx ep es t b).2.2.led = t.led := by
  unfold tailTx
  by_cases c : (!b && t.tooFull) = true
  · rw [if_pos c]
    exact ⟨relayAll_ris _ _ _, relayAll_led _ _ _⟩
  · rw [if_neg c]
    exact ⟨r, rfl⟩
theorem add_walk {h : Int} {v : Value} {D : SD} (r : Ris D.2.2.place.toList) : Ris (addTx h v D).2.2.place.toList ∧ (addTx h v D).2.2.led = D.2.2.led := by
  have r1 := layNew_ris D.2.2 D.1 h v r
  have e1 := layNew_led D.2.2 D.1 h v
  unfold addTx
  generalize layNew D.2.2 D.1 h v = L at r1 e1 ⊢
  by_cases c : L.2.1.plain = true
  · rw [if_pos c]
    obtain ⟨z1, z2⟩ := tail_walk (ep := D.2.1) (es := L.1) (t := { L.2.1 with plain := false }) (b := L.2.2.1) r1
    exact ⟨z1, z2.trans e1⟩
  · rw [if_neg c]
    obtain ⟨z1, z2⟩ := tail_walk (ep := D.2.1) (es := L.1) (t := L.2.1) (b := L.2.2.1) r1
    exact ⟨z1, z2.trans e1⟩
section
variable {P : Program} {w : World} {A : Around} {E : Value → Shared → Prop} {s : Shared}
theorem Holds.new {h : Heap} {a : Addr} (ho : h.get? a = some { cls := .type "set", dict := none, data := .set #[] 0 (.fresh 0 0 (!w.params.followText "set-order")) }) : Holds P w h a [] := by
  refine ⟨(#[], 0, .fresh 0 0 (!w.params.followText "set-order")), ho, .nil rfl, List.Pairwise.nil, ?_⟩
  show _ ∨ (!w.params.followText "set-order") = true
  cases w.params.followText "set-order" with
  | true => exact .inl rfl
  | false => exact .inr rfl
/-- a text that is there is not put in again -/
theorem add_old {a : Addr} {D : SD} {l : List Str} {k : Str} {u : Tok} {Q : Bool → Shared → Prop} (ho : s.heap.get? a = some (sObj "set" D)) (F : TxOk P w D l) (old : k ∈ l) (room : l.length + 1 < scanBound) (q : Q false s) :
    wpAny (model P w) A (setAddHashed a (.str k u) (hashStr w k)) Q E s := by
  obtain ⟨es, ep, t⟩ := D
  have few : es.size < scanBound := by
    have := F.sz
    show es.size < _
    have e : es.size = l.length := F.sz
    omega
  obtain ⟨e, he, ek⟩ := (F.mem k).mp old
  unfold setAddHashed setAddHashedIn
  refine wpAny_holding (wpAny_bind (wpAny_setState_of ho rfl F.fit ?_))
  dsimp only
  rw [byScan_of rfl few F.el]
  simp only [↓reduceIte]
  unfold setAddByScan
  refine wpAny_bind (wpAny_bind (wpAny_rule (wpAny_bind (wpAny_setScan_of (knd := strKind P w) (k := k) (is_str k u) ho rfl F.fit F.el ?_))))
  cases f : List.findIdx? (fun e => (strKind P w).is k e.2) es.toList with
  | none =>
    have z := List.findIdx?_eq_none_iff.mp f e he
    rw [ek] at z
    cases z
  | some j => exact wpAny_pure (wpAny_pure q)
theorem Holds.add {a : Addr} {l : List Str} {k : Str} {u : Tok} {Q : Bool → Shared → Prop} (R : Holds P w s.heap a l) (room : l.length + 1 < scanBound)
    (q : ∀ (b : Bool) (h' : Heap), (∀ x o, x ≠ a → s.heap.get? x = some o → h'.get? x = some o) → Holds P w h' a (if k ∈ l then l else k :: l) → Q b { s with heap := h' }) : wpAny (model P w) A (setAddHashed a (.str k u) (hashStr w k)) Q E s := by
  obtain ⟨D, ho, F, r, d⟩ := R
  by_cases old : k ∈ l
  · exact add_old ho F old room (q false s.heap (fun _ _ _ z => z) (by rw [if_pos old]; exact ⟨D, ho, F, r, d⟩))
  · refine add_x ho F old room (q true _ (fun x o n z => (Heap.get?_update_other _ _ (Ne.symm n)).trans z) ?_)
    rw [if_neg old]
    refine ⟨_, get_upd _ ho rfl, add_ok u F, (add_walk r).1, ?_⟩
    rw [(add_walk r).2]
    exact d
end
end SetTx
end
/-! ### SetTx2 -/
section
set_option Elab.async false
set_option linter.all false
set_option maxRecDepth 100000
set_option maxHeartbeats 4000000
/-! set(t) of a tuple of texts. -/
namespace SetTx
open PySem PySem.Spec PyProof.Rows L2 PySem.Froz
section
variable {P : Program} {w : World} {A : Around} {E : Value → Shared → Prop} {s : Shared}
theorem Holds.stay {h h' : Heap} {a : Addr} {l : List Str} (R : Holds P w h a l) (k : ∀ o, h.get? a = some o → h'.get? a = some o) : Holds P w h' a l := let ⟨D, ho, z⟩ := R; ⟨D, k _ ho, z⟩
theorem fill {I S : Addr} {fp wr : List Addr} {G : Array GenState → Array GenState → Prop} {n : Nat} {Pv : Nat → Value → Prop} {St : Nat → Shared → Prop} {R : Result → Shared → Prop} (W : WalksS P w A.in1 I fp wr G n Pv St) (far : S ∉ fp) {zs : List Str} (size : n = zs.length) (room : zs.length + 1 < scanBound)
    (val : ∀ i v, Pv i v → ∃ z t, zs[i]? = some z ∧ v = .str z t) (i : Nat) (s : Shared) (l : List Str) (le : i ≤ n) (st : St i s) (few : l.length ≤ i) (nd : l.Nodup) (mem : ∀ z, z ∈ l ↔ z ∈ zs.take i) (H : Holds P w s.heap S l)
    (fin : ∀ s' l', Moved (S :: wr) G s s' → l'.length ≤ n → l'.Nodup → (∀ z, z ∈ l' ↔ z ∈ zs) → Holds P w s'.heap S l' → R (.ok (.ret .none)) s') : codeAny (model P w) A (.builtin "set.update.loop" ⟨[.ref S, .ref I], []⟩) R s := by
  have out : S ∉ wr := fun z => far (W.sub _ z)
  have more : ∀ b ∈ wr, b ∈ S :: wr := fun b z => List.mem_cons_of_mem _ z
  refine codeAny_builtin F.entry_set_update_loop ?_
  rw [Around.under_plainId F.plain_set_update_loop _]
  show wpAny _ A.in1 (pyNext (.ref I) >>= _) _ _ s
  by_cases lt : i < n
  · refine wpAny_bind (W.item i s _ _ lt st fun v s1 hv st1 mv => ?_)
    obtain ⟨z, t, hz, rfl⟩ := val i v hv
    show wpAny _ A.in1 (holding [Value.str z t] (setAdd S (.str z t)) >>= _) _ _ s1
    refine wpAny_bind (wpAny_holding ?_)
    unfold setAdd
    refine wpAny_holding (wpAny_bind ((strKind P w).pyHash (k := z) (is_str z t) ?_))
    refine Holds.add (s := { s1 with toks := s1.toks + 1 }) (H.stay fun o e => mv.heap S o out e) (by omega) fun b h2 kp H2 => ?_
    have mem2 : ∀ y, y ∈ (if z ∈ l then l else z :: l) ↔ y ∈ zs.take (i + 1) := fun y => by
      rw [List.take_add_one, hz]
      split
      · rename_i old
        rw [mem y, List.mem_append]
        exact ⟨.inl, fun q => q.elim id fun q => by rw [List.mem_singleton.mp q]; exact (mem z).mp old⟩
      · rw [List.mem_cons, List.mem_append, mem y]
        exact ⟨fun q => q.elim (fun q => .inr (List.mem_singleton.mpr q)) .inl, fun q => q.elim .inr fun q => .inl (List.mem_singleton.mp q)⟩
    have nd2 : (if z ∈ l then l else z :: l).Nodup := by
      split
      · exact nd
      · rename_i new
        exact List.nodup_cons.mpr ⟨new, nd⟩
    have few2 : (if z ∈ l then l else z :: l).length ≤ i + 1 := by
      split
      · omega
      · rw [List.length_cons]
        omega
    refine wpAny_pure ⟨plainId_quiet F.plain_set_update_loop _, fill W far size room val (i + 1) _ _ lt (W.frame _ s1 _ _ st1 (Nat.le_succ _) fun b hb o e => kp b o (fun z => far (z ▸ hb)) e) few2 nd2 mem2 H2 fun s3 l3 mv3 a1 a2 a3 a4 => fin s3 l3 (Moved.trans W.gtrans ((mv.mono more).then_heap (Nat.le_succ _) fun b o hb e => kp b o (fun z => hb (z ▸ List.mem_cons_self)) e) mv3) a1 a2 a3 a4⟩
  · refine wpAny_bind (m := pyNext (.ref I)) ?_
    have e : i = n := by omega
    subst e
    refine W.done s _ _ st fun s1 mv => ?_
    show wpAny _ A.in1 (ret Value.none) _ _ s1
    rw [List.take_of_length_le (by omega)] at mem
    exact wpAny_pure (fin s1 l (mv.mono more) few nd mem (H.stay fun o e => mv.heap S o out e))
  termination_by n - i
theorem L2S.strs_get : ∀ {us : List Value} {zs : List Str}, StrsAre us zs → ∀ (i : Nat) (v : Value), us[i]? = some v → ∃ t, ∀ lt : i < zs.length, v = .str zs[i] t
  | _, _, .nil, i, v, h => by cases h
  | _, _, .cons z t r, 0, v, h => ⟨t, fun _ => (Option.some.inj h).symm⟩
  | _, _, .cons z t r, i + 1, v, h => by
    obtain ⟨t', e⟩ := L2S.strs_get r i v (by simpa using h)
    exact ⟨t', fun lt => e (Nat.lt_of_succ_lt_succ lt)⟩
abbrev freshSet (w : World) : Obj := { cls := .type "set", dict := none, data := .set #[] 0 (.fresh 0 0 (!w.params.followText "set-order")) }
theorem call_set_txt {a : Addr} {items : Array Value} {zs : List Str} {Q : Value → Shared → Prop} (hh : A.handled = none) (ht : s.heap.IsTuple a items) (its : StrsAre items.toList zs) (room : zs.length + 1 < scanBound)
    (q : ∀ (h' : Heap) (tk : Nat) (l : List Str), (∀ b o, s.heap.get? b = some o → h'.get? b = some o) → Holds P w h' s.heap.objs.size l → l.Nodup → (∀ z, z ∈ l ↔ z ∈ zs) → l.length ≤ zs.length → Q (.ref s.heap.objs.size) { s with heap := h', toks := tk }) :
    wpAny (model P w) A (call (.type "set") [.ref a]) Q E s := by
  have size : items.size = zs.length := by
    have z := StrsAre.length its
    rw [Array.length_toList] at z
    exact z
  obtain ⟨c0, tl0, mro0⟩ := F.called_set.mro
  have mk0 := F.called_set.made
  have sb0 := F.called_set.sub
  have nt0 := F.called_set.notType
  have cc0 := F.called_set.canCreate
  have tc0 := F.typeCall_set_1 (.ref a)
  refine wpAny_call (codeAny_of_tree (show wpAny _ _ (callAny (.type "set") _) _ _ _ from wpAny_pure ⟨Code.quiet_builtin _ (by decide +kernel), codeAny_builtin F.entry_type_call ?_⟩))
  rw [Around.under_plain (weight_type_call_type "set" [.ref a] []) rfl]
  repeat (any_goals (first | assumption | wp_step))
  refine codeAny_mono (code_set_led1 (.ref a) (E := E) (Q₁ := fun obj s₁ => obj = .ref s.heap.objs.size ∧ s₁ = { s with heap := s.heap.push (freshSet w) }) ⟨rfl, rfl⟩) fun r s₁ hr => ?_
  match r, hr with
  | .error e, hr => exact hr
  | .ok (.ret obj), hr =>
    obtain ⟨rfl, rfl⟩ := hr
    have hS : (s.heap.push (freshSet w)).get? s.heap.objs.size = some (freshSet w) := Heap.get?_push_size _ rfl
    have ty : Shared.TypeIs { s with heap := s.heap.push (freshSet w) } (.ref s.heap.objs.size) "set" := ⟨_, hS, rfl⟩
    have lk0 := F.called_set.init.lookup
    have bd0 := F.called_set.init.bind (.ref s.heap.objs.size)
    repeat (any_goals (first | assumption | wp_step))
    let Got : Shared → Prop := fun s₂ => ∃ (h' : Heap) (tk : Nat) (l : List Str), s₂ = { s with heap := h', toks := tk } ∧ (∀ b o, s.heap.get? b = some o → h'.get? b = some o) ∧ Holds P w h' s.heap.objs.size l ∧ l.Nodup ∧ (∀ z, z ∈ l ↔ z ∈ zs) ∧ l.length ≤ zs.length
    refine codeAny_mono (codeAny_call_builtin (R := wants (fun r s₂ => r = .none ∧ Got s₂) E) F.called_set.init.plain F.entry_set_init (check_set_init_1 ty ?_)) fun r₂ s₂ h₂ => ?_
    · obtain ⟨⟨oc, od, odt, osl⟩, hot, ct, nt, dt⟩ := ht
      simp only at ct dt
      subst ct dt
      have hot1 : (s.heap.push (freshSet w)).get? a = some { cls := .type "tuple", dict := od, data := .seq items nt, slots := osl } := Heap.get?_push_of_some _ hot
      have u1 := F.sub_tuple_set
      have u2 := F.sub_tuple_frozenset
      have u3 : (Value.type "tuple" == Value.type "dict") = false := by decide
      have isT : (s.heap.push (freshSet w)).IsTuple a items := ⟨_, hot1, rfl, nt, rfl⟩
      have aS : a < s.heap.objs.size := Heap.lt_size hot
      unfold Builtin.«set.__init__» noKeywords Builtin.Frozenset.updateFrom
      generalize held : pyIter = PI
      wp_walk
      subst held
      refine wpAny_pyIter_tuple isT (wpAny_bind (wpAny_runValue ?_))
      have sz1 : (s.heap.push (freshSet w)).objs.size = s.heap.objs.size + 1 := Heap.size_push ..
      have apart : a ≠ (s.heap.push (freshSet w)).objs.size := by
        rw [sz1]
        exact Nat.ne_of_lt (Nat.lt_succ_of_lt aS)
      have far : s.heap.objs.size ∉ [(s.heap.push (freshSet w)).objs.size, a] := fun z => by
        rw [sz1] at z
        rcases List.mem_cons.mp z with z | z
        · exact absurd z (Nat.ne_of_lt (Nat.lt_succ_self _))
        · exact absurd (List.mem_singleton.mp z) (Nat.ne_of_gt aS)
      have h3 : A.in1.in1.in1.handled = none := by simp [hh]
      refine fill (Walks.toS (Walks.tuple h3 (s.heap.push (freshSet w)).objs.size a apart items)) far size room (fun i v hv => ?_) 0 _ [] (Nat.zero_le _) ⟨⟨_, Heap.get?_push_size _ rfl, rfl, rfl⟩, isT.push _⟩ (Nat.le_refl _) List.nodup_nil (fun z => by simp) (Holds.new (Heap.get?_push_of_some _ hS)) fun s' l' mv a1 a2 a3 a4 => ?_
      · have lt : i < zs.length := by
          rw [← size]
          exact (Array.getElem?_eq_some_iff.mp hv).1
        obtain ⟨t, e⟩ := L2S.strs_get its i v (by rw [Array.getElem?_toList]; exact hv)
        exact ⟨_, t, List.getElem?_eq_getElem lt, e lt⟩
      · obtain ⟨h', g2, d', tk', os'⟩ := s'
        obtain rfl : g2 = s.gens := mv.gens
        obtain rfl : d' = s.drawn := mv.drawn
        obtain rfl : os' = s.os := mv.os
        show wpAny _ _ _ _ _ _
        refine wpAny_pure ?_
        show wpAny _ _ (ret Value.none) _ _ _
        refine wpAny_pure ⟨rfl, h', tk', l', rfl, fun b o e => ?_, a4, a2, a3, by rw [← size]; exact a1⟩
        have b1 : b < s.heap.objs.size := Heap.lt_size e
        refine mv.heap b o (fun z => ?_) (Heap.get?_push_of_some _ (Heap.get?_push_of_some _ e))
        rcases List.mem_cons.mp z with z | z
        · exact absurd z (Nat.ne_of_lt b1)
        · have z2 := List.mem_singleton.mp z
          rw [sz1] at z2
          exact absurd z2 (Nat.ne_of_lt (Nat.lt_succ_of_lt b1))
    · match r₂, h₂ with
      | .error e, h₂ => exact h₂
      | .ok (.ret r), h₂ =>
        obtain ⟨rfl, h', tk, l, rfl, k1, k2, k3, k4, k5⟩ := h₂
        repeat (any_goals (first | assumption | wp_step))
        exact q _ _ _ k1 k2 k3 k4 k5
end
end SetTx
end
/-! ### SetTx3 -/
section
set_option Elab.async false
set_option linter.all false
set_option maxRecDepth 100000
set_option maxHeartbeats 4000000
/-! sorted(s) of a set of texts. -/
namespace SetTx
open PySem PySem.Spec PyProof.Rows L2 PySem.Froz
section
variable {P : Program} {w : World} {A : Around} {E : Value → Shared → Prop} {s : Shared}
theorem perm_of_sub : ∀ (l ks : List Str), l.Nodup → l ⊆ ks → l.length = ks.length → l.Perm ks
  | [], ks, _, _, e => by
    have z : ks = [] := List.eq_nil_of_length_eq_zero e.symm
    rw [z]
  | a :: l, ks, nd, sub, e => by
    have m : a ∈ ks := sub (List.mem_cons_self ..)
    have n := List.nodup_cons.mp nd
    refine List.Perm.trans (List.Perm.cons a (perm_of_sub l (ks.erase a) n.2 (fun x hx => ?_) ?_)) (List.perm_cons_erase m).symm
    · have ne : x ≠ a := fun q => n.1 (q ▸ hx)
      exact (List.mem_erase_of_ne ne).mpr (sub (List.mem_cons_of_mem _ hx))
    · rw [List.length_erase_of_mem m, ← e]
      rfl
theorem elem_str {D : SD} {l : List Str} (F : TxOk P w D l) : ∀ e ∈ D.1.toList, ∃ k t, e.2 = .str k t := fun e he => by
  obtain ⟨⟨k, hk, _⟩, _⟩ := F.el e he
  have z : Value.isStrOf k e.2 = true := hk
  cases q : e.2 with
  | str y t => exact ⟨y, t, rfl⟩
  | _ => rw [q] at z; cases z
theorem keys_perm {D : SD} {l : List Str} (F : TxOk P w D l) (nd : l.Nodup) : (D.1.toList.map fun e => PyProof.Rows.strOf e.2).Perm l := by
  have sub : l ⊆ D.1.toList.map fun e => PyProof.Rows.strOf e.2 := fun k hk => by
    obtain ⟨e, he, ek⟩ := (F.mem k).mp hk
    obtain ⟨y, t, e2⟩ := elem_str F e he
    have z : Value.isStrOf k e.2 = true := ek
    rw [e2] at z
    refine List.mem_map.mpr ⟨e, he, ?_⟩
    rw [e2]
    show y = k
    simp [Value.isStrOf] at z
    exact z
  refine (perm_of_sub l _ nd sub ?_).symm
  rw [List.length_map]
  exact F.sz.symm
theorem sorted_txt {a : Addr} {l : List Str} {Q : Value → Shared → Prop} (R : Holds P w s.heap a l) (nd : l.Nodup) (hh : A.handled = none) (few : l.length < 1000)
    (q : ∀ s' p (out : Array Value) (c : Nat) (ys : List Str), (∀ b o, s.heap.get? b = some o → s'.heap.get? b = some o) → s'.gens = s.gens → s'.os = s.os → s.heap.objs.size ≤ p → s'.heap.get? p = some (seqObj "list" out c) → StrsAre out.toList ys → ys.Perm l → sortedS ys = true → Q (.ref p) s') :
    wpAny (model P w) A (call (.builtin "sorted") [.ref a]) Q E s := by
  obtain ⟨D, ho, F, r, d⟩ := R
  have big : D.1.size < scanBound := by
    rw [F.sz]
    exact Nat.lt_of_lt_of_le few (by decide)
  refine Calls.call_function_entry kind_sorted plain_sorted entry_sorted (args_sorted1 _) ?_
  unfold Builtin.«sorted»
  refine wpAny_bind (m := checkCount "sorted" 1 1 _) (wpAny_pure (wpAny_bind (collect_set (A := A.in1) (es := D.1) (ep := D.2.1) (t := D.2.2) hh ⟨_, ho, rfl, rfl⟩ F.fit big r d fun s1 vs k1 sz g1 o1 pm => ?_)))
  have vl : vs.length = l.length := by rw [pm.length_eq, List.length_map, Array.length_toList]; exact F.sz
  have all : ∀ v, v ∈ vs → ∃ x t, v = .str x t := fun v hv => by
    obtain ⟨e, he, e2⟩ := List.mem_map.mp (pm.mem_iff.mp hv)
    obtain ⟨y, t, e3⟩ := elem_str F e he
    exact ⟨y, t, by rw [← e2]; exact e3⟩
  have are := strsAre_map vs all
  have pk : (vs.map PyProof.Rows.strOf).Perm l := by
    have z := pm.map PyProof.Rows.strOf
    rw [List.map_map] at z
    exact z.trans (keys_perm F nd)
  have line : vs.length ≤ sizeLine := by rw [vl, sizeLine_eq]; omega
  refine wpAny_bind (wpAny_newList ?_ line)
  have hoL : (s1.heap.push (seqObj "list" vs.toArray 0)).get? s1.heap.objs.size = some (seqObj "list" vs.toArray 0) := Heap.get?_push_size _ rfl
  refine wpAny_bind (wpAny_holding (wpAny_call_entry slot_list_sort ⟨_, hoL, rfl⟩ entry_list_sort (list_sort_treeKAny strKind_oneLt hoL are.keysOf (fun v₁ v₂ rest e => keyKind_strs (by rw [← e]; exact are)) line fun st' hp hs => ⟨_, rfl, ?_⟩) (args_list_sort _)))
  obtain ⟨ys, b1, b2, b3⟩ := sorted_out_str are hp hs
  obtain ⟨c, hc⟩ := sortedHeap_at (vs := vs) (out := (arrOf st').map (·.2)) hoL
  refine wpAny_pure ⟨_, rfl, q _ s1.heap.objs.size _ c ys (fun b u e => ?_) g1 o1 sz hc b1 (b2.trans pk) b3⟩
  have z := k1 b u e
  have lt := Heap.lt_size z
  show (sortedHeap (s1.heap.push (seqObj "list" vs.toArray 0)) s1.heap.objs.size vs _).get? b = some u
  rw [sortedHeap_old (Nat.ne_of_lt lt) (by rw [size_push']; exact Nat.lt_succ_of_lt lt)]
  exact Heap.get?_push_of_some _ z
end
end SetTx
end
/-! ### SetTx4 -/
section
set_option Elab.async false
set_option linter.all false
set_option maxRecDepth 100000
set_option maxHeartbeats 4000000
/-! set(t), sorted(s) of texts as calls over the abstract heap. -/
namespace SetTx
open PySem PySem.Spec PyProof.Rows L2
def TxO (P : Program) (w : World) (a : Addr) (l : List Str) : HO := .ext fun h => Holds P w h a l
theorem txO_new {P : Program} {w : World} {H : Hp} {h : Heap} {a : Addr} {l : List Str} (R : Holds P w h a l) : ObjOk P w H h a (TxO P w a l) := by
  have ⟨D, ho, _⟩ := R
  exact ⟨R, ⟨_, ho⟩, fun h1 h2 p k => p.stay k⟩
section
variable {X : Cx}
def rSetTx (K : PySem.W.Frag) (P : Program) (w : World) : List V → Hp → VK → Prop := fun xs H Q => ∃ (t : Addr) (zs : List Str), xs = [V.ref t] ∧ SqT K H t (zs.map V.str) ∧ zs.length < 1000 ∧
  ∀ a l, H a = none → l.Nodup → (∀ z, z ∈ l ↔ z ∈ zs) → l.length ≤ zs.length → Q (.ref a) (upd H a (TxO P w a l))
theorem cr_setTx (hc : X.calm = true) : CallR X (.type "set") (rSetTx X.K X.prog X.w) := by
  intro pins s σ H xs us Q I r h
  obtain ⟨t, zs, rfl, ht, hl, q⟩ := h
  rw [Vals.ref1 r]
  obtain ⟨its, rv, pl, hz⟩ := I.tuple ht
  have hn : H s.heap.objs.size = none := I.hok.fresh (Nat.le_refl _)
  refine call_set_txt (P := X.prog) (w := X.w) (zs := zs) (I.ok.hd hc) pl (by simpa using rv.strs) (by show _ < 4096; omega) fun h' tk l k R nd mem le => ?_
  exact ⟨.ref s.heap.objs.size, upd H s.heap.objs.size (TxO X.prog X.w s.heap.objs.size l), I.laid (t' := tk) k (Nat.le_refl _) (txO_new R), rfl, q _ l hn nd mem le⟩
def rSortedTx (P : Program) (w : World) : List V → Hp → VK → Prop := fun vs H Q => ∃ (a : Addr) (l : List Str), vs = [V.ref a] ∧ H a = some (TxO P w a l) ∧ l.Nodup ∧ l.length < 1000 ∧
  ∀ (ys : List Str) (p : Addr), ys.Perm l → sortedS ys = true → H p = none → Q (.ref p) (upd H p (.lst (ys.map V.str)))
theorem cr_sortedTx (hc : X.calm = true) : CallR X (.builtin "sorted") (rSortedTx X.prog X.w) := by
  intro pins s σ H vs us Q I r h
  obtain ⟨a, l, rfl, ha, nd, few, q⟩ := h
  have R : Holds X.prog X.w s.heap a l := (I.hok a _ ha).1
  rw [Vals.ref1 r]
  refine sorted_txt R nd (I.ok.hd hc) few fun s' p out c ys k g o hp hg hs pm so => ?_
  have hlen : (ys.map V.str).length ≤ sizeLine := by rw [List.length_map, pm.length_eq, sizeLine_eq]; omega
  have hn : H p = none := I.hok.fresh hp
  have J : Inv X pins σ (upd H p (.lst (ys.map V.str))) { s with heap := s'.heap, gens := s'.gens, drawn := s'.drawn, toks := s'.toks } :=
    I.call (ch := []) (Un.laid k hp hn) (I.hok.laid k hp ⟨hlen, out.toList, c, vals_of_strs hs, hg⟩) (by rw [g]; exact I.bare) (fun _ z => nomatch z)
  have e : s' = { s with heap := s'.heap, gens := s'.gens, drawn := s'.drawn, toks := s'.toks } := by
    cases s'
    cases s
    cases o
    rfl
  rw [e]
  exact ⟨.ref p, _, J, rfl, q ys p pm so hn⟩
end
end SetTx
end
/-! ### HD -/
section
set_option Elab.async false
set_option linter.all false
set_option maxRecDepth 100000
set_option maxHeartbeats 4000000
/-! A cleaner stands beside the dice. -/
namespace K0
open PySem PySem.Spec PyProof.Rows L2 LamX
open MD (dM KeysV KeyV)
section
variable {K : PySem.W.Frag} {w : World} {H : Hp} {p : Addr}
theorem sqt_hidD {a : Addr} {xs : List V} (d : Dice p H) (h : SqT K H a xs) : SqT K (hid p H) a xs := by
  obtain ⟨i, j, k, e⟩ := d
  rcases h with (h | ⟨o, h⟩) | h
  · exact .inl (.inl (by rw [hid_ne fun z => by rw [z, e] at h; cases h]; exact h))
  · exact .inl (.inr ⟨o, by rw [hid_ne fun z => by rw [z, e] at h; cases h]; exact h⟩)
  · exact .inr h
mutual
theorem keyV_hidD (d : Dice p H) : ∀ (k : MD.NK) (v : V), KeyV K H v k → KeyV K (hid p H) v k
  | .tup ks, _, h => by
    cases h with
    | atom q => exact .atom q
    | tup h1 h2 => exact .tup (sqt_hidD d h1) (keyVs_hidD d ks _ h2)
  | .none, _, h => by cases h with | atom q => exact .atom q
  | .num _, _, h => by cases h with | atom q => exact .atom q
  | .text _, _, h => by cases h with | atom q => exact .atom q
theorem keyVs_hidD (d : Dice p H) : ∀ (ks : List MD.NK) (vs : List V), MD.KeyVs K H vs ks → MD.KeyVs K (hid p H) vs ks
  | [], _, h => by cases h; exact .nil
  | k :: ks, _, h => by cases h with | cons h1 h2 => exact .cons (keyV_hidD d k _ h1) (keyVs_hidD d ks _ h2)
end
theorem keptRow_hidD (d : Dice p H) {T : Addr} : ∀ {s : StD}, KeptRow K w H T s → KeptRow K w (hid p H) T s
  | .bad, h => h
  | .good rs ys ds, h => by
    obtain ⟨m, rows, h1, h2, h3, h4⟩ := h
    refine ⟨m, rows, sqt_hidD d h1, ?_, h3, fun q mq => ⟨keyV_hidD d _ _ (h4 q mq).1, (h4 q mq).2⟩⟩
    obtain ⟨i, j, k, e⟩ := d
    rw [hid_ne fun z => by rw [z, e] at h2; cases h2]
    exact h2
theorem keptAt_hidD (d : Dice p H) {t : Addr} {ss : List StD} (h : KeptAt K w H t ss) : KeptAt K w (hid p H) t ss := by
  obtain ⟨Ts, h1, h2⟩ := h
  exact ⟨Ts, sqt_hidD d h1, pairedI2 (fun _ _ z => keptRow_hidD d z) h2⟩
theorem cleaner_hidD (d : Dice p H) {C x : Addr} {ws ls : List StD} {fv : V} (h : CleanerAt K w C H x ws ls fv) : CleanerAt K w C (hid p H) x ws ls fv := by
  obtain ⟨dx, tw, tl, to, h1, h2, h3⟩ := h
  refine ⟨dx, tw, tl, to, ?_, keptAt_hidD d h2, keptAt_hidD d h3⟩
  obtain ⟨i, j, k, e⟩ := d
  rw [hid_ne fun z => by rw [z, e] at h1; cases h1]
  exact h1
end
end K0
end
/-! ### RTK -/
section
set_option Elab.async false
set_option linter.all false
set_option maxRecDepth 100000
set_option maxHeartbeats 4000000
/-! _law_right. -/
namespace K0
open PySem PySem.Spec PyProof.Rows L2 LamX
abbrev rtN : List Str := ["dice", "signs", "cleaner", "made", "same", "more", "text", "turn", "odd", "told"]
abbrev rtQ : Str := "_law_right" ++ ".<locals>." ++ "<lambda>"
theorem scRightK : FnScope rtN ["dice"] (defScope (top iRight)) := ⟨rfl, rfl, rfl, by decide +kernel, rfl, by decide +kernel, by decide +kernel⟩
def spRightK (T : List (Addr × Str)) : Sp := fun vs H Q _ => ∃ (p : Addr), vs = [.ref p] ∧ Dice p H ∧ Tabs T H ∧ ∀ H', KN p T H H' → Q (.bl true) H'
structure RS (K : PySem.W.Frag) (w : World) (C p : Addr) (T : List (Addr × Str)) (sg t x y mo : Addr) (cs es : List Nat) (ws ls : List StD) (ds : List PyData) (zs : List V) (H : Hp) : Prop where
  d : Dice p H
  tb : Tabs T H
  pl : PlainAt K w (hid p H) t ws ls ds zs
  mx : ClR K w C (hid p H) x ws ls ds zs
  my : ClR K w C (hid p H) y ws ls ds zs
  ts : SqT K (hid p H) sg (cs.map oneV)
  tm : SqT K (hid p H) mo (es.map oneV)
theorem RS.kn {K : PySem.W.Frag} {w : World} {C p : Addr} {T : List (Addr × Str)} {sg t x y mo : Addr} {cs es : List Nat} {ws ls : List StD} {ds : List PyData} {zs : List V} {H H' : Hp} (h : RS K w C p T sg t x y mo cs es ws ls ds zs H) (k : KN p T H H') : RS K w C p T sg t x y mo cs es ws ls ds zs H' :=
  ⟨k.d, k.t, h.pl.ext k.hid, h.mx.ext k.hid, h.my.ext k.hid, sqt_ext h.ts k.hid, sqt_ext h.tm k.hid⟩
theorem RS.same {K : PySem.W.Frag} {w : World} {C p : Addr} {T : List (Addr × Str)} {sg t x y mo : Addr} {cs es : List Nat} {ws ls : List StD} {ds : List PyData} {zs : List V} {H H' : Hp} (h : RS K w C p T sg t x y mo cs es ws ls ds zs H) (k : Same H H') : RS K w C p T sg t x y mo cs es ws ls ds zs H' := h.kn ((KN.refl h.d h.tb).same k)
theorem WildAt.ext {K : PySem.W.Frag} {w : World} {H H1 : Hp} {t R B S : Addr} {xs ys zs : List V} {ws ls : List StD} {ds : List PyData} (h : WildAt K w H t R B S xs ys zs ws ls ds) (e : ExtN H H1) : WildAt K w H1 t R B S xs ys zs ws ls ds :=
  ⟨sqt_ext h.tup e, sql_ext h.rl e, sql_ext h.bl e, sql_ext h.sl e, pairedI2 (fun _ _ z => z.dat.same (dat_ext e)) h.rows, pairedI2 (fun _ _ z => z.dat.same (dat_ext e)) h.back, DvAll.same (dat_ext e) _ _ (dvAll_dat h.starts)⟩
theorem KN.put {p l : Addr} {T : List (Addr × Str)} {H G : Hp} {xs : List V} {o : HO} (k : KN p T H G) (n : ∀ o, H l = some o → ∃ ps, o = .tbl ps) (e : G l = some (.lst xs)) (np : l ≠ p) : KN p T H (upd G l o) :=
  ⟨fun b u hb nt z => by
    rw [upd_ne fun e => by
      rw [e] at z
      obtain ⟨ps, y⟩ := n u z
      exact nt ps y]
    exact k.k b u hb nt z, by
    obtain ⟨i, j, m, z⟩ := k.d
    exact ⟨i, j, m, by rw [upd_ne np.symm]; exact z⟩, tabs_putL e k.t⟩
theorem ArgA.ext {K : PySem.W.Frag} {C : Addr} {H H' : Hp} {v : V} {d : PyData} (h : ArgA K C H v d) (e : ExtN H H') : ArgA K C H' v d := by
  rcases h with ⟨h, b⟩ | ⟨hd, x, dx, fs, h1, h2⟩
  · exact .inl ⟨(dv_dat h).same' (dat_ext e), b⟩
  · exact .inr ⟨hd, x, dx, fs, h1, e _ _ h2 fun _ z => by cases z⟩
theorem ones_of : ∀ {ys : List Str}, (∀ z ∈ ys, ∃ c, z = oneS c ∧ c ∈ allSigns.cps.toList) → ∃ es : List Nat, ys = es.map oneS ∧ ∀ c ∈ es, c ∈ allSigns.cps.toList
  | [], _ => ⟨[], rfl, fun _ m => nomatch m⟩
  | y :: ys, h => by
    obtain ⟨c, rfl, hc⟩ := h y List.mem_cons_self
    obtain ⟨es, rfl, he⟩ := ones_of fun z m => h z (List.mem_cons_of_mem _ m)
    exact ⟨c :: es, rfl, fun e m => (List.mem_cons.mp m).elim (fun z => by rw [z]; exact hc) (he e)⟩
theorem level_sg {cs : List Nat} (mem : ∀ c ∈ cs, c ∈ allSigns.cps.toList) : ∀ (k : Nat), ∀ z ∈ level cs k, sgAll z = true
  | 0, z, m => by
    rw [List.mem_singleton.mp m]
    rfl
  | k + 1, z, m => by
    obtain ⟨u, hu, hc⟩ := List.mem_flatMap.mp m
    obtain ⟨c, hc2, rfl⟩ := List.mem_map.mp hc
    exact app_sg (level_sg mem k u hu) (sg_one (mem c hc2))
theorem pre_ok {cs : List Nat} (mem : ∀ c ∈ cs, c ∈ allSigns.cps.toList) : ∀ (k : Nat), ∀ z ∈ pre cs k, sgAll z = true ∧ z.length + 1 ≤ k
  | 0, z, m => nomatch m
  | k + 1, z, m => by
    rcases List.mem_append.mp m with m | m
    · have := pre_ok mem k z m
      exact ⟨this.1, by omega⟩
    · exact ⟨level_sg mem k z m, by rw [level_size k z m]; exact Nat.le_refl _⟩
theorem texts_ok {cs : List Nat} (mem : ∀ c ∈ cs, c ∈ allSigns.cps.toList) {k : Nat} (h : k ≤ 4) : ∀ z ∈ textsTo cs k, sgAll z = true ∧ z.length ≤ 4 := fun z m => by
  have := pre_ok mem (k + 1) z m
  exact ⟨this.1, by omega⟩
namespace J
section
variable {P : Program} {w : World} {K : PySem.W.Frag} {mg : Str → Option Value} {base : Heap} {f fS fR fO fA fCl fMk fI fT fW6 fM fL gW gV gC gH C CT c PR : Addr} {fd fdS fdR fdO fdA fdCl fdMk fdI fdT fdW6 fdM fdL fdW fdV : FuncData} {T : List (Addr × Str)}
theorem ok_right {k : Nat} (F : FnP K "_law_right" iRight f fd) (hcode : fd.code = .ref c) (TB : TabB base mg c PR) (hmT : (PR, rtQ) ∈ T) (hu : ∀ x ∈ T, x.1 = PR → x.2 = rtQ) (CK : ClK K C) (W : ClW K C gW gV gC gH) (mrange : mg "range" = none) (mtup : mg "tuple" = none) (msorted : mg "sorted" = none) (mset : mg "set" = none) (mlen : mg "len" = none)
    (FS : FnOk P w K mg base CX0 (k + 11) fS fdS ["dice", "upto"] spSigns) (gS : mg "_law_signs" = some (.ref fS)) (kS : PySem.W.keepIn K (.ref fS) = true) (bS : Binds K fdS ["dice", "upto"] [])
    (FR : FnOk P w K mg base CX0 (k + 11) fR fdR ["dice", "total"] spRoll) (gR : mg "_law_roll" = some (.ref fR)) (kR : PySem.W.keepIn K (.ref fR) = true) (bR : Binds K fdR ["dice", "total"] [])
    (FO : FnOk P w K mg base CX0 (k + 11) fO fdO ["dice", "items"] (spOne K)) (gO : mg "_law_one_of" = some (.ref fO)) (kO : PySem.W.keepIn K (.ref fO) = true) (bO : Binds K fdO ["dice", "items"] [])
    (FA : FnOk P w K mg base CX0 (k + 11) fA fdA [] spAll) (gA : mg "_law_all_signs" = some (.ref fA)) (kA : PySem.W.keepIn K (.ref fA) = true) (bA : Binds K fdA [] [])
    (FCl : FnOk P w K mg base CX0 (k + 11) fCl fdCl ["dice", "signs"] (spWild K w)) (gCl : mg "_law_cleaner" = some (.ref fCl)) (kCl : PySem.W.keepIn K (.ref fCl) = true) (bCl : Binds K fdCl ["dice", "signs"] [])
    (FMk : FnG P w K mg base CX0 (k + 11) fMk fdMk ["cleaner"] (spMadeC K w C T)) (gMk : mg "_law_made_cleaner" = some (.ref fMk)) (kMk : PySem.W.keepIn K (.ref fMk) = true) (bMk : Binds K fdMk ["cleaner"] [])
    (FI : FnG P w K mg base CX0 (k + 11) fI fdI ["made", "cleaner", "text"] (spIsR K w C)) (gI : mg "_law_is_right" = some (.ref fI)) (kI : PySem.W.keepIn K (.ref fI) = true) (bI : Binds K fdI ["made", "cleaner", "text"] [])
    (FT : FnOk P w K mg base CX0 (k + 11) fT fdT ["signs", "upto"] (spTexts K)) (gT : mg "_law_texts" = some (.ref fT)) (kT : PySem.W.keepIn K (.ref fT) = true) (bT : Binds K fdT ["signs", "upto"] [])
    (FW6 : FnOk P w K mg base CX0 (k + 11) fW6 fdW6 ["dice", "signs", "upto"] (spLWord6 K)) (gW6 : mg "_law_word" = some (.ref fW6)) (kW6 : PySem.W.keepIn K (.ref fW6) = true) (bW6 : Binds K fdW6 ["dice", "signs", "upto"] [])
    (FM : FnP K "_law_met" iMet fM fdM) (gM : mg "_law_met" = some (.ref fM)) (bM : Binds K fdM ["call"] []) (gIT : mg "InvalidText" = some (.ref CT)) (eT : PySem.W.exmOne K (.ref CT) (.ref CT) = some true)
    (FL : FnG P w K mg base CX0 (k + 11) fL fdL ["dice", "made", "cleaner", "signs"] (spLong K w C T)) (gL : mg "_law_long_right" = some (.ref fL)) (kL : PySem.W.keepIn K (.ref fL) = true) (bL : Binds K fdL ["dice", "made", "cleaner", "signs"] [])
    (FWk : FnOk P w K mg base (L2.CX P w) (k + 9) gW fdW ["self", "text"] (spMeth K w C CT (rWalk K))) (bW : Binds K fdW ["self", "text"] [])
    (FV : FnOk P w K mg base (L2.CX P w) (k + 9) gV fdV ["self", "text"] (spMeth K w C CT (rViews K))) (bV : Binds K fdV ["self", "text"] [])
    (FC : FnR P w K mg base (L2.CX P w) (k + 9) gC (spMeth K w C CT rRes)) (FH : FnR P w K mg base CX0 (k + 9) gH (spHas K w C)) :
    FnG P w K mg base CX0 (k + 12) f fd ["dice"] (spRightK T) := by
  refine fnG_ofC F scRightK (fun vs H Q E h => ?_) (fun cdv hc A outer s H vs Q E gd hr h => ?_)
  · obtain ⟨p, rfl, _⟩ := h
    rfl
  · obtain ⟨p, rfl, d0, tabs, q⟩ := h
    obtain rfl : cdv = .ref c := hc.symm.trans hcode
    obtain ⟨oc, od, dV, kV, doc, pm, an, cdw, ct, osl, rfl, lkM, codeM, _, _⟩ := FM.ex
    have hr9 := Room.mono hr (show k + 9 ≤ k + 11 by omega)
    have ps : ∀ {A' : Around} {outer' : List Env} {s' : Shared} {H' : Hp} {E' : XK} {f' c' : Addr} {scope : Scope}, Passes (L2.CX P w) (lamCx (cxOf CX0 P w K mg base rtN "_law_right" (defScope (top iRight)) f (.ref c) A outer s H E).nox A' outer' s' H' E' scope f' c') E' := passes_call (takes_of rfl rfl rfl rfl) fun _ _ _ _ h => h
    refine ⟨_, PSs.nox (C8.pss_cut (ps_set (i := 1) scRightK.nd rfl (.inl rfl) (pe_call FS hr (by rfl) gS kS bS .nil pass0 (pa_cons (pv 0) (pa_cons pe_int pa_nil))))
      (C8.pss_cut (ps_set (i := 2) scRightK.nd rfl (.inl rfl) (pe_call FCl hr (by rfl) gCl kCl bCl .nil pass0 (pa_cons (pv 0) (pa_cons (pv 1) pa_nil))))
      (C8.pss_cut (ps_asg (pe_tup (pa_cons (peG FMk gd hr (by rfl) gMk kMk bMk pass0 (pa_cons (pv 2) pa_nil)) (pa_cons (peG FMk gd hr (by rfl) gMk kMk bMk pass0 (pa_cons (pv 2) pa_nil)) pa_nil))) (pg_tup rfl (pgs_cons (pg_name (i := 3) scRightK.nd rfl (.inr rfl)) (pgs_cons (pg_name (i := 4) scRightK.nd rfl (.inl rfl)) pgs_nil))))
      (C8.pss_cut (ps_set (i := 5) scRightK.nd rfl (.inl rfl) (pe_callTy call_tuple_of (by rfl) mtup (by decide +kernel) (pa_cons (pe_callB (SetTx.cr_sortedTx rfl) (by rfl) msorted (by decide +kernel) (pa_cons (pe_callTy (SetTx.cr_setTx rfl) (by rfl) mset (by decide +kernel) (pa_cons
          (pe_op op_catT (pv 1) (pe_tup (pa_cons (pe_call FO hr (by rfl) gO kO bO .nil pass0 (pa_cons (pv 0) (pa_cons (pe_call0 FA hr (by rfl) gA kA bA .nil pass0) pa_nil))) pa_nil))) pa_nil)) pa_nil)) pa_nil)))
      (C8.pss_cut (ps_for PassesOwn.never rfl (pi_list (pe_call FT hr (by rfl) gT kT bT .nil pass0 (pa_cons (pv 5) (pa_cons (pe_ifExp (pt_cmpR op_lt (pe_callB call_len_seq (by rfl) mlen PySem.boot_len (pa_cons (pv 5) pa_nil)) pe_int (nomark _)) pe_int pe_int) pa_nil)))) (pg_name (i := 6) scRightK.nd rfl (.inl rfl))
        (pss_one (ps_if (PW.pt (pw_or (pt_not (pt_val (peG FI gd hr (by rfl) gI kI bI pass0 (pa_cons (pv 3) (pa_cons (pv 2) (pa_cons (pv 6) pa_nil)))))) (pw_or1 (pt_cmpR op_ne (OE.pe_callO (E := fun _ _ _ => False) W.call W.callF W.callN FC hr9 (passes_call L2.takes0 fun _ _ _ _ z => z.elim) (pv 4) (pa_cons (pv 6) pa_nil)) (OE.pe_callO (E := fun _ _ _ => False) W.call W.callF W.callN FC hr9 (passes_call L2.takes0 fun _ _ _ _ z => z.elim) (pv 3) (pa_cons (pv 6) pa_nil)) (nomark _))))) (pss_one (ps_ret pe_bl)) pss_nil)))
      (C8.pss_cut (ps_for PassesOwn.never rfl (pi_range1 (by rfl) mrange (pa_cons pe_int pa_nil)) (pg_name (i := 7) scRightK.nd rfl (.inl rfl))
        (pss_cons (ps_set (i := 6) scRightK.nd rfl (.inl rfl) (pe_op op_strMulA (pe_call FW6 hr (by rfl) gW6 kW6 bW6 .nil pass0 (pa_cons (pv 0) (pa_cons (pv 5) (pa_cons pe_int pa_nil)))) (pe_op op_add pe_int (pe_call FR hr (by rfl) gR kR bR .nil pass0 (pa_cons (pv 0) (pa_cons pe_int pa_nil))))))
        (pss_one (ps_if (pt_not (pt_val (peG FI gd hr (by rfl) gI kI bI pass0 (pa_cons (pv 3) (pa_cons (pv 2) (pa_cons (pv 6) pa_nil)))))) (pss_one (ps_ret pe_bl)) pss_nil))))
      (C8.pss_cut (ps_set (i := 8) scRightK.nd rfl (.inr rfl) (pe_call FO hr (by rfl) gO kO bO .nil pass0 (pa_cons (pv 0) (pa_cons (pe_lst (pa_cons pe_non (pa_cons pe_int (pa_cons pe_bl (pa_cons (pe_tup pa_nil) (pa_cons (pe_lst (pa_cons pe_str pa_nil)) (pa_cons (pe_tup (pa_cons pe_str pa_nil)) (pa_cons pe_str (pa_cons pe_str (pa_cons pe_str (pa_cons pe_dnewK (pa_cons (pv 3) pa_nil)))))))))))) pa_nil))))
      (C8.pss_cut (ps_if (pt_cmpR (op_neD hr.units) (pe_lst (pa_cons
          (pe_lamcall (t := fun E' => OE.tCallO C (spMeth K w C CT rRes) E' (tVar 3) (tCons (tVar 8) tNil)) (P := PR) (c := c) (x := "_law_met") (a := "call") (by rfl) gM FM.kp lkM codeM bM scMet rfl (.inl rfl) (met_gives gIT) TB rfl hmT hu hr (lamS_by (sc := defScope (top iRight)) (by decide +kernel)) (by rfl) (fun _ _ _ _ _ => rfl)
            (fun A' o' s' H' E' f' c' hr' => OE.pe_callO W.call W.callF W.callN FC hr' ps (pv 3) (pa_cons (pv 8) pa_nil))) (pa_cons (pe_cmpR (OE.op_inO W.has W.hasF FH hr9 pass0) (pv 8) (pv 3) rfl) pa_nil))) (pe_lst (pa_cons pe_str (pa_cons pe_bl pa_nil))) (nomark _)) (pss_one (ps_ret pe_bl)) pss_nil)
      (C8.pss_cut (ps_set (i := 9) scRightK.nd rfl (.inl rfl) (pe_lst (pa_cons
          (pe_lamcall (t := fun E' => tMeth C "views" (spMeth K w C CT (rViews K)) [] E' (tVar 3) (tCons (tVar 8) tNil)) (P := PR) (c := c) (x := "_law_met") (a := "call") (by rfl) gM FM.kp lkM codeM bM scMet rfl (.inl rfl) (met_gives gIT) TB rfl hmT hu hr (lamS_by (sc := defScope (top iRight)) (by decide +kernel)) (by rfl) (fun _ _ _ _ _ => rfl)
            (fun A' o' s' H' E' f' c' hr' => pe_meth (pv 3) CK.cl W.views FV hr' bV .nil ps (pa_cons (pv 8) pa_nil))) pa_nil)))
      (C8.pss_cut (ps_expr (pe_bm PySem.F.plainAttrs_list PySem.F.slot_list_append PySem.F.type_list_append mt_append (pv 9) (pa_cons
          (pe_lamcall (t := fun E' => tMeth C "walk" (spMeth K w C CT (rWalk K)) [] E' (tVar 3) (tCons (tVar 8) tNil)) (P := PR) (c := c) (x := "_law_met") (a := "call") (by rfl) gM FM.kp lkM codeM bM scMet rfl (.inl rfl) (met_gives gIT) TB rfl hmT hu hr (lamS_by (sc := defScope (top iRight)) (by decide +kernel)) (by rfl) (fun _ _ _ _ _ => rfl)
            (fun A' o' s' H' E' f' c' hr' => pe_meth (pv 3) CK.cl W.walk FWk hr' bW .nil ps (pa_cons (pv 8) pa_nil))) pa_nil)))
      (C8.pss_cut (ps_if (pt_cmpR (op_neD hr.units) (pv 9) (pe_op op_rep (pe_lst (pa_cons pe_str pa_nil)) pe_int) (nomark _)) (pss_one (ps_ret pe_bl)) pss_nil)
      (pss_one (ps_ret (pe_or (pe_cmpR op_gt (pe_call FR hr (by rfl) gR kR bR .nil pass0 (pa_cons (pv 0) (pa_cons pe_int pa_nil))) pe_int (nomark _)) (pe_one (peG FL gd hr (by rfl) gL kL bL pass0 (pa_cons (pv 0) (pa_cons (pv 3) (pa_cons (pv 2) (pa_cons (pv 1) pa_nil)))))))))))))))))))), ?_⟩
    have sl : sizeLine = 16777216 := sizeLine_eq
    -- signs
    refine ⟨fun σ' H' => ∃ (sg : Addr) (cs : List Nat), σ' = [some (.ref p), some (.ref sg), none, none, none, none, none, none, none, none] ∧ KN p T H H' ∧ SqT K (hid p H') sg (cs.map oneV) ∧ cs.Nodup ∧ cs ≠ [] ∧ cs.length ≤ 3 ∧ (∀ c ∈ cs, c ∈ allSigns.cps.toList), ?_, ?_⟩
    · obtain ⟨a, b, e, hp⟩ := id d0
      refine ⟨_, rfl, p, a, b, e, 3, rfl, hp, by decide, by decide, fun H1 sg cs k1 fr pw ne mem le => ⟨sg, cs, rfl, (KN.refl d0 tabs).keep k1, ?_, pw.imp (fun h e => by omega), ne, by omega, mem⟩⟩
      have sp : sg ≠ p := fun z => by
        obtain ⟨o, e1, _⟩ := fr
        obtain ⟨_, _, _, e2⟩ := k1.2
        rw [z, e2] at e1
        cases e1
      obtain ⟨o, e1, _⟩ := fr
      exact .inl (.inr ⟨o, by rw [hid_ne sp]; exact e1⟩)
    rintro σ1 H1 ⟨sg, cs, rfl, k1, ts1, cnd, cne, cl, cmem⟩
    -- cleaner
    refine ⟨fun σ' H' => ∃ (t R B S : Addr) (xs ys zs : List V) (ws ls : List StD) (ds : List PyData), σ' = [some (.ref p), some (.ref sg), some (.ref t), none, none, none, none, none, none, none] ∧ KN p T H H' ∧ SqT K (hid p H') sg (cs.map oneV) ∧ WildAt K w (hid p H') t R B S xs ys zs ws ls ds ∧ WildOk ws ls ds, ?_, ?_⟩
    · exact ⟨_, rfl, _, rfl, p, sg, cs, rfl, k1.d, ts1, cnd, cne, cl, cmem, fun H2 t R B S xs ys zs ws ls ds k2 W O => ⟨t, R, B, S, xs, ys, zs, ws, ls, ds, rfl, k1.keep k2, same_tup (hid_keep k2) ts1, W, O⟩⟩
    rintro σ2 H2 ⟨t, R, B, S, xs, ys, zs, ws, ls, ds, rfl, k2, ts2, W2, O2⟩
    have pl2 := W2.plain O2
    have O : CleanOk ws ls ds := O2.clean
    have w9 : ws.length ≤ 9 := by have := O2.nw; omega
    have l9 : ls.length ≤ 9 := by have := O2.nl; omega
    -- made, same
    refine ⟨fun σ' H' => ∃ (x y : Addr), σ' = [some (.ref p), some (.ref sg), some (.ref t), some (.ref x), some (.ref y), none, none, none, none, none] ∧ KN p T H H' ∧ RS K w C p T sg t x y sg cs cs ws ls ds zs H', ?_, ?_⟩
    · refine ⟨_, rfl, t, R, B, S, xs, ys, zs, ws, ls, ds, rfl, W2.same hid_out, O2, k2.t, fun G1 x fv1 ex1 tb1 ca1 hf1 => ?_⟩
      have kn1 : KN p T H2 G1 := (KN.refl k2.d k2.t).extN ex1 tb1
      have R1 := clR_of (cleaner_hidD kn1.d ca1) (sqt_hidD kn1.d hf1) (pl2.ext kn1.hid)
      refine ⟨_, rfl, t, R, B, S, xs, ys, zs, ws, ls, ds, rfl, (W2.ext kn1.hid).same hid_out, O2, kn1.t, fun G2 y fv2 ex2 tb2 ca2 hf2 => ?_⟩
      have kn2 : KN p T G1 G2 := (KN.refl kn1.d kn1.t).extN ex2 tb2
      have R2 := clR_of (cleaner_hidD kn2.d ca2) (sqt_hidD kn2.d hf2) ((pl2.ext kn1.hid).ext kn2.hid)
      refine ⟨by show 2 ≤ sizeLine; omega, fun T1 n1 => ?_⟩
      have s1 := same_upd (o := .tup [.ref x, .ref y]) n1
      have kA : KN p T H (upd G2 T1 (.tup [.ref x, .ref y])) := ((k2.trans kn1).trans kn2).same s1
      have kB : KN p T H2 (upd G2 T1 (.tup [.ref x, .ref y])) := (kn1.trans kn2).same s1
      have kC : KN p T G1 (upd G2 T1 (.tup [.ref x, .ref y])) := kn2.same s1
      have kD : KN p T G2 (upd G2 T1 (.tup [.ref x, .ref y])) := (KN.refl kn2.d kn2.t).same s1
      exact ⟨T1, _, rfl, .of upd_same, rfl, _, _, rfl, _, _, rfl, rfl, x, y, rfl, kA, kA.d, kA.t, pl2.ext kB.hid, R1.ext kC.hid, R2.ext kD.hid, sqt_ext ts2 kB.hid, sqt_ext ts2 kB.hid⟩
    rintro σ3 H3 ⟨x, y, rfl, k3, r3⟩
    -- more
    refine ⟨fun σ' H' => ∃ (mo : Addr) (es : List Nat), σ' = [some (.ref p), some (.ref sg), some (.ref t), some (.ref x), some (.ref y), some (.ref mo), none, none, none, none] ∧ KN p T H H' ∧ RS K w C p T sg t x y mo cs es ws ls ds zs H' ∧ es ≠ [] ∧ es.length ≤ 4 ∧ (∀ c ∈ es, c ∈ allSigns.cps.toList), ?_, ?_⟩
    · refine ⟨_, rfl, _, rfl, rfl, one_at (xs := allSigns.cps.toList.map oneV) r3.d (.inr ⟨allSigns, rfl, by decide +kernel, rfl⟩) (by decide +kernel) (by decide +kernel) fun v mv H4 k4 => ?_⟩
      obtain ⟨c, hc, rfl⟩ := List.mem_map.mp mv
      have kn4 : KN p T H3 H4 := (KN.refl r3.d r3.tb).keep k4
      have ts4 := sqt_ext r3.ts kn4.hid
      refine ⟨by show 1 ≤ sizeLine; omega, fun T1 n1 => ?_⟩
      have s1 := same_upd (o := .tup [oneV c]) n1
      refine ⟨sg, T1, cs.map oneV, [oneV c], rfl, rfl, same_tup s1 (same_tup hid_out ts4), .of upd_same, by simpa using cne, by rw [List.length_map]; show _ + 1 ≤ sizeLine; omega, (by intro e; cases e), fun _ T2 n2 => ?_⟩
      have s2 := same_upd (o := .tup (cs.map oneV ++ [oneV c])) n2
      have mem1 : ∀ e ∈ cs ++ [c], e ∈ allSigns.cps.toList := fun e m => (List.mem_append.mp m).elim (cmem e) fun m => by rw [List.mem_singleton.mp m]; exact hc
      refine ⟨T2, (cs ++ [c]).map oneS, rfl, .of ?_, by rw [List.length_map, List.length_append]; show _ + 1 < 1000; omega, fun a l na nd mm le => ?_⟩
      · rw [upd_same, List.map_map, List.map_append]
        rfl
      rw [List.length_map, List.length_append] at le
      have le : l.length ≤ cs.length + 1 := le
      have s3 := same_upd (o := SetTx.TxO P w a l) na
      refine ⟨a, l, rfl, upd_same, nd, by omega, fun ys p2 pm so np => ?_⟩
      have s4 := same_upd (o := .lst (ys.map V.str)) np
      obtain ⟨es, rfl, eme⟩ := ones_of (ys := ys) fun z m => by
        obtain ⟨e, he, rfl⟩ := List.mem_map.mp ((mm z).mp (pm.mem_iff.mp m))
        exact ⟨e, rfl, mem1 e he⟩
      have el : es.length ≤ 4 := by
        have := pm.length_eq
        rw [List.length_map] at this
        omega
      have ene : es ≠ [] := fun z => by
        have h1 : oneS c ∈ l := (mm _).mpr (List.mem_map.mpr ⟨c, List.mem_append_right _ List.mem_cons_self, rfl⟩)
        have h2 := pm.mem_iff.mpr h1
        rw [z] at h2
        cases h2
      refine ⟨p2, _, rfl, .inl ⟨.of upd_same, fun mo nmo => ?_⟩⟩
      have s5 := same_upd (o := .tup ((es.map oneS).map V.str)) nmo
      have s15 := (((s1.trans s2).trans s3).trans s4).trans s5
      have kn5 := kn4.same s15
      have r5 := r3.kn kn5
      have mop : mo ≠ p := (kn4.d.same (((s1.trans s2).trans s3).trans s4)).ne nmo
      refine ⟨mo, es, rfl, k3.trans kn5, ⟨r5.d, r5.tb, r5.pl, r5.mx, r5.my, r5.ts, .of ?_⟩, ene, el, eme⟩
      rw [hid_ne mop, upd_same, List.map_map]
      rfl
    rintro σ4 H4 ⟨mo, es, rfl, k4, r4, ene, el, eme⟩
    -- the short texts
    refine ⟨fun σ' H' => ∃ x6, σ' = [some (.ref p), some (.ref sg), some (.ref t), some (.ref x), some (.ref y), some (.ref mo), x6, none, none, none] ∧ Same H4 H', ?_, ?_⟩
    · refine ⟨_, rfl, _, rfl, mo, _, rfl, .inr (same_tup hid_out r4.tm), _, _, rfl, rfl, _, rfl, ite2 (fun _ => ?_) (fun _ => ?_)⟩
      · refine ⟨mo, es, 4, rfl, same_tup hid_out r4.tm, el, by decide, fun H5 l s5 hl => ?_⟩
        refine ⟨l, rfl, ⟨_, .of hl⟩, for_it (walk_list (xs := (textsTo es 4).map V.str)) (fun i σ' H' => ∃ x6, σ' = [some (.ref p), some (.ref sg), some (.ref t), some (.ref x), some (.ref y), some (.ref mo), x6, none, none, none] ∧ Same H4 H' ∧ H' l = some (.lst ((textsTo es 4).map V.str))) ⟨none, rfl, s5, hl⟩ (fun i σ' H' _ hP => ?_) (fun i v σ' H' H'' hi hP hY => ?_) (fun σ' H' hP => ?_)⟩
        · obtain ⟨_, _, _, hl⟩ := hP
          exact .of hl
        · obtain ⟨x6, rfl, s6, hl6⟩ := hP
          obtain ⟨rfl, hx⟩ := hY
          rw [List.getElem?_map] at hx
          obtain ⟨z, hz, rfl⟩ := Option.map_eq_some_iff.mp hx
          obtain ⟨zsg, zl⟩ := texts_ok eme (k := 4) (by decide) z (List.mem_of_getElem? hz)
          have rs := r4.same s6
          have A0 : ∀ {G : Hp}, ArgA K C G (.str z) (.str z) := fun {G} => .inl ⟨.str z, by show z.length ≤ 100000; omega⟩
          have pz := pass_true zsg (by omega : z.length ≤ 2000)
          refine ⟨_, rfl, _, rfl, _, rfl, x, t, z, ws, ls, ds, zs, rfl, rs.mx.same hid_out, rs.pl.same hid_out, w9, l9, zsg, by omega, fun H7 s7 => ⟨_, rfl, ite2 (fun e => absurd (nF e) (by simp)) (fun _ => ?_)⟩⟩
          have r7 := rs.same s7
          have Ry := r7.my.same hid_out
          refine ⟨_, rfl, y, rfl, _, rfl, Ry.inst, y, .str z, .str z, ws, ls, ds, zs, rfl, Ry, A0, fun z2 e2 _ H8 u s8 hu8 => ?_, fun pf => absurd pf (by rw [pz]; simp)⟩
          cases e2
          obtain rfl : u = resV (resD ws ls ds z.cps.toList) := hu8
          have Rx := (r7.same s8).mx.same hid_out
          refine ⟨_, rfl, x, rfl, _, rfl, Rx.inst, x, .str z, .str z, ws, ls, ds, zs, rfl, Rx, A0, fun z3 e3 _ H9 u s9 hu9 => ?_, fun pf => absurd pf (by rw [pz]; simp)⟩
          cases e3
          obtain rfl : u = resV (resD ws ls ds z.cps.toList) := hu9
          have s10 := (s7.trans s8).trans s9
          exact ⟨by cases resD ws ls ds z.cps.toList <;> rfl, _, rfl, ite2 (fun e => absurd e (by simp)) (fun _ => ⟨_, rfl, s6.trans s10, s10 _ _ hl6⟩)⟩
        · obtain ⟨x6, rfl, s6, _⟩ := hP
          exact ⟨x6, rfl, s6⟩
      · refine ⟨mo, es, 3, rfl, same_tup hid_out r4.tm, el, by decide, fun H5 l s5 hl => ?_⟩
        refine ⟨l, rfl, ⟨_, .of hl⟩, for_it (walk_list (xs := (textsTo es 3).map V.str)) (fun i σ' H' => ∃ x6, σ' = [some (.ref p), some (.ref sg), some (.ref t), some (.ref x), some (.ref y), some (.ref mo), x6, none, none, none] ∧ Same H4 H' ∧ H' l = some (.lst ((textsTo es 3).map V.str))) ⟨none, rfl, s5, hl⟩ (fun i σ' H' _ hP => ?_) (fun i v σ' H' H'' hi hP hY => ?_) (fun σ' H' hP => ?_)⟩
        · obtain ⟨_, _, _, hl⟩ := hP
          exact .of hl
        · obtain ⟨x6, rfl, s6, hl6⟩ := hP
          obtain ⟨rfl, hx⟩ := hY
          rw [List.getElem?_map] at hx
          obtain ⟨z, hz, rfl⟩ := Option.map_eq_some_iff.mp hx
          obtain ⟨zsg, zl⟩ := texts_ok eme (k := 3) (by decide) z (List.mem_of_getElem? hz)
          have rs := r4.same s6
          have A0 : ∀ {G : Hp}, ArgA K C G (.str z) (.str z) := fun {G} => .inl ⟨.str z, by show z.length ≤ 100000; omega⟩
          have pz := pass_true zsg (by omega : z.length ≤ 2000)
          refine ⟨_, rfl, _, rfl, _, rfl, x, t, z, ws, ls, ds, zs, rfl, rs.mx.same hid_out, rs.pl.same hid_out, w9, l9, zsg, by omega, fun H7 s7 => ⟨_, rfl, ite2 (fun e => absurd (nF e) (by simp)) (fun _ => ?_)⟩⟩
          have r7 := rs.same s7
          have Ry := r7.my.same hid_out
          refine ⟨_, rfl, y, rfl, _, rfl, Ry.inst, y, .str z, .str z, ws, ls, ds, zs, rfl, Ry, A0, fun z2 e2 _ H8 u s8 hu8 => ?_, fun pf => absurd pf (by rw [pz]; simp)⟩
          cases e2
          obtain rfl : u = resV (resD ws ls ds z.cps.toList) := hu8
          have Rx := (r7.same s8).mx.same hid_out
          refine ⟨_, rfl, x, rfl, _, rfl, Rx.inst, x, .str z, .str z, ws, ls, ds, zs, rfl, Rx, A0, fun z3 e3 _ H9 u s9 hu9 => ?_, fun pf => absurd pf (by rw [pz]; simp)⟩
          cases e3
          obtain rfl : u = resV (resD ws ls ds z.cps.toList) := hu9
          have s10 := (s7.trans s8).trans s9
          exact ⟨by cases resD ws ls ds z.cps.toList <;> rfl, _, rfl, ite2 (fun e => absurd e (by simp)) (fun _ => ⟨_, rfl, s6.trans s10, s10 _ _ hl6⟩)⟩
        · obtain ⟨x6, rfl, s6, _⟩ := hP
          exact ⟨x6, rfl, s6⟩
    rintro σ5 H5 ⟨x6, rfl, s5⟩
    have k5 : KN p T H H5 := k4.same s5
    have r5 := r4.same s5
    -- the longer texts
    refine ⟨fun σ' H' => ∃ x6 x7, σ' = [some (.ref p), some (.ref sg), some (.ref t), some (.ref x), some (.ref y), some (.ref mo), x6, x7, none, none] ∧ KN p T H5 H', ?_, ?_⟩
    · refine ⟨_, rfl, by decide, by decide, for_it (walk_range (lo := 0) (n := (4 : Int).toNat)) (fun i σ' H' => ∃ x6 x7, σ' = [some (.ref p), some (.ref sg), some (.ref t), some (.ref x), some (.ref y), some (.ref mo), x6, x7, none, none] ∧ KN p T H5 H') ⟨x6, none, rfl, KN.refl r5.d r5.tb⟩ (fun _ _ _ _ _ => trivial) (fun i v σ' H' H'' hi hP hY => ?_) (fun σ' H' hP => hP)⟩
      obtain ⟨y6, y7, rfl, k6⟩ := hP
      obtain ⟨rfl, rfl⟩ := hY
      have r6 := r5.kn k6
      obtain ⟨a, b, e, hp⟩ := id r6.d
      refine ⟨_, rfl, _, rfl, p, mo, a, b, e, es, rfl, hp, r6.tm, ene, by omega, eme, fun H7 z k7 zsg zl => ?_⟩
      refine ⟨_, rfl, roll_at k7.2 (by decide) (by decide) fun r r0 r1 H8 k8 => ⟨_, _, rfl, rfl, z, 1 + r, rfl, rfl, by omega, by omega, by omega, ?_⟩⟩
      have k9 := (k6.keep k7).keep k8
      have r9 := r5.kn k9
      have rl : (rep z (1 + r)).length ≤ 40 := by
        rw [rep_len]
        have := Nat.mul_le_mul (show (1 + r).toNat ≤ 6 by omega) zl
        omega
      refine ⟨_, rfl, _, rfl, _, rfl, x, t, rep z (1 + r), ws, ls, ds, zs, rfl, r9.mx.same hid_out, r9.pl.same hid_out, w9, l9, rep_sg zsg _, rl, fun H10 s10 => ⟨_, rfl, ite2 (fun e => absurd (nF e) (by simp)) (fun _ => ?_)⟩⟩
      exact ⟨_, _, rfl, k9.same s10⟩
    rintro σ6 H6 ⟨y6, y7, rfl, k6'⟩
    have k6 := k5.trans k6'
    have r6 := r5.kn k6'
    -- an odd value
    refine ⟨fun σ' H' => ∃ v d, σ' = [some (.ref p), some (.ref sg), some (.ref t), some (.ref x), some (.ref y), some (.ref mo), y6, y7, some v, none] ∧ KN p T H6 H' ∧ ArgA K C (hid p H') v d ∧ isTextD d = false ∧ ∀ z, d = .str z → z.length ≤ 5, ?_, ?_⟩
    · refine ⟨_, rfl, by show 0 ≤ sizeLine; omega, fun t0 n0 => ⟨by show 1 ≤ sizeLine; omega, fun l1 n1 => ⟨by show 1 ≤ sizeLine; omega, fun t1 n2 => fun dd nd => ⟨_, rfl, by show 11 ≤ sizeLine; omega, fun L nL => ?_⟩⟩⟩⟩
      have u0 := same_upd (o := .tup []) n0
      have u1 := same_upd (o := .lst [.str "a"]) n1
      have u2 := same_upd (o := .tup [.str "a"]) n2
      have u3 := same_upd (o := .dK []) nd
      have k03 : KN p T H6 _ := (((( KN.refl r6.d r6.tb).same u0).same u1).same u2).same u3
      have q0 := r6.d.ne n0
      have q1 := (r6.d.same u0).ne n1
      have q2 := ((r6.d.same u0).same u1).ne n2
      have q3 := (((r6.d.same u0).same u1).same u2).ne nd
      refine one_new k03.d nL (by simp) (by show 11 ≤ 1000; decide) fun v mv H7 k7 => ?_
      have k7' := k03.keep k7
      have e0 : ∀ {o : HO}, True := trivial
      have kh := hid_keep k7
      have fin : ∀ {G : Hp} (_ : Same (hid p G) (hid p H7)) d, ArgA K C (hid p G) v d → isTextD d = false → (∀ z, d = .str z → z.length ≤ 5) → ∃ v' d', [some (V.ref p), some (.ref sg), some (.ref t), some (.ref x), some (.ref y), some (.ref mo), y6, y7, some v, none] = [some (V.ref p), some (.ref sg), some (.ref t), some (.ref x), some (.ref y), some (.ref mo), y6, y7, some v', none] ∧ KN p T H6 H7 ∧ ArgA K C (hid p H7) v' d' ∧ isTextD d' = false ∧ (∀ z, d' = .str z → z.length ≤ 5) := fun kh d h n m => ⟨v, d, rfl, k7', h.same kh, n, m⟩
      have g0 := u3 _ _ (u2 _ _ (u1 _ _ (upd_same (H := H6) (a := t0) (o := .tup []))))
      have g1 := u3 _ _ (u2 _ _ (upd_same (a := l1) (o := .lst [.str "a"]) (H := upd H6 t0 (.tup []))))
      have g2 := u3 _ _ (upd_same (a := t1) (o := .tup [.str "a"]) (H := upd (upd H6 t0 (.tup [])) l1 (.lst [.str "a"])))
      have g3 := upd_same (a := dd) (o := .dK []) (H := upd (upd (upd H6 t0 (.tup [])) l1 (.lst [.str "a"])) t1 (.tup [.str "a"]))
      obtain ⟨dx, fs, hx⟩ := r6.mx.inst
      have gx := hid_same (p := p) (fun b o _ e => u3 b o (u2 b o (u1 b o (u0 b o e)))) _ _ hx
      simp only [List.mem_cons, List.not_mem_nil, or_false] at mv
      rcases mv with rfl | rfl | rfl | rfl | rfl | rfl | rfl | rfl | rfl | rfl | rfl
      · exact fin kh .none (.inl ⟨.non, by decide⟩) rfl (fun z e => by cases e)
      · exact fin kh (.int 0) (.inl ⟨.int 0, by decide⟩) rfl (fun z e => by cases e)
      · exact fin kh (.bool true) (.inl ⟨.bl true, by decide⟩) rfl (fun z e => by cases e)
      · exact fin kh (.tuple []) (.inl ⟨.tup (.of (by rw [hid_ne q0]; exact g0)) .nil, by decide⟩) rfl (fun z e => by cases e)
      · exact fin kh (.list [.str "a"]) (.inl ⟨.lst (.of (by rw [hid_ne q1]; exact g1)) (.cons (.str _) .nil), by decide +kernel⟩) rfl (fun z e => by cases e)
      · exact fin kh (.tuple [.str "a"]) (.inl ⟨.tup (.of (by rw [hid_ne q2]; exact g2)) (.cons (.str _) .nil), by decide +kernel⟩) rfl (fun z e => by cases e)
      · exact fin kh (.str "a b") (.inl ⟨.str _, by decide +kernel⟩) (by decide +kernel) (fun z e => by cases e; decide +kernel)
      · exact fin kh (.str "h") (.inl ⟨.str _, by decide +kernel⟩) (by decide +kernel) (fun z e => by cases e; decide +kernel)
      · exact fin kh (.str "\n") (.inl ⟨.str _, by decide +kernel⟩) (by decide +kernel) (fun z e => by cases e; decide +kernel)
      · exact fin kh (.dict []) (.inl ⟨.dic (kvs := []) (by rw [hid_ne q3]; exact g3) rfl .nil, by decide⟩) rfl (fun z e => by cases e)
      · exact fin kh .none (.inr ⟨rfl, x, dx, fs, rfl, gx⟩) rfl (fun z e => by cases e)
    rintro σ7 H7 ⟨od, dd, rfl, k7', ao7, not7, sz7⟩
    have k7 := k6.trans k7'
    have r7 := r6.kn k7'
    have np7 : passD dd = false := by
      cases dd <;> first | rfl | skip
      have e : sgAll _ = false := not7
      show (sgAll _ && _) = false
      rw [e]
      rfl
    have no7 : ∀ {α : Prop} {z : Str}, dd = .str z → passD dd = true → α := fun _ pd => absurd pd (by rw [np7]; simp)
    have wd : ∀ {G : Hp} {l : Addr} {b : Bool}, G l = some (.lst [.str "no text", .bl b]) → Dp K G (.ref l) (.list [.str "no text", .bool b]) := fun e => .lst (.of e) (.cons (.str _) (.cons (.bl _) .nil))
    refine ⟨fun σ' H' => σ' = [some (.ref p), some (.ref sg), some (.ref t), some (.ref x), some (.ref y), some (.ref mo), y6, y7, some od, none] ∧ KN p T H7 H', ?_, ?_⟩
    · refine ⟨r7.tb, fun H8 eN T8 => ?_⟩
      have k8 : KN p T H7 H8 := (KN.refl r7.d r7.tb).extN eN T8
      have r8 := r7.kn k8
      have R8 := r8.mx.same hid_out
      have a8 := (ao7.ext k8.hid).same hid_out
      refine ⟨_, rfl, x, rfl, _, rfl, R8.inst, x, od, dd, ws, ls, ds, zs, rfl, R8, a8, fun z e pd => no7 e pd, fun _ H9 s9 => ⟨true, eT, fun _ => ?_, fun e => by cases e⟩⟩
      have R9 := R8.same s9
      obtain ⟨dx, fs, hx⟩ := R9.inst
      refine ⟨_, rfl, _, rfl, x, dx, fs, rfl, hx, x, od, dd, ws, ls, ds, zs, rfl, R9, a8.same s9, fun z e => by have := sz7 z e; omega, fun z e t1 => absurd t1 (by rw [not7]; simp), fun _ H10 s10 => ⟨_, rfl, by show 2 ≤ sizeLine; omega, fun l1 n1 => ⟨by show 2 ≤ sizeLine; omega, fun l2 n2 => ?_⟩⟩⟩
      have v1 := same_upd (o := .lst [.str "no text", .bl false]) n1
      have v2 := same_upd (o := .lst [.str "no text", .bl false]) n2
      exact ⟨_, _, wd (v2 _ _ upd_same), wd upd_same, by decide +kernel, by decide +kernel, _, rfl, ite2 (fun e => absurd e (by decide +kernel)) (fun _ => ⟨rfl, (((k8.same s9).same s10).same v1).same v2⟩)⟩
    rintro σ8 H8 ⟨rfl, k8⟩
    have r8 := r7.kn k8
    have a8 := ao7.ext k8.hid
    -- told
    refine ⟨fun σ' H' => ∃ l, σ' = [some (.ref p), some (.ref sg), some (.ref t), some (.ref x), some (.ref y), some (.ref mo), y6, y7, some od, some (.ref l)] ∧ KN p T H8 H' ∧ l ≠ p ∧ (∀ o, H8 l = some o → ∃ ps, o = .tbl ps) ∧ H' l = some (.lst [.str "no text"]), ?_, ?_⟩
    · refine ⟨r8.tb, fun H9 eN T9 => ?_⟩
      have k9 : KN p T H8 H9 := (KN.refl r8.d r8.tb).extN eN T9
      have r9 := r8.kn k9
      have R9 := r9.mx.same hid_out
      obtain ⟨dx, tw, tl, to, f1, Tw, Tl, hx, _⟩ := R9.at_
      refine ⟨_, rfl, x, dx, _, rfl, hx, rfl, _, rfl, x, od, dd, ws, ls, ds, zs, rfl, R9, (a8.ext k9.hid).same hid_out, fun z e pd => no7 e pd, fun _ H10 s10 => ⟨true, eT, fun _ => ?_, fun e => by cases e⟩⟩
      refine ⟨by show 1 ≤ sizeLine; omega, fun l nl => ⟨l, rfl, (k9.same s10).same (same_upd nl), (k9.same s10).d.ne nl, fun o ho => ?_, upd_same⟩⟩
      cases o with
      | tbl ps => exact ⟨ps, rfl⟩
      | _ =>
        have lp : l ≠ p := (k9.same s10).d.ne nl
        have z := (k9.same s10).k l _ lp (fun ps z => by cases z) ho
        rw [nl] at z
        cases z
    rintro σ9 H9 ⟨l, rfl, k9, lp, ln, hl⟩
    have r9 := r8.kn k9
    refine ⟨fun σ' H' => σ' = [some (.ref p), some (.ref sg), some (.ref t), some (.ref x), some (.ref y), some (.ref mo), y6, y7, some od, some (.ref l)] ∧ KN p T H8 H' ∧ H' l = some (.lst [.str "no text", .str "no text"]), ?_, ?_⟩
    · refine ⟨_, rfl, .inl ⟨rfl, _, .of hl⟩, r9.tb, fun H10 eN T10 => ?_⟩
      have k10 : KN p T H8 H10 := k9.extN eN T10
      have r10 := r8.kn k10
      have R10 := r10.mx.same hid_out
      obtain ⟨dx, tw, tl, to, f1, Tw, Tl, hx, _⟩ := R10.at_
      refine ⟨_, rfl, x, dx, _, rfl, hx, rfl, _, rfl, x, od, dd, ws, ls, ds, zs, rfl, R10, (a8.ext k10.hid).same hid_out, fun z e pd => no7 e pd, fun _ H11 s11 => ⟨true, eT, fun _ => ?_, fun e => by cases e⟩⟩
      have hl11 := s11 _ _ (eN _ _ hl fun ps z => by cases z)
      exact ⟨l, _, _, rfl, rfl, hl11, by show 1 < sizeLine; omega, rfl, (k10.same s11).put ln hl11 lp, upd_same⟩
    rintro σ10 H10 ⟨rfl, k10, hl10⟩
    have two : ∀ {G : Hp} {m : Addr}, G m = some (.lst [.str "no text", .str "no text"]) → Dp K G (.ref m) (.list [.str "no text", .str "no text"]) := fun e => .lst (.of e) (.cons (.str _) (.cons (.str _) .nil))
    refine ⟨fun σ' H' => σ' = [some (.ref p), some (.ref sg), some (.ref t), some (.ref x), some (.ref y), some (.ref mo), y6, y7, some od, some (.ref l)] ∧ KN p T H8 H', ?_, ?_⟩
    · refine ⟨_, rfl, by show 1 ≤ sizeLine; omega, fun m1 n1 => ⟨m1, 2, _, rfl, rfl, upd_same, by decide, by decide, by show 1 * 2 ≤ sizeLine; omega, fun m2 n2 => ?_⟩⟩
      exact ⟨_, _, two (same_upd n2 _ _ (same_upd n1 _ _ hl10)), two (m := m2) upd_same, by decide +kernel, by decide +kernel, _, rfl, ite2 (fun e => absurd e (by decide +kernel)) (fun _ => ⟨rfl, (k10.same (same_upd n1)).same (same_upd n2)⟩)⟩
    rintro σ11 H11 ⟨rfl, k11⟩
    have r11 := r8.kn k11
    have kk : KN p T H H11 := (k7.trans k8).trans k11
    refine ⟨_, rfl, roll_at r11.d (by decide) (by decide) fun r r0 r1 H12 k12 => ⟨_, _, rfl, rfl, _, rfl, ite2 (fun e => ?_) (fun _ => ?_)⟩⟩
    · exact q _ (kk.keep k12)
    · have r12 := r11.kn ((KN.refl r11.d r11.tb).keep k12)
      exact ⟨_, rfl, _, rfl, _, rfl, _, rfl, p, x, t, sg, cs, ws, ls, ds, zs, rfl, r12.d, r12.tb, r12.mx, r12.pl, r12.ts, cne, by omega, cmem, fun H13 k13 => q _ ((kk.keep k12).trans k13)⟩
end
end J
end K0
end
/-! ### MDD -/
section
set_option Elab.async false
set_option linter.all false
set_option maxRecDepth 100000
set_option maxHeartbeats 4000000
/-! {k: v, ..} with any keys, all unlike. -/
namespace MD
open PySem PySem.Spec PyProof.Rows L2
section
variable {X : Cx} {pins : List (Addr × Obj)} {σ : L2.St} {a : Addr} {A : Around} {E : Value → Shared → Prop}
theorem updSelf {H : Hp} {a : Addr} {o : HO} (h : H a = some o) : upd H a o = H := by
  funext b
  by_cases e : b = a
  · rw [e, upd_same, h]
  · rw [upd_ne e]
theorem d_set {H : Hp} {s : Shared} {k : NK} {kvs : List Row} {u v : V} {u' v' : Value} {Q : Unit → Shared → Prop} (hu : A.units + 64 < cLine) (I : Inv X pins σ H s) (e : H a = some (dM X.w a kvs)) (ks : KeysV X.K H kvs) (n : KeyV X.K H u k) (dk : k.depth ≤ 8) (ru : RelV u u') (rv : RelV v v') (l : kvs.length < sizeLine)
    (h : ∀ s', Inv X pins σ (upd H a (dM X.w a (put kvs k u v))) s' → Q () s') : wpAny (model X.prog X.w) A (dictSet a u' v') Q E s := by
  obtain ⟨z, hs, xs, r, m⟩ := atM I e ks
  refine set_md (by omega) m (key_is I _ _ _ n ru) dk (by rw [← prs_len r]; exact z) fun h' ⟨o, es, ep, h1, h2, h3, h4, h5⟩ sb => h _ ?_
  exact d_write I (by rw [e]; exact True.intro) sb ⟨o, h1⟩ (TabM.ok ⟨Nat.le_trans put_len l, hs, _, prs_put r ru rv, o, es, ep, h1, h2, h3, h4, h5.one⟩)
theorem store_md (hu : A.units + 64 < cLine) {Q : PUnit → Shared → Prop} : ∀ (rows : List Row) (ws : List (Value × Value)) (done : List Row) (H : Hp) (s : Shared), Inv X pins σ H s → H a = some (dM X.w a done) → KeysV X.K H done → KeysV X.K H rows → VV (rows.map (·.2)) ws →
    ((done ++ rows).map (·.1)).Nodup → (done ++ rows).length ≤ sizeLine → (∀ s', Inv X pins σ (upd H a (dM X.w a (done ++ rows))) s' → Q PUnit.unit s') → wpAny (model X.prog X.w) A (storeAll a ws) Q E s
  | [], _, done, H, s, I, e, ks, kr, vv, nd, ln, q => by
    cases vv
    unfold storeAll
    rw [List.forIn_nil]
    refine wpAny_pure (q s ?_)
    rw [List.append_nil, updSelf e]
    exact I
  | (k, u, v) :: rows, w :: ws, done, H, s, I, e, ks, kr, vv, nd, ln, q => by
    cases vv with
    | cons r vv =>
    obtain ⟨kn, kd⟩ := kr (k, u, v) List.mem_cons_self
    unfold storeAll
    rw [List.forIn_cons]
    have l1 : done.length < sizeLine := by
      rw [List.length_append, List.length_cons] at ln
      omega
    refine wpAny_bind (wpAny_bind (d_set hu I e ks kn kd r.1 r.2 l1 fun s' I' => wpAny_pure ?_))
    have nn : put done k u v = done ++ [(k, u, v)] := by
      have z : look done k = none := look_none fun i x hx hk => by
        have m : x ∈ done := List.mem_of_getElem? hx
        rw [List.map_append, List.nodup_append] at nd
        exact nd.2.2 x.1 (List.mem_map.mpr ⟨x, m, rfl⟩) k List.mem_cons_self hk
      unfold put
      rw [z, if_neg (by simp)]
    rw [nn] at I'
    have off : ∀ {kvs : List Row}, KeysV X.K H kvs → KeysV X.K (upd H a (dM X.w a (done ++ [(k, u, v)]))) kvs := fun h => K0.KeysV.off h (fun xs z => by rw [e] at z; cases z) (fun o xs z => by rw [e] at z; cases z)
    have ee : done ++ (k, u, v) :: rows = done ++ [(k, u, v)] ++ rows := by simp
    rw [ee] at nd ln q
    have ih := store_md hu (Q := Q) rows ws (done ++ [(k, u, v)]) (upd H a (dM X.w a (done ++ [(k, u, v)]))) s' I' upd_same (fun x m => (List.mem_append.mp m).elim (off ks x) fun m => by
      rw [List.mem_singleton.mp m]
      exact off kr (k, u, v) List.mem_cons_self) (fun x m => off kr x (List.mem_cons_of_mem _ m)) vv nd ln (fun s2 I2 => q s2 (by rw [upd_upd] at I2; exact I2))
    unfold storeAll at ih
    exact ih
  | _ :: _, [], _, _, _, _, _, _, _, vv, _, _, _ => by cases vv
end
/-- the new dict stands empty while the pairs are made -/
def tMDisp (K : PySem.W.Frag) (w : World) (trs : List (TE × TE)) : TE := fun σ H Q => ∀ p, H p = none → tPairs trs σ (upd H p (dM w p [])) fun ps H2 => H2 p = some (dM w p []) ∧ ∃ rows : List Row, ps = rows.map (·.2) ∧ KeysV K H2 rows ∧ (rows.map (·.1)).Nodup ∧ rows.length ≤ 15 ∧ Q (.ref p) (upd H2 p (dM w p rows))
theorem pe_mdisp {X : Cx} {pos : Pos} {keys : List (Option Expr)} {values : List Expr} {trs : List (TE × TE)} (hu : X.A.units + 64 < cLine) (h : PPs X pos keys values trs) (hall : keys.all (·.isSome) = true := by rfl) (hl : keys.length = values.length := by rfl) (h0 : keys ≠ [] := by simp)
    (h15 : keys.length ≤ 15 := by decide) : PE X (.Dict keys values pos) (tMDisp X.K X.w trs) := by
  refine ⟨fun pins s σ H Q I q => ?_⟩
  have hn := I.hok.fresh (Nat.le_refl s.heap.objs.size)
  have I1 := I.laid (a := s.heap.objs.size) (o := dM X.w s.heap.objs.size []) (h' := s.heap.push { cls := .type "dict", data := .dict #[] }) (t' := s.toks) (fun _ _ q => Heap.get?_push_of_some _ q) (Nat.le_refl _)
    (TabM.ok ⟨Nat.zero_le _, beq_eq_false_iff_ne.mpr (Ne.symm (Nat.ne_of_lt I.big)), [], .nil, _, #[], 0, Heap.get?_push_size _ rfl, ⟨rfl, rfl, rfl⟩, rfl, rfl, List.nodup_nil⟩)
  refine wpAny_Dict_any hall hl h0 h15 (thn (h.run pins _ σ _ _ I1 (q _ hn)) fun ws s2 ⟨ps, H2, I2, rel, e, rows, ep, kr, nd, l15, q2⟩ => ?_)
  subst ep
  refine store_md hu rows ws [] H2 s2 I2 e (fun _ z => nomatch z) kr rel nd ?_ fun s' I' => ?_
  · rw [List.nil_append, sizeLine_eq]
    omega
  · exact ⟨.ref s.heap.objs.size, _, I', rfl, q2⟩
end MD
end
/-! ### LM -/
section
set_option Elab.async false
set_option linter.all false
set_option maxRecDepth 100000
set_option maxHeartbeats 4000000
/-! What the law's own cleaners give. -/
namespace K0
open PySem PySem.Spec PyProof.Rows L2
abbrev evW0 (a b c d e f g h : Addr) : StD := .good [mvRow 36 (.num 1) (.int 1) "" 1 a b, mvRow 36 .none .none "$" 0 c d, mvRow 97 .none .none "ab" 0 e f, mvRow 98 (.num 0) (.int 0) "" 0 g h] [.int 1, .str "c"] [.int 1, .str "c"]
abbrev evW1 : StD := .good [] [.int 1, .str ""] [.int 1, .str ""]
abbrev evL0 : StD := .good [lkRow (36, 1)] [.int 0] [.int 0]
abbrev evL1 : StD := .good [lkRow (36, 0)] [.int 1] [.int 1]
abbrev evWs (a b c d e f g h : Addr) : List StD := [evW0 a b c d e f g h, evW1]
abbrev evL : List StD := [evL0, evL1]
abbrev evD : List PyData := [.int 0, .none]
abbrev frD : List PyData := [.int 0, .int 0]
def sm (s : Str) : Option Str := some s
section
variable {a b c d e f g h : Addr}
theorem evP1 : partsD (.sts (evWs a b c d e f g h)) (.sts evL) (firstD (.sts evL) (.tuple evD)) = true := by kernel_rfl
theorem evP2 : partsD (.sts (evWs a b c d e f g h)) (.sts evL) (firstD (.sts evL) .none) = true := by kernel_rfl
theorem evLs : evL.all (lStD 2) = true := by kernel_rfl
theorem evWok : List.all (evWs a b c d e f g h) (wStD 2 2) = true := by kernel_rfl
theorem evC1 : CleanOk (evWs a b c d e f g h) evL evD := ⟨by show 0 < 2; decide, List.all_eq_true.mp evLs, List.all_eq_true.mp evWok, List.all_eq_true.mp (by decide +kernel : evD.all (isViewD 2) = true), rfl⟩
theorem evC2 : CleanOk (evWs a b c d e f g h) evL frD := ⟨by show 0 < 2; decide, List.all_eq_true.mp evLs, List.all_eq_true.mp evWok, List.all_eq_true.mp (by decide +kernel : frD.all (isViewD 2) = true), rfl⟩
theorem ev0 : resD (evWs a b c d e f g h) evL evD [] = sm "c" := by kernel_rfl
theorem ev1 : resD (evWs a b c d e f g h) evL evD [36] = none := by kernel_rfl
theorem ev2 : resD (evWs a b c d e f g h) evL evD [36, 36] = sm "$" := by kernel_rfl
theorem ev3 : resD (evWs a b c d e f g h) evL evD [97, 98] = sm "abc" := by kernel_rfl
theorem ev4 : resD (evWs a b c d e f g h) evL evD [99] = sm "c" := by kernel_rfl
theorem ev5 : resD (evWs a b c d e f g h) evL evD [36, 97, 36] = sm "a$" := by kernel_rfl
theorem ev6 : resD (evWs a b c d e f g h) evL evD [98, 36, 36] = sm "$" := by kernel_rfl
theorem fr1 : resD (evWs a b c d e f g h) evL frD [36] = sm "$c" := by kernel_rfl
theorem fr2 : resD (evWs a b c d e f g h) evL frD [36, 36, 36] = sm "$$" := by kernel_rfl
theorem wk1 : walkD (evWs a b c d e f g h) evL evD [36] = [] := by kernel_rfl
theorem wk0 : walkD (evWs a b c d e f g h) evL evD [] = [.tuple [.int 0, .str ""]] := by kernel_rfl
theorem wk2 : walkD (evWs a b c d e f g h) evL evD [97, 98] = [.tuple [.int 0, .str ""], .tuple [.int 0, .str "ab"], .tuple [.int 0, .str "ab"]] := by kernel_rfl
theorem vw1 : viewsL evL [36] = [1, 0] := by kernel_rfl
theorem lk0 : lkD evL0 36 = 1 := by kernel_rfl
theorem lk1 : lkD evL1 36 = 0 := by kernel_rfl
theorem wr0 : wrD (evW0 a b c d e f g h) 36 1 = ((("" : Str), 1) : Str × Int) := by kernel_rfl
theorem wr1 (v : Int) : wrD evW1 36 v = ((("$" : Str), 1) : Str × Int) := rfl
/-- of a text of n signs '$' -/
theorem hd36 : ∀ n : Nat, hd0 (viewsL evL (List.replicate n 36)) = (n % 2 : Nat)
  | 0 => rfl
  | n + 1 => by
    have ih := hd36 n
    rw [List.replicate_succ, viewsL]
    show lkD (atS evL (hd0 (viewsL evL (List.replicate n 36)))) 36 = _
    rw [ih]
    rcases Nat.mod_two_eq_zero_or_one n with h | h
    · rw [h, show (n + 1) % 2 = 1 by omega]
      exact lk0
    · rw [h, show (n + 1) % 2 = 0 by omega]
      exact lk1
theorem fq36 {n : Nat} (h : n % 2 = 0) : firstQ evL evD (List.replicate n 36) = .int 0 := by
  unfold firstQ
  rw [hd36, h]
  rfl
theorem fq36o {n : Nat} (h : n % 2 = 1) : firstQ evL evD (List.replicate n 36) = .none := by
  unfold firstQ
  rw [hd36, h]
  rfl
theorem res_even {n : Nat} {W : List StD} (h : n % 2 = 0) : (resD W evL evD (List.replicate n 36)).isSome = true := by
  unfold resD
  rw [fq36 h]
  rfl
theorem res_odd {n : Nat} {W : List StD} (h : n % 2 = 1) : (resD W evL evD (List.replicate n 36)).isSome = false := by
  unfold resD
  rw [fq36o h]
  rfl
theorem go1 {W0 : StD} : ∀ (r : List (Nat × Int)) (acc : List Str), (∀ x ∈ r, x.1 = 36) → r.foldl (stepW [W0, evW1]) (acc, 1) = (acc ++ List.replicate r.length ("$" : Str), 1)
  | [], acc, _ => by rw [List.foldl_nil, List.length_nil, List.replicate_zero, List.append_nil]
  | (x, v) :: r, acc, hx => by
    have e : x = 36 := hx (x, v) List.mem_cons_self
    subst e
    rw [List.foldl_cons]
    have z : stepW [W0, evW1] (acc, 1) (36, v) = (acc ++ [("$" : Str)], 1) := rfl
    rw [z, go1 r _ fun y m => hx y (List.mem_cons_of_mem _ m), List.length_cons, List.replicate_succ, List.append_assoc]
    rfl
theorem goL {n : Nat} (hn : n % 2 = 0) : goW (evWs a b c d e f g h) 0 (pairsL evL (List.replicate (n + 2) 36)) = ((("" : Str) :: List.replicate (n + 1) ("$" : Str), 1) : List Str × Int) := by
  have ep : pairsL evL (List.replicate (n + 2) 36) = (36, 1) :: pairsL evL (List.replicate (n + 1) 36) := by
    unfold pairsL
    rw [List.replicate_succ, viewsL, List.tail_cons]
    have hv : viewsL evL (List.replicate (n + 1) 36) = 1 :: (viewsL evL (List.replicate (n + 1) 36)).tail := by
      have z := hd36 (n + 1)
      rw [show (n + 1) % 2 = 1 by omega] at z
      cases e : viewsL evL (List.replicate (n + 1) 36) with
      | nil => exact absurd e (viewsL_ne _ _)
      | cons x y =>
        rw [e] at z
        have z : x = 1 := z
        rw [z]
        rfl
    rw [hv, List.zip_cons_cons, List.tail_cons]
  rw [ep]
  unfold goW
  rw [List.foldl_cons]
  have z : stepW (evWs a b c d e f g h) ([], 0) (36, 1) = (([("" : Str)], 1) : List Str × Int) := by
    show (([] : List Str) ++ [(wrD (evW0 a b c d e f g h) 36 1).1], (wrD (evW0 a b c d e f g h) 36 1).2) = _
    rw [wr0]
    rfl
  rw [z, go1 (pairsL evL (List.replicate (n + 1) 36)) _ fun x m => List.eq_of_mem_replicate (List.of_mem_zip (show (x.1, x.2) ∈ (List.replicate (n + 1) 36).zip (viewsL evL (List.replicate (n + 1) 36)).tail from m)).1, pairsL_len, List.length_replicate]
  rfl
theorem rep_cps (n : Nat) : (rep ("$" : Str) (n : Int)).cps.toList = List.replicate n 36 := by
  have key : ∀ (m : Nat) (acc : Array Nat), ((List.replicate m (#[36] : Array Nat)).foldl (· ++ ·) acc).toList = acc.toList ++ List.replicate m 36 := by
    intro m
    induction m with
    | zero => intro acc; simp
    | succ m ih =>
      intro acc
      rw [List.replicate_succ, List.foldl_cons, ih, Array.toList_append, List.replicate_succ, List.append_assoc]
      rfl
  show ((List.replicate ((n : Nat) : Int).toNat ("$" : Str).cps).foldl (· ++ ·) #[]).toList = _
  rw [Int.toNat_natCast]
  exact (key n #[]).trans (List.nil_append _)
theorem join36 (n : Nat) : Txt.join "" (("" : Str) :: List.replicate n ("$" : Str)) = rep "$" (n : Int) := by
  refine str_ext ?_
  rw [join_cps, rep_cps, List.map_cons, List.flatten_cons]
  show [] ++ _ = _
  rw [List.nil_append]
  induction n with
  | zero => rfl
  | succ n ih =>
    rw [List.replicate_succ, List.map_cons, List.flatten_cons, ih, List.replicate_succ]
    rfl
theorem join36e (n : Nat) : Txt.join "" (("" : Str) :: List.replicate n ("$" : Str)) ++ ("" : Str) = rep "$" (n : Int) := by
  rw [join36 n]
  refine str_ext ?_
  have e2 : (rep "$" (n : Int) ++ ("" : Str)).cps.toList = (rep "$" (n : Int)).cps.toList ++ ([] : List Nat) := TL.tl_append (rep "$" (n : Int)) ""
  rw [e2, List.append_nil]
theorem resL {m : Nat} (h0 : m % 2 = 0) : resD (evWs a b c d e f g h) evL evD (List.replicate (m + 2) 36) = some (rep "$" ((m + 1 : Nat) : Int)) := by
  unfold resD
  rw [fq36 (n := m + 2) (by omega)]
  show some (Txt.join "" (goW (evWs a b c d e f g h) 0 (pairsL evL (List.replicate (m + 2) 36))).1 ++ lastD (atS (evWs a b c d e f g h) (goW (evWs a b c d e f g h) 0 (pairsL evL (List.replicate (m + 2) 36))).2)) = _
  rw [goL h0, ← join36e (m + 1)]
  rfl
theorem walkL {m : Nat} (h0 : m % 2 = 0) : (walkD (evWs a b c d e f g h) evL evD (List.replicate (m + 2) 36)).length = m + 3 ∧ (walkD (evWs a b c d e f g h) evL evD (List.replicate (m + 2) 36))[m + 2]? = some (.tuple [.int 1, .str (rep "$" ((m + 1 : Nat) : Int))]) := by
  have e : walkD (evWs a b c d e f g h) evL evD (List.replicate (m + 2) 36) = (List.range (m + 3)).map (walkP (evWs a b c d e f g h) 0 (pairsL evL (List.replicate (m + 2) 36))) := by
    unfold walkD
    rw [fq36 (n := m + 2) (by omega), List.length_replicate]
  rw [e]
  refine ⟨by rw [List.length_map, List.length_range], ?_⟩
  rw [List.getElem?_map, List.getElem?_range (by omega), Option.map_some]
  unfold walkP
  rw [List.take_of_length_le (by rw [pairsL_len, List.length_replicate]; exact Nat.le_refl _), goL h0]
  rw [← join36 (m + 1)]
end
/-- the ring -/
abbrev rgW (l : Nat) (z : Str) (a b c d e f g h : Addr) : StD := .good [mvRow 97 (.num 0) (.int 0) "0" l a b, mvRow 97 (.num 1) (.int 1) "1" l c d, mvRow 98 (.num 2) (.int 2) "2" l e f, mvRow 98 .none .none ":" l g h] [.int l, .str z] [.int l, .str z]
abbrev rgL (o v : Int) : StD := .good [lkRow (97, v)] [.int o] [.int o]
abbrev rgLs : List StD := [rgL 0 1, rgL 1 2, rgL 2 0]
abbrev rgD : List PyData := [.int 0, .int 1, .int 2]
section
variable {t0 t1 t2 t3 : Nat → Addr}
abbrev rgT (l : Nat) (z : Str) (t : Nat → Addr) : StD := rgW l z (t 0) (t 1) (t 2) (t 3) (t 4) (t 5) (t 6) (t 7)
abbrev rgWs (t0 t1 t2 t3 : Nat → Addr) : List StD := [rgT 1 "#" t0, rgT 2 "$" t1, rgT 3 "_" t2, rgT 0 ":" t3]
theorem rgP : partsD (.sts (rgWs t0 t1 t2 t3)) (.sts rgLs) (firstD (.sts rgLs) (.tuple rgD)) = true := by kernel_rfl
theorem rg1 : resD (rgWs t0 t1 t2 t3) rgLs rgD [97, 97, 97, 98] = sm "a10:#" := by kernel_rfl
theorem rg2 : resD (rgWs t0 t1 t2 t3) rgLs rgD [98, 97, 97, 98] = sm "210:_" := by kernel_rfl
theorem rg3 : resD (rgWs t0 t1 t2 t3) rgLs rgD [97, 97, 97] = sm "a10:" := by kernel_rfl
theorem rg4 : resD (rgWs t0 t1 t2 t3) rgLs rgD [97] = sm "0_" := by kernel_rfl
theorem rg5 : resD (rgWs t0 t1 t2 t3) rgLs rgD [] = sm "#" := by kernel_rfl
theorem rgC : CleanOk (rgWs t0 t1 t2 t3) rgLs rgD := ⟨by show 0 < 3; decide, List.all_eq_true.mp (by kernel_rfl : rgLs.all (lStD 3) = true), List.all_eq_true.mp (by kernel_rfl : List.all (rgWs t0 t1 t2 t3) (wStD 4 3) = true), List.all_eq_true.mp (by decide +kernel : rgD.all (isViewD 4) = true), rfl⟩
end
end K0
end
/-! ### LL0 -/
section
set_option Elab.async false
set_option linter.all false
set_option maxRecDepth 100000
set_option maxHeartbeats 4000000
/-! The law's own cleaners are made. -/
namespace K0
open PySem PySem.Spec PyProof.Rows L2 LamX
theorem kb_both {K : PySem.W.Frag} {f : Addr} {fd : FuncData} (F : CiP K f fd) : KbC K fd := by
  obtain ⟨mv, h⟩ := FunD.kbinds0 (ps := ["self", "writer", "look", "firsts"]) F 2 ["look", "firsts"] [] (fun us _ ws => us ++ ws) (by simp) (fun _ h => nomatch h) (fun r _ z => r.append z) fun D doc pm an cdv ct us mv ws l1 l2 l3 =>
    match us, ws, l1, l3 with
    | [_, _], [_, _], _, _ => rfl
  exact h
def KbC1 (K : PySem.W.Frag) (fd : FuncData) : Prop := ∃ mv : List Value, KBn K fd ["self", "writer", "look", "firsts"] 2 ["look"] (fun us ws => us ++ ws ++ mv) (fun vs zs => vs ++ zs ++ [V.non])
theorem kb_one {K : PySem.W.Frag} {f : Addr} {fd : FuncData} (F : CiP K f fd) : KbC1 K fd := by
  obtain ⟨mv, h⟩ := FunD.kbinds0 (ps := ["self", "writer", "look", "firsts"]) F 2 ["look"] [("firsts", .non)] (fun us mz ws => us ++ ws ++ mz) (by simp) (fun q m => by rw [List.mem_singleton.mp m]; simp) (fun r y z => (r.append z).append y) fun D doc pm an cdv ct us mv ws l1 l2 l3 =>
    match us, mv, ws, l1, l2, l3 with
    | [_, _], [_], [_], _, _, _ => ⟨_, _, _, _, _, _, rfl, rfl, rfl⟩
  exact ⟨mv, h⟩
end K0
end
/-! ### LH -/
section
set_option Elab.async false
set_option linter.all false
set_option maxRecDepth 100000
set_option maxHeartbeats 4000000
/-! Rows written out; a new cleaner and what it is asked. -/
namespace K0
open PySem PySem.Spec PyProof.Rows L2 LamX
open MD (dM KeysV KeyV)
/-- from the constructor's promise: a new cleaner -/
theorem init_at2 {K : PySem.W.Frag} {w : World} {C CE : Addr} {PT : List (Addr × Str)} {H : Hp} {wv lv fv : V} {dw dl : WhD} {df : PyData} {Qa : Addr → Hp → Prop} {E : XK} (hW : WhX K w H 3 wv dw) (hL : LookV K w H lv dl) (hF : Dv K H fv df) (sz : df.bulk ≤ 10000) (few : df = .none → ∀ ss, dl = .sts ss → ss.length ≤ 1000) (tabs : Tabs PT H)
    (good : partsD dw dl (firstD dl df) = true → ∀ H' x fv', (fv ≠ .non → fv' = fv) → Dv K H' fv' (firstD dl df) → ExtN H H' → Tabs PT H' → CleanerAt K w C H' x (stsD dw) (stsD dl) fv' → Qa x H') (bad : partsD dw dl (firstD dl df) = false → ∀ H', Same H H' → E (.ref CE) none H') :
    ∀ x dx, H x = none → H dx = none → dx ≠ x → spCInit K w C CE PT [.ref x, wv, lv, fv] (upd (upd H dx (.own x)) x (.ins C dx [])) (fun v H3 => v = .non ∧ Qa x H3) E := by
  intro x dx nx ndx ne
  have s1 : Same H (upd (upd H dx (.own x)) x (.ins C dx [])) := fun b o e => by
    rw [upd_ne (ne_of_none e nx), upd_ne (ne_of_none e ndx)]
    exact e
  refine ⟨x, dx, wv, lv, fv, dw, dl, df, rfl, upd_same, hW.same s1, hL.same s1, hF.same' s1, sz, few, Tabs.ext tabs s1, fun ok H' tw tl to fv' kf dvf ex tb hx k1 k2 => ⟨rfl, good ok H' x fv' kf dvf (fun b o e nt => ?_) tb ⟨dx, tw, tl, to, hx, k1, k2⟩⟩, fun no H' s2 => bad no H' (s1.trans s2)⟩
  exact ex b o (ne_of_none e nx) (s1 _ _ e) nt
mutual
def plainD : PyData → Bool
  | .dict _ => false
  | .list ds => plainDs ds
  | .tuple ds => plainDs ds
  | _ => true
def plainDs : List PyData → Bool
  | [] => true
  | d :: ds => plainD d && plainDs ds
end
mutual
theorem dv_dp {K : PySem.W.Frag} {H : Hp} : ∀ {d : PyData} {v : V}, Dv K H v d → plainD d = true → Dp K H v d
  | .none, _, h, _ => by cases h; exact .non
  | .bool b, _, h, _ => by cases h; exact .bl b
  | .int i, _, h, _ => by cases h; exact .int i
  | .str x, _, h, _ => by cases h; exact .str x
  | .list ds, _, h, z => by
    cases h with
    | lst h1 h2 => exact .lst h1 (dvs_dp h2 z)
  | .dict ds, _, h, z => by cases z
  | .tuple ds, _, h, z => by
    cases h with
    | tup h1 h2 => exact .tup h1 (dvs_dp h2 z)
theorem dvs_dp {K : PySem.W.Frag} {H : Hp} : ∀ {ds : List PyData} {vs : List V}, DvAll K H vs ds → plainDs ds = true → DpAll K H vs ds
  | [], _, h, _ => by cases h; exact .nil
  | d :: ds, _, h, z => by
    obtain ⟨z1, z2⟩ := Bool.and_eq_true_iff.mp (show (plainD d && plainDs ds) = true from z)
    cases h with
    | cons h1 h2 => exact .cons (dv_dp h1 z1) (dvs_dp h2 z2)
end
theorem pairedApp {α β : Type} {R : α → β → Prop} : ∀ {xs us : List α} {ys vs : List β}, Paired R xs ys → Paired R us vs → Paired R (xs ++ us) (ys ++ vs)
  | _, _, _, _, .nil, g => g
  | _, _, _, _, .cons h t, g => .cons h (pairedApp t g)
structure RowOk (K : PySem.W.Frag) (H : Hp) (r : RX) : Prop where
  key : KeyV K H r.1.2.1 r.1.1
  dep : r.1.1.depth ≤ 8
  dk : Dv K H r.1.2.1 r.2.1
  dv : Dv K H r.1.2.2 r.2.2
  sk : r.2.1.bulk ≤ 1000
  sv : r.2.2.bulk ≤ 10000
  fit : Fit r.2.1
theorem rowsx_of {K : PySem.W.Frag} {H : Hp} {rs : List RX} (h : ∀ r ∈ rs, RowOk K H r) (nd : ((rs.map (·.1)).map (·.1)).Nodup) (few : rs.length ≤ 1000) : RowsX K H rs :=
  ⟨fun x m => by
    obtain ⟨r, hr, rfl⟩ := List.mem_map.mp m
    exact ⟨(h r hr).key, (h r hr).dep⟩, nd, few, fun r m => ⟨(h r m).dk, (h r m).dv⟩, fun r m => ⟨(h r m).sk, (h r m).sv, (h r m).fit⟩⟩
theorem mv_ok {K : PySem.W.Frag} {H : Hp} {c : Nat} {vv : V} {vd : PyData} {nk : MD.NK} {z : Str} {i : Int} {T2 T3 : Addr} (e3 : SqT K H T3 [.str (oneS c), vv]) (e2 : SqT K H T2 [.str z, .int i]) (hv : (vv = .non ∧ vd = .none ∧ nk = .none) ∨ ∃ j : Int, vv = .int j ∧ vd = .int j ∧ nk = .num j) (ft : fitK (.tuple [.str (oneS c), vd]) = true) (lz : z.length ≤ 100) :
    RowOk K H (mvRow c nk vd z i T2 T3) := by
  have kv : KeyV K H vv nk ∧ Dv K H vv vd ∧ nk.depth = 0 := by
    rcases hv with ⟨rfl, rfl, rfl⟩ | ⟨j, rfl, rfl, rfl⟩
    · exact ⟨.atom rfl, .non, rfl⟩
    · exact ⟨.atom rfl, .int j, rfl⟩
  obtain ⟨f1, f2⟩ := fitK_ok ft
  refine ⟨.tup e3 (.cons (.atom rfl) (.cons kv.1 .nil)), ?_, .tup e3 (.cons (.str _) (.cons kv.2.1 .nil)), .tup e2 (.cons (.str _) (.cons (.int _) .nil)), f2, ?_, f1⟩
  · rcases hv with ⟨_, _, rfl⟩ | ⟨j, _, _, rfl⟩ <;> (show 1 ≤ 8; decide)
  · show PyData.bulkAll [.str z, .int i] ≤ 10000
    rw [PyData.bulkAll, PyData.bulkAll, PyData.bulkAll]
    show z.length + 1 + (0 + 1 + 0) ≤ 10000
    omega
theorem clr_new {K : PySem.W.Frag} {w : World} {C x : Addr} {H : Hp} {ws ls : List StD} {ds : List PyData} {fv : V} (ca : CleanerAt K w C H x ws ls fv) (dv : Dv K H fv (.tuple ds)) (O : CleanOk ws ls ds) (rw : ∀ s ∈ ws, StOk K H s) (rl : ∀ s ∈ ls, StOk K H s) : ∃ zs, ClR K w C H x ws ls ds zs := by
  cases dv with
  | @tup a vs _ h1 h2 =>
    obtain ⟨dx, tw, tl, to, h3, ⟨Uw, h4, k4⟩, ⟨Ul, h5, k5⟩⟩ := ca
    exact ⟨_, dx, tw, tl, to, _, Uw, Ul, h3, h4, h5, h1, O, k4, k5, rw, rl, h2⟩
theorem StOk.ext {K : PySem.W.Frag} {H H' : Hp} {s : StD} (h : StOk K H s) (e : ExtN H H') : StOk K H' s := h.dat.same (dat_ext e)
theorem asc_len {z : Str} (l : z.length ≤ 5000) (H : Hp) (K : PySem.W.Frag) (C : Addr) : ArgA K C H (.str z) (.str z) := .inl ⟨.str z, by show z.length ≤ 100000; omega⟩
section
variable {K : PySem.W.Frag} {w : World} {C CT x : Addr} {H : Hp} {ws ls : List StD} {ds : List PyData} {zs : List V} {Q : VK} {E : XK} {z : Str} {r : Option Str}
theorem call_at (h : ClR K w C H x ws ls ds zs) (sg : sgAll z = true) (l : z.length ≤ 2000) (e : resD ws ls ds z.cps.toList = r) (q : ∀ H', Same H H' → Q (resV r) H') : spMeth K w C CT rRes [.ref x, .str z] H Q E := by
  refine ⟨x, .str z, .str z, ws, ls, ds, zs, rfl, h, asc_len (by omega) H K C, fun z2 e2 _ H2 u s2 hu => ?_, fun p => absurd p (by rw [pass_true sg l]; simp)⟩
  cases e2
  have hu : u = resV (resD ws ls ds z.cps.toList) := hu
  rw [hu, e]
  exact q H2 s2
theorem walk_at (h : ClR K w C H x ws ls ds zs) (sg : sgAll z = true) (l : z.length ≤ 2000) {es : List PyData} (e : walkD ws ls ds z.cps.toList = es) (q : ∀ H' T vs, Same H H' → SqT K H' T vs → DvAll K H' vs es → Q (.ref T) H') : spMeth K w C CT (rWalk K) [.ref x, .str z] H Q E := by
  refine ⟨x, .str z, .str z, ws, ls, ds, zs, rfl, h, asc_len (by omega) H K C, fun z2 e2 _ H2 u s2 hu => ?_, fun p => absurd p (by rw [pass_true sg l]; simp)⟩
  cases e2
  obtain ⟨T, vs, rfl, h1, h2⟩ := hu
  rw [e] at h2
  exact q H2 T vs s2 h1 h2
theorem views_at (h : ClR K w C H x ws ls ds zs) (sg : sgAll z = true) (l : z.length ≤ 2000) {es : List Int} (e : viewsL ls z.cps.toList = es) (q : ∀ H' T, Same H H' → SqT K H' T (es.map V.int) → Q (.ref T) H') : spMeth K w C CT (rViews K) [.ref x, .str z] H Q E := by
  refine ⟨x, .str z, .str z, ws, ls, ds, zs, rfl, h, asc_len (by omega) H K C, fun z2 e2 _ H2 u s2 hu => ?_, fun p => absurd p (by rw [pass_true sg l]; simp)⟩
  cases e2
  obtain ⟨T, rfl, h1⟩ := hu
  rw [e] at h1
  exact q H2 T s2 h1
theorem long_at {Rr : List StD → List StD → List PyData → List Nat → V → Hp → Prop} (h : ClR K w C H x ws ls ds zs) (l : 2000 < z.length) (l2 : z.length ≤ 5000) (q : ∀ H', Same H H' → E (.ref CT) none H') : spMeth K w C CT Rr [.ref x, .str z] H Q E := by
  have np : passD (.str z) = false := by
    show (sgAll z && decide (z.length ≤ 2000)) = false
    rw [decide_eq_false (by omega), Bool.and_false]
  exact ⟨x, .str z, .str z, ws, ls, ds, zs, rfl, h, asc_len (by omega) H K C, fun z2 e2 p => absurd p (by rw [np]; simp), fun _ => q⟩
theorem has_at (h : ClR K w C H x ws ls ds zs) (sg : sgAll z = true) (l : z.length ≤ 5000) {b : Bool} (e : (resD ws ls ds z.cps.toList).isSome = b) (q : ∀ H', Same H H' → Q (.bl b) H') : spHas K w C [.ref x, .str z] H Q E := by
  refine ⟨x, .str z, .str z, ws, ls, ds, zs, rfl, h, asc_len (by omega) H K C, fun z2 e2 => by cases e2; exact l, fun z2 e2 _ H2 s2 => ?_, fun p => absurd (show isTextD (.str z) = false from p) (by rw [show isTextD (.str z) = true from sg]; simp)⟩
  cases e2
  rw [e]
  exact q H2 s2
end
def Off (H : Hp) (l : Addr) : Prop := ∀ b o, H b = some o → (∀ ps, o ≠ .tbl ps) → b ≠ l
theorem off_new {H H' : Hp} {l : Addr} (e : ExtN H H') (n : H' l = none) : Off H l := fun b o h t z => by
  have y := e b o h t
  rw [z, n] at y
  cases y
theorem off_put {H H' : Hp} {l : Addr} {o : HO} (e : ExtN H H') (f : Off H l) : ExtN H (upd H' l o) := fun b u h t => by
  rw [upd_ne (f b u h t)]
  exact e b u h t
theorem z1999 : ∃ z : Str, rep ("$" : Str) (1999 : Int) = z ∧ rep ("$" : Str) ((1998 + 1 : Nat) : Int) = z ∧ sgAll z = true := ⟨_, rfl, congrArg (rep ("$" : Str)) (by decide), rep_sg (by decide +kernel) _⟩
theorem dv_pairAt {K : PySem.W.Frag} {H : Hp} {vs : List V} {ds : List PyData} {i : Nat} {n : Int} {z : Str} (h : DvAll K H vs ds) (hd : ds[i]? = some (.tuple [.int n, .str z])) : ∃ L, vs[i]? = some (.ref L) ∧ SqT K H L [.int n, .str z] := by
  have lt : i < vs.length := by
    rw [h.length]
    exact (List.getElem?_eq_some_iff.mp hd).1
  obtain ⟨v, hv⟩ : ∃ v, vs[i]? = some v := ⟨_, List.getElem?_eq_getElem lt⟩
  obtain ⟨d, h1, h2⟩ := h.get hv
  rw [hd] at h1
  cases h1
  cases h2 with
  | tup h3 h4 =>
  cases h4 with
  | cons a1 a2 =>
  cases a2 with
  | cons a2 a3 =>
  cases a3
  cases a1
  cases a2
  exact ⟨_, hv, h3⟩
theorem atI_last {xs : List V} {n : Nat} {x : V} (l : xs.length = n + 1) (h : xs[n]? = some x) : atI xs (-1) = some x := by
  have e1 : ixN xs.length (-1) = some n := by
    unfold ixN
    rw [if_neg (by decide), if_pos (by omega)]
    congr 1
    omega
  unfold atI
  rw [e1]
  exact h
theorem pair_self (z : Str) : PyData.eqv (.tuple [.int 1, .str z]) (.tuple [.int 1, .str z]) = true := by
  simp [PyData.eqv, PyData.eqvAll]
theorem pair_shape {z : Str} (sg : sgAll z = true) : SeqAt.shaped (.tuple [.int 1, .str z]) = true := by
  have ok : PyData.strOk z = true := by
    show z.cps.all (· < 0x110000) = true
    rw [← Array.all_toList]
    have y := asc_of sg
    rw [← Array.all_toList] at y
    exact List.all_eq_true.mpr fun c m => decide_eq_true (Nat.lt_of_lt_of_le (of_decide_eq_true (List.all_eq_true.mp y c m)) (by decide))
  simp [SeqAt.shaped, PyData.canLay0, PyData.canLayAll0, PyData.depth, PyData.depthAll, ok]
theorem rep_ok {n : Nat} (h : n ≤ 5000) : sgAll (rep ("$" : Str) (n : Int)) = true ∧ (rep ("$" : Str) (n : Int)).length = n := by
  refine ⟨rep_sg (by decide +kernel) _, ?_⟩
  rw [rep_len]
  show ((n : Nat) : Int).toNat * 1 = n
  omega
end K0
end
/-! ### ONI -/
section
set_option Elab.async false
set_option linter.all false
set_option maxRecDepth 100000
set_option maxHeartbeats 4000000
/-! v not in x of an instance whose class has a __contains__ of its own. -/
namespace OE
open PySem PySem.Spec PyProof.Rows L2 PySem.Calls
section
variable {X : Cx} {CX : CXT} {n : Nat} {C g : Addr} {sp : Sp} {E : XK}
def rNinO (C : Addr) (sp : Sp) (E : XK) : R2 := fun x y H Q => ∃ (a dx : Addr) (fs : List (Str × V)), y = .ref a ∧ H a = some (.ins C dx fs) ∧ sp [y, x] H (fun v H' => ∃ c, v = .bl c ∧ Q (.bl (!c)) H') E
theorem op_ninO (hs : PySem.W.findIn X.K (.ref C) "__contains__" = some (some (.ref g))) (hf : PySem.W.isFn X.K (.ref g) = true) (F : FnR X.prog X.w X.K X.mg X.base CX n g sp) (hr : Room n X.A) (hx : Passes CX X E) : OpR X (compareOp .NotIn) (rNinO C sp E) := by
  intro pins s σ H x y v u Q I rx ry h
  obtain ⟨a, dx, fs, rfl, ha, q⟩ := h
  cases (show u = Value.ref a from ry)
  obtain ⟨mA, O, _⟩ := ins_get I.hok ha
  obtain ⟨od, J, _⟩ := O.look
  obtain ⟨m, hF⟩ := I.fr
  refine PySem.W.notIn_K hF I.ok.mod.kin J hs hf ?_
  refine wpAny_mono (wpAny_call (run_fnR (us := [.ref a, v]) (vs := [.ref a, x]) F hr hx I (.cons rfl (.cons rx .nil)) q)) (fun w' s' z => ?_) fun _ _ x => x
  obtain ⟨z', H', I', rz, c, rfl, qz⟩ := z
  cases (show w' = Value.bool c from rz)
  exact wpAny_truthy_bool ⟨.bl (!c), H', I', rfl, qz⟩
end
end OE
end
/-! ### LL -/
section
set_option Elab.async false
set_option linter.all false
set_option maxRecDepth 100000
set_option maxHeartbeats 8000000
/-! The law. -/
namespace K0
open PySem PySem.Spec PyProof.Rows L2 LamX
open MD (dM KeysV KeyV)
abbrev laN : List Str := ["script", "at", "dice", "turn", "row", "rows", "back", "free", "told", "steps", "later", "moves", "ring", "even", "text"]
abbrev laQ : Str := "law" ++ ".<locals>." ++ "<lambda>"
theorem scLawK : FnScope laN ["script"] (defScope (top iLaw)) := ⟨rfl, rfl, rfl, by decide +kernel, rfl, by decide +kernel, by decide +kernel⟩
def spLawK (K : PySem.W.Frag) (T : List (Addr × Str)) : Sp := fun vs H Q _ => ∃ (a : Addr) (ns : List Int), vs = [.ref a] ∧ SqL K H a (ns.map V.int) ∧ Tabs T H ∧ ∀ H', Q (.bl true) H'
/-- the row's moves -/
abbrev evRs (a b c d e f g h : Addr) : List RX := [mvRow 36 (.num 1) (.int 1) "" 1 a b, mvRow 36 .none .none "$" 0 c d, mvRow 97 .none .none "ab" 0 e f, mvRow 98 (.num 0) (.int 0) "" 0 g h]
theorem stxs_ok {K : PySem.W.Frag} {w : World} {H : Hp} {n : Nat} : ∀ {xs : List V} {ss : List StD}, Paired (StX K w H n) xs ss → (∀ s ∈ ss, s ≠ .bad) → ∀ s ∈ ss, StOk K H s
  | _, _, .nil, _ => fun _ m => nomatch m
  | _, s :: ss, .cons h t, g => fun r m => by
    rcases List.mem_cons.mp m with rfl | m
    · cases r with
      | bad => exact absurd rfl (g _ List.mem_cons_self)
      | good rs ys ds =>
        obtain ⟨a, m, rfl, h1, h2, h3, h4, h5, h6⟩ := h
        exact ⟨h5, h2⟩
    · exact stxs_ok t (fun s m => g s (List.mem_cons_of_mem _ m)) r m
theorem whx_ok {K : PySem.W.Frag} {w : World} {H : Hp} {n : Nat} {v : V} {ss : List StD} (h : WhX K w H n v (.sts ss)) (g : ∀ s ∈ ss, s ≠ .bad) : ∀ s ∈ ss, StOk K H s := by
  obtain ⟨a, xs, rfl, h1, h2, h3⟩ := h
  exact stxs_ok h2 g
theorem ev_bad {a b c d e f g h : Addr} : ∀ s ∈ evWs a b c d e f g h, s ≠ .bad := fun s m => by
  simp only [List.mem_cons, List.not_mem_nil, or_false] at m
  rcases m with rfl | rfl <;> (intro z; cases z)
theorem evl_bad : ∀ s ∈ evL, s ≠ .bad := fun s m => by
  simp only [List.mem_cons, List.not_mem_nil, or_false] at m
  rcases m with rfl | rfl <;> (intro z; cases z)
abbrev evT : List Str := ["", "$", "$$", "ab", "c", "$a$", "b$$"]
theorem evT_ok : (evT.all fun z => sgAll z && decide (z.length ≤ 2000)) = true := by decide +kernel
abbrev evV : List V := [.str "c", .non, .str "$", .str "abc", .str "c", .str "a$", .str "$"]
abbrev evVd : PyData := .list [.str "c", .none, .str "$", .str "abc", .str "c", .str "a$", .str "$"]
theorem ev_all {a b c d e f g h : Addr} : (evT.map fun z => resV (resD (evWs a b c d e f g h) evL evD z.cps.toList)) = evV := by
  show [resV (resD (evWs a b c d e f g h) evL evD []), resV (resD (evWs a b c d e f g h) evL evD [36]), resV (resD (evWs a b c d e f g h) evL evD [36, 36]), resV (resD (evWs a b c d e f g h) evL evD [97, 98]), resV (resD (evWs a b c d e f g h) evL evD [99]), resV (resD (evWs a b c d e f g h) evL evD [36, 97, 36]), resV (resD (evWs a b c d e f g h) evL evD [98, 36, 36])] = _
  rw [ev0, ev1, ev2, ev3, ev4, ev5, ev6]
  rfl
abbrev told5 : PyData := .list [.str "$c", .str "$$", .tuple [], .tuple [.int 1, .int 0], .tuple [.tuple [.int 0, .str ""]]]
abbrev wkAB : PyData := .tuple [.tuple [.int 0, .str ""], .tuple [.int 0, .str "ab"], .tuple [.int 0, .str "ab"]]
def rgSign (i : Nat) : Str := oneS (("#$_:" : Str).cps.toList.getD i 0)
abbrev rgAt (i : Nat) (t : Nat → Addr) : StD := rgT ((i + 1) % 4) (rgSign i) t
theorem rgNd : List.Nodup ([.tup [.text (oneS 97), .num 0], .tup [.text (oneS 97), .num 1], .tup [.text (oneS 98), .num 2], .tup [.text (oneS 98), .none]] : List MD.NK) := by decide +kernel
theorem rg_bad {t0 t1 t2 t3 : Nat → Addr} : ∀ s ∈ rgWs t0 t1 t2 t3, s ≠ .bad := fun s m => by
  simp only [List.mem_cons, List.not_mem_nil, or_false] at m
  rcases m with rfl | rfl | rfl | rfl <;> (intro z; cases z)
theorem rgl_bad : ∀ s ∈ rgLs, s ≠ .bad := fun s m => by
  simp only [List.mem_cons, List.not_mem_nil, or_false] at m
  rcases m with rfl | rfl | rfl <;> (intro z; cases z)
abbrev rgTx : List Str := ["aaab", "baab", "aaa", "a", ""]
theorem rgTx_ok : (rgTx.all fun z => sgAll z && decide (z.length ≤ 2000)) = true := by decide +kernel
abbrev rgV : List V := [.str "a10:#", .str "210:_", .str "a10:", .str "0_", .str "#"]
abbrev rgVd : PyData := .list [.str "a10:#", .str "210:_", .str "a10:", .str "0_", .str "#"]
theorem rg_all {t0 t1 t2 t3 : Nat → Addr} : (rgTx.map fun z => resV (resD (rgWs t0 t1 t2 t3) rgLs rgD z.cps.toList)) = rgV := by
  show [resV (resD (rgWs t0 t1 t2 t3) rgLs rgD [97, 97, 97, 98]), resV (resD (rgWs t0 t1 t2 t3) rgLs rgD [98, 97, 97, 98]), resV (resD (rgWs t0 t1 t2 t3) rgLs rgD [97, 97, 97]), resV (resD (rgWs t0 t1 t2 t3) rgLs rgD [97]), resV (resD (rgWs t0 t1 t2 t3) rgLs rgD [])] = _
  rw [rg1, rg2, rg3, rg4, rg5]
  rfl
theorem evNd : List.Nodup ([.tup [.text (oneS 36), .num 1], .tup [.text (oneS 36), .none], .tup [.text (oneS 97), .none], .tup [.text (oneS 98), .num 0]] : List MD.NK) := by decide +kernel
section
variable {P : Program} {w : World} {K : PySem.W.Frag} {mg : Str → Option Value} {base : Heap} {f fD fR fI fM gW gV gC gH C CE CT c PL : Addr} {fd fdD fdR fdI fdM fdW fdV : FuncData} {T : List (Addr × Str)}
theorem ok_law {k : Nat} (F : FnP K "law" iLaw f fd) (hcode : fd.code = .ref c) (TB : TabB base mg c PL) (hmT : (PL, laQ) ∈ T) (hu : ∀ x ∈ T, x.1 = PL → x.2 = laQ) (CK : ClK K C) (W : ClW K C gW gV gC gH) (mrange : mg "range" = none) (mmax : mg "max" = none) (mmin : mg "min" = none) (mlen : mg "len" = none) (mtup : mg "tuple" = none) (mint : mg "int" = none)
    (FD : FnOk P w K mg base CX0 (k + 11) fD fdD ["script", "at"] (spDice K)) (gD : mg "_law_dice" = some (.ref fD)) (kD : PySem.W.keepIn K (.ref fD) = true) (bD : Binds K fdD ["script", "at"] [])
    (FR : FnG P w K mg base CX0 (k + 11) fR fdR ["dice"] (spRightK T)) (gR : mg "_law_right" = some (.ref fR)) (kR : PySem.W.keepIn K (.ref fR) = true) (bR : Binds K fdR ["dice"] [])
    (gCl : mg "Cleaner" = some (.ref C)) (M : Mk K C fI) (FI : FnG P w K mg base (L2.CX P w) (k + 10) fI fdI ["self", "writer", "look", "firsts"] (spCInit K w C CE T)) (kb : KbC K fdI) {mv : List Value} (kb1 : KBn K fdI ["self", "writer", "look", "firsts"] 2 ["look"] (fun us ws => us ++ ws ++ mv) (fun vs zs => vs ++ zs ++ [V.non]))
    (FM : FnP K "_law_met" iMet fM fdM) (gM : mg "_law_met" = some (.ref fM)) (bM : Binds K fdM ["call"] []) (gIT : mg "InvalidText" = some (.ref CT)) (eT : PySem.W.exmOne K (.ref CT) (.ref CT) = some true)
    (FWk : FnOk P w K mg base (L2.CX P w) (k + 9) gW fdW ["self", "text"] (spMeth K w C CT (rWalk K))) (bW : Binds K fdW ["self", "text"] [])
    (FV : FnOk P w K mg base (L2.CX P w) (k + 9) gV fdV ["self", "text"] (spMeth K w C CT (rViews K))) (bV : Binds K fdV ["self", "text"] [])
    (FC : FnR P w K mg base (L2.CX P w) (k + 9) gC (spMeth K w C CT rRes)) (FH : FnR P w K mg base CX0 (k + 9) gH (spHas K w C)) :
    FnG P w K mg base CX0 (k + 12) f fd ["script"] (spLawK K T) := by
  refine fnG_ofC F scLawK (fun vs H Q E h => ?_) (fun cdv hc A outer s H vs Q E gd hr h => ?_)
  · obtain ⟨a, ns, rfl, _⟩ := h
    rfl
  · obtain ⟨a, ns, rfl, hS, T0, q⟩ := h
    obtain rfl : cdv = .ref c := hc.symm.trans hcode
    obtain ⟨oc, od, dV, kV, doc, pm, an, cdw, ct, osl, rfl, lkM, codeM, _, _⟩ := FM.ex
    have hr9 := Room.mono hr (show k + 9 ≤ k + 11 by omega)
    have ps : ∀ {A' : Around} {outer' : List Env} {s' : Shared} {H' : Hp} {E' : XK} {f' c' : Addr} {scope : Scope}, Passes (L2.CX P w) (lamCx (cxOf CX0 P w K mg base laN "law" (defScope (top iLaw)) f (.ref c) A outer s H E).nox A' outer' s' H' E' scope f' c') E' := passes_call (takes_of rfl rfl rfl rfl) fun _ _ _ _ h => h
    refine ⟨_, PSs.nox (C8.pss_cut (ps_for PassesOwn.never rfl (pi_range1 (by rfl) mrange (pa_cons (pe_callB (call_max2 rfl) (by rfl) mmax boot_max (pa_cons pe_int (pa_cons (pe_callB (call_min2 rfl) (by rfl) mmin boot_min (pa_cons pe_int (pa_cons (pe_callB call_len_seq (by rfl) mlen PySem.boot_len (pa_cons (pv 0) pa_nil)) pa_nil))) pa_nil))) pa_nil)) (pg_name (i := 1) scLawK.nd rfl (.inl rfl))
        (pss_cons (ps_set (i := 2) scLawK.nd rfl (.inl rfl) (pe_call FD hr (by rfl) gD kD bD .nil pass0 (pa_cons (pv 0) (pa_cons (pv 1) pa_nil))))
        (pss_one (ps_for PassesOwn.never rfl (pi_range1 (by rfl) mrange (pa_cons pe_int pa_nil)) (pg_name (i := 3) scLawK.nd rfl (.inl rfl))
          (pss_one (ps_if (pt_not (pt_val (peG FR gd hr (by rfl) gR kR bR pass0 (pa_cons (pv 2) pa_nil)))) (pss_one (ps_ret pe_bl)) pss_nil))))))
      (C8.pss_cut (ps_set (i := 4) scLawK.nd rfl (.inl rfl) (MD.pe_mdisp hr.units (pps_cons (pe_tup (pa_cons pe_str (pa_cons pe_int pa_nil))) (pe_tup (pa_cons pe_str (pa_cons pe_int pa_nil))) (pps_cons (pe_tup (pa_cons pe_str (pa_cons pe_non pa_nil))) (pe_tup (pa_cons pe_str (pa_cons pe_int pa_nil)))
          (pps_cons (pe_tup (pa_cons pe_str (pa_cons pe_non pa_nil))) (pe_tup (pa_cons pe_str (pa_cons pe_int pa_nil))) (pps_cons (pe_tup (pa_cons pe_str (pa_cons pe_int pa_nil))) (pe_tup (pa_cons pe_str (pa_cons pe_int pa_nil))) pps_nil))))))
      (C8.pss_cut (ps_par (i := 5) (j := 6) (by rfl) scLawK.nd rfl rfl (by decide) rfl rfl (pa_cons (pe_tup (pa_cons (pe_tup (pa_cons (pv 4) (pa_cons pe_int (pa_cons pe_str pa_nil)))) (pa_cons (pe_tup (pa_cons MD.pe_mnew (pa_cons pe_int (pa_cons pe_str pa_nil)))) pa_nil)))
          (pa_cons (pe_tup (pa_cons (pe_tup (pa_cons (MD.pe_mone hr.units pe_str pe_int) (pa_cons pe_int pa_nil))) (pa_cons (pe_tup (pa_cons (MD.pe_mone hr.units pe_str pe_int) (pa_cons pe_int pa_nil))) pa_nil))) pa_nil)) rfl)
      (C8.pss_cut (ps_asg (pe_tup (pa_cons (pe_makeKG (E := fun _ _ _ => False) M FI gd hr (by rfl) gCl kb (passes_call L2.takes0 fun _ _ _ _ z => z.elim) (pa_cons (pv 5) pa_nil) (pk_cons (pv 6) (pk_cons (pe_tup (pa_cons pe_int (pa_cons pe_non pa_nil))) pk_nil)))
          (pa_cons (pe_makeKG (E := fun _ _ _ => False) M FI gd hr (by rfl) gCl kb1 (passes_call L2.takes0 fun _ _ _ _ z => z.elim) (pa_cons (pv 5) pa_nil) (pk_cons (pv 6) pk_nil)) pa_nil))) (pg_tup rfl (pgs_cons (pg_name (i := 13) scLawK.nd rfl (.inr rfl)) (pgs_cons (pg_name (i := 7) scLawK.nd rfl (.inl rfl)) pgs_nil))))
      (C8.pss_cut (ps_setLc (i := 8) (own := [("text", 14)]) (g := gName 14) (tt := tYes) (by rfl) scLawK.nd rfl rfl (sw_true rfl rfl rfl rfl) (pi_tup (pe_tup (pa_cons pe_str (pa_cons pe_str (pa_cons pe_str (pa_cons pe_str (pa_cons pe_str (pa_cons pe_str (pa_cons pe_str pa_nil))))))))) (blkOk_by (N := laN) (sc := defScope (top iLaw)) (by decide +kernel)) (fun _ _ _ _ _ => pg_name (i := 14) scLawK.nd rfl (Or.inl rfl)) (fun _ _ _ _ _ => pts_nil) (fun _ _ _ _ _ => OE.pe_callO (E := fun _ _ _ => False) W.call W.callF W.callN FC hr9 (passes_call L2.takes0 fun _ _ _ _ z => z.elim) (pv 13) (pa_cons (pv 14) pa_nil)))
      (C8.pss_cut (ps_if (pt_cmpR (op_neD hr.units) (pv 8) (pe_lst (pa_cons pe_str (pa_cons pe_non (pa_cons pe_str (pa_cons pe_str (pa_cons pe_str (pa_cons pe_str (pa_cons pe_str pa_nil)))))))) (nomark _)) (pss_one (ps_ret pe_bl)) pss_nil)
      (C8.pss_cut (ps_set (i := 8) scLawK.nd rfl (.inl rfl) (pe_lst (pa_cons (OE.pe_callO (E := fun _ _ _ => False) W.call W.callF W.callN FC hr9 (passes_call L2.takes0 fun _ _ _ _ z => z.elim) (pv 7) (pa_cons pe_str pa_nil)) (pa_cons (OE.pe_callO (E := fun _ _ _ => False) W.call W.callF W.callN FC hr9 (passes_call L2.takes0 fun _ _ _ _ z => z.elim) (pv 7) (pa_cons pe_str pa_nil)) (pa_cons (pe_meth (E := fun _ _ _ => False) (pv 13) CK.cl W.walk FWk hr9 bW .nil (passes_call L2.takes0 fun _ _ _ _ z => z.elim) (pa_cons pe_str pa_nil)) (pa_cons (pe_meth (E := fun _ _ _ => False) (pv 13) CK.cl W.views FV hr9 bV .nil (passes_call L2.takes0 fun _ _ _ _ z => z.elim) (pa_cons pe_str pa_nil)) (pa_cons (pe_meth (E := fun _ _ _ => False) (pv 13) CK.cl W.walk FWk hr9 bW .nil (passes_call L2.takes0 fun _ _ _ _ z => z.elim) (pa_cons pe_str pa_nil)) pa_nil)))))))
      (C8.pss_cut (ps_if (pt_cmpR (op_neD hr.units) (pv 8) (pe_lst (pa_cons pe_str (pa_cons pe_str (pa_cons (pe_tup pa_nil) (pa_cons (pe_tup (pa_cons pe_int (pa_cons pe_int pa_nil))) (pa_cons (pe_tup (pa_cons (pe_tup (pa_cons pe_int (pa_cons pe_str pa_nil))) pa_nil)) pa_nil)))))) (nomark _)) (pss_one (ps_ret pe_bl)) pss_nil)
      (C8.pss_cut (ps_if (pt_cmpR (op_neD hr.units) (pe_meth (E := fun _ _ _ => False) (pv 13) CK.cl W.walk FWk hr9 bW .nil (passes_call L2.takes0 fun _ _ _ _ z => z.elim) (pa_cons pe_str pa_nil)) (pe_tup (pa_cons (pe_tup (pa_cons pe_int (pa_cons pe_str pa_nil))) (pa_cons (pe_tup (pa_cons pe_int (pa_cons pe_str pa_nil))) (pa_cons (pe_tup (pa_cons pe_int (pa_cons pe_str pa_nil))) pa_nil)))) (nomark _)) (pss_one (ps_ret pe_bl)) pss_nil)
      (C8.pss_cut (ps_if (PW.pt (pw_or (pt_cmpR (OE.op_inO W.has W.hasF FH hr9 pass0) (pe_op op_strMul pe_str pe_int) (pv 13) rfl) (pw_or (pt_cmpR (OE.op_ninO W.has W.hasF FH hr9 pass0) (pe_op op_strMul pe_str pe_int) (pv 13) rfl) (pw_or1 (pt_cmpR (OE.op_ninO W.has W.hasF FH hr9 pass0) (pe_op op_strMul pe_str pe_int) (pv 13) rfl))))) (pss_one (ps_ret pe_bl)) pss_nil)
      (C8.pss_cut (ps_set (i := 9) scLawK.nd rfl (.inl rfl) (pe_meth (E := fun _ _ _ => False) (pv 13) CK.cl W.walk FWk hr9 bW .nil (passes_call L2.takes0 fun _ _ _ _ z => z.elim) (pa_cons (pe_op op_strMul pe_str pe_int) pa_nil)))
      (C8.pss_cut (ps_if (PW.pt (pw_or (pt_cmpR op_ne (pe_callB call_len_seq (by rfl) mlen PySem.boot_len (pa_cons (pv 9) pa_nil)) pe_int (nomark _)) (pw_or1 (pt_cmpR (op_neD hr.units) (pe_ix ix_tup (pv 9) (pe_un un_neg pe_int) (fun _ _ => rfl)) (pe_tup (pa_cons pe_int (pa_cons (pe_op op_strMul pe_str pe_int) pa_nil))) (nomark _))))) (pss_one (ps_ret pe_bl)) pss_nil)
      (C8.pss_cut (ps_set (i := 8) scLawK.nd rfl (.inl rfl) (pe_lst (pa_cons (pe_lamcall (t := fun E' => OE.tCallO C (spMeth K w C CT rRes) E' (tVar 13) (tCons (tOp rStrMul (tC (.str "$")) (tC (.int 2001))) tNil)) (P := PL) (c := c) (x := "_law_met") (a := "call") (by rfl) gM FM.kp lkM codeM bM scMet rfl (.inl rfl) (met_gives gIT) TB rfl hmT hu hr (lamS_by (sc := defScope (top iLaw)) (by decide +kernel)) (by rfl) (fun _ _ _ _ _ => rfl) (fun A' o' s' H' E' f' c' hr' => OE.pe_callO W.call W.callF W.callN FC hr' ps (pv 13) (pa_cons (pe_op op_strMul pe_str pe_int) pa_nil))) pa_nil)))
      (C8.pss_cut (ps_expr (pe_bm PySem.F.plainAttrs_list PySem.F.slot_list_append PySem.F.type_list_append mt_append (pv 8) (pa_cons (pe_lamcall (t := fun E' => tMeth C "views" (spMeth K w C CT (rViews K)) [] E' (tVar 13) (tCons (tOp rStrMul (tC (.str "$")) (tC (.int 2001))) tNil)) (P := PL) (c := c) (x := "_law_met") (a := "call") (by rfl) gM FM.kp lkM codeM bM scMet rfl (.inl rfl) (met_gives gIT) TB rfl hmT hu hr (lamS_by (sc := defScope (top iLaw)) (by decide +kernel)) (by rfl) (fun _ _ _ _ _ => rfl) (fun A' o' s' H' E' f' c' hr' => pe_meth (pv 13) CK.cl W.views FV hr' bV .nil ps (pa_cons (pe_op op_strMul pe_str pe_int) pa_nil))) pa_nil)))
      (C8.pss_cut (ps_expr (pe_bm PySem.F.plainAttrs_list PySem.F.slot_list_append PySem.F.type_list_append mt_append (pv 8) (pa_cons (pe_lamcall (t := fun E' => tMeth C "walk" (spMeth K w C CT (rWalk K)) [] E' (tVar 13) (tCons (tOp rStrMul (tC (.str "$")) (tC (.int 2001))) tNil)) (P := PL) (c := c) (x := "_law_met") (a := "call") (by rfl) gM FM.kp lkM codeM bM scMet rfl (.inl rfl) (met_gives gIT) TB rfl hmT hu hr (lamS_by (sc := defScope (top iLaw)) (by decide +kernel)) (by rfl) (fun _ _ _ _ _ => rfl) (fun A' o' s' H' E' f' c' hr' => pe_meth (pv 13) CK.cl W.walk FWk hr' bW .nil ps (pa_cons (pe_op op_strMul pe_str pe_int) pa_nil))) pa_nil)))
      (C8.pss_cut (ps_if (PW.pt (pw_or (pt_cmpR (op_neD hr.units) (pv 8) (pe_op op_rep (pe_lst (pa_cons pe_str pa_nil)) pe_int) (nomark _)) (pw_or1 (pt_cmpR op_ne (OE.pe_callO (E := fun _ _ _ => False) W.call W.callF W.callN FC hr9 (passes_call L2.takes0 fun _ _ _ _ z => z.elim) (pv 13) (pa_cons (pe_op op_strMul pe_str pe_int) pa_nil)) (pe_op op_strMul pe_str pe_int) (nomark _))))) (pss_one (ps_ret pe_bl)) pss_nil)
      (C8.pss_cut (ps_set (i := 5) scLawK.nd rfl (.inl rfl) (pe_lst pa_nil))
      (C8.pss_cut (ps_for PassesOwn.never rfl (pi_range1 (by rfl) mrange (pa_cons pe_int pa_nil)) (pg_name (i := 1) scLawK.nd rfl (.inl rfl)) (pss_cons (ps_set (i := 10) scLawK.nd rfl (.inl rfl) (pe_op op_mod (pe_callTy call_int1 (by rfl) mint boot_int (pa_cons (pe_op op_add (pv 1) pe_int) pa_nil)) pe_int)) (pss_cons (ps_set (i := 11) scLawK.nd rfl (.inl rfl) (MD.pe_mdisp hr.units (pps_cons (pe_tup (pa_cons pe_str (pa_cons pe_int pa_nil))) (pe_tup (pa_cons pe_str (pa_cons (pv 10) pa_nil))) (pps_cons (pe_tup (pa_cons pe_str (pa_cons pe_int pa_nil))) (pe_tup (pa_cons pe_str (pa_cons (pv 10) pa_nil))) (pps_cons (pe_tup (pa_cons pe_str (pa_cons pe_int pa_nil))) (pe_tup (pa_cons pe_str (pa_cons (pv 10) pa_nil))) (pps_cons (pe_tup (pa_cons pe_str (pa_cons pe_non pa_nil))) (pe_tup (pa_cons pe_str (pa_cons (pv 10) pa_nil))) pps_nil)))))) (pss_one (ps_expr (pe_bm PySem.F.plainAttrs_list PySem.F.slot_list_append PySem.F.type_list_append mt_append (pv 5) (pa_cons (pe_tup (pa_cons (pv 11) (pa_cons (pv 10) (pa_cons (pe_ix ix_str pe_str (pv 1) (fun _ _ => rfl)) pa_nil)))) pa_nil)))))))
      (C8.pss_cut (ps_set (i := 6) scLawK.nd rfl (.inl rfl) (pe_tup (pa_cons (pe_tup (pa_cons (MD.pe_mone hr.units pe_str pe_int) (pa_cons pe_int pa_nil))) (pa_cons (pe_tup (pa_cons (MD.pe_mone hr.units pe_str pe_int) (pa_cons pe_int pa_nil))) (pa_cons (pe_tup (pa_cons (MD.pe_mone hr.units pe_str pe_int) (pa_cons pe_int pa_nil))) pa_nil)))))
      (C8.pss_cut (ps_set (i := 12) scLawK.nd rfl (.inr rfl) (pe_makeKG (E := fun _ _ _ => False) M FI gd hr (by rfl) gCl kb (passes_call L2.takes0 fun _ _ _ _ z => z.elim) (pa_cons (pe_callTy call_tuple_of (by rfl) mtup (by decide +kernel) (pa_cons (pv 5) pa_nil)) pa_nil) (pk_cons (pv 6) (pk_cons (pe_tup (pa_cons pe_int (pa_cons pe_int (pa_cons pe_int pa_nil)))) pk_nil))))
      (pss_one (ps_ret (pe_cmpR (op_eqD hr.units) (pe_lc (own := [("text", 14)]) (g := gName 14) (tt := tYes) rfl scLawK.nd (pi_tup (pe_tup (pa_cons pe_str (pa_cons pe_str (pa_cons pe_str (pa_cons pe_str (pa_cons pe_str pa_nil))))))) (blkOk_by (N := laN) (sc := defScope (top iLaw)) (by decide +kernel)) (fun _ _ _ _ _ => pg_name (i := 14) scLawK.nd rfl (Or.inl rfl)) (fun _ _ _ _ _ => pts_nil) (fun _ _ _ _ _ => OE.pe_callO (E := fun _ _ _ => False) W.call W.callF W.callN FC hr9 (passes_call L2.takes0 fun _ _ _ _ z => z.elim) (pv 12) (pa_cons (pv 14) pa_nil))) (pe_lst (pa_cons pe_str (pa_cons pe_str (pa_cons pe_str (pa_cons pe_str (pa_cons pe_str pa_nil)))))) (nomark _)))))))))))))))))))))))), ?_⟩
    have sl : sizeLine = 16777216 := sizeLine_eq
    -- the loop
    refine ⟨fun σ' H' => ∃ x1 x2 x3, σ' = [some (.ref a), x1, x2, x3, none, none, none, none, none, none, none, none, none, none, none] ∧ Tabs T H', ?_, ?_⟩
    · generalize hB : noTab H = B
      have sB : Same B H := by rw [← hB]; exact noTab_out
      have nB : ∀ b ps, B b ≠ some (.tbl ps) := fun b ps e => by
        rw [← hB] at e
        exact (noTab_of e).2 ps rfl
      have hS' : SqL K B a (ns.map V.int) := by rw [← hB]; exact sql_noTab hS
      refine ⟨_, rfl, a, _, rfl, .inl hS, _, _, rfl, _, _, rfl, ?_⟩
      have bd : ∀ m : Int, -(2 ^ 62) ≤ (if (if m < 8 then m else 8) > 1 then (if m < 8 then m else 8) else 1) ∧ (if (if m < 8 then m else 8) > 1 then (if m < 8 then m else 8) else 1) < (2 : Int) ^ 62 := fun m => by
        have e2 : (2 : Int) ^ 62 = 4611686018427387904 := by decide
        split <;> (try split) <;> omega
      refine ⟨_, rfl, (bd _).1, (bd _).2, for_range (lo := 0) (fun i σ' H' => ∃ x1 x2 x3, σ' = [some (.ref a), x1, x2, x3, none, none, none, none, none, none, none, none, none, none, none] ∧ Same B H' ∧ Tabs T H') ⟨_, _, _, rfl, sB, T0⟩ (fun i σ' H' hi hP => ?_) (fun σ' H' ⟨x1, x2, x3, e, _, t⟩ => ⟨x1, x2, x3, e, t⟩)⟩
      obtain ⟨x1, x2, x3, rfl, s1, t1⟩ := hP
      refine ⟨_, rfl, _, rfl, a, ns, i, by rw [Int.zero_add]; rfl, s1.seq hS', fun p x y z np => ?_⟩
      have nBp : B p = none := back_none s1 np
      have sp : Same H' (upd H' p (dk x y z)) := same_upd np
      have tp : Tabs T (upd H' p (dk x y z)) := Tabs.ext t1 sp
      have dp : Dice p (upd H' p (dk x y z)) := ⟨x, y, z, upd_same⟩
      have sBp : Same B (upd H' p (dk x y z)) := s1.trans sp
      refine ⟨_, rfl, by decide, by decide, for_range (lo := 0) (fun j σ' Hj => ∃ x3, σ' = [some (.ref a), some (.int (0 + i)), some (.ref p), x3, none, none, none, none, none, none, none, none, none, none, none] ∧ Same B Hj ∧ Dice p Hj ∧ Tabs T Hj) ⟨_, rfl, sBp, dp, tp⟩ (fun j σ' Hj hj hPj => ?_) (fun σ' Hj ⟨x3, e, sj, dj, tj⟩ => ⟨_, _, _, e, sj, tj⟩)⟩
      obtain ⟨x3, rfl, sj, dj, tj⟩ := hPj
      refine ⟨_, rfl, p, rfl, dj, tj, fun H5 k5 => ⟨true, rfl, ite2 (fun e => by cases e) (fun _ => ⟨_, rfl, fun b o e => ?_, k5.d, k5.t⟩)⟩⟩
      exact k5.k b o (ne_of_none e nBp) (fun ps z => nB b ps (by rw [e, z])) (sj _ _ e)
    rintro σ1 H1 ⟨x1, x2, x3, rfl, T1⟩
    -- the row
    refine ⟨fun σ' H' => ∃ m b1 a1 b2 a2 b3 a3 b4 a4, σ' = [some (.ref a), x1, x2, x3, some (.ref m), none, none, none, none, none, none, none, none, none, none] ∧ Tabs T H' ∧ H' m = some (dM w m ((evRs b1 a1 b2 a2 b3 a3 b4 a4).map (·.1))) ∧ RowsX K H' (evRs b1 a1 b2 a2 b3 a3 b4 a4), ?_, ?_⟩
    · intro m nm
      refine ⟨by show 2 ≤ sizeLine; omega, fun a1 n1 => ⟨by show 2 ≤ sizeLine; omega, fun b1 m1 => ⟨by show 2 ≤ sizeLine; omega, fun a2 n2 => ⟨by show 2 ≤ sizeLine; omega, fun b2 m2 => ⟨by show 2 ≤ sizeLine; omega, fun a3 n3 => ⟨by show 2 ≤ sizeLine; omega, fun b3 m3 => ⟨by show 2 ≤ sizeLine; omega, fun a4 n4 => ⟨by show 2 ≤ sizeLine; omega, fun b4 m4 => ?_⟩⟩⟩⟩⟩⟩⟩⟩
      have u0 := same_upd (o := dM w m []) nm
      have u1 := same_upd (o := .tup [.str "$", .int 1]) n1
      have v1 := same_upd (o := .tup [.str "", .int 1]) m1
      have u2 := same_upd (o := .tup [.str "$", .non]) n2
      have v2 := same_upd (o := .tup [.str "$", .int 0]) m2
      have u3 := same_upd (o := .tup [.str "a", .non]) n3
      have v3 := same_upd (o := .tup [.str "ab", .int 0]) m3
      have u4 := same_upd (o := .tup [.str "b", .int 0]) n4
      have v4 := same_upd (o := .tup [.str "", .int 0]) m4
      have s3 := u4.trans v4
      have s3' := v3.trans s3
      have s2 := u3.trans s3'
      have s2' := v2.trans s2
      have s1 := u2.trans s2'
      have s1' := v1.trans s1
      have s0 := u1.trans s1'
      have c0 : (upd H1 m (dM w m [])) m = some (dM w m []) := upd_same
      have c1 := u1 _ _ c0
      have c1' := v1 _ _ c1
      have c2 := u2 _ _ c1'
      have c2' := v2 _ _ c2
      have c3 := u3 _ _ c2'
      have c3' := v3 _ _ c3
      have c4 := u4 _ _ c3'
      have c5 := v4 _ _ c4
      have q1 := (ne_of_none c0 n1).symm
      have q1' := (ne_of_none c1 m1).symm
      have q2 := (ne_of_none c1' n2).symm
      have q2' := (ne_of_none c2 m2).symm
      have q3 := (ne_of_none c2' n3).symm
      have q3' := (ne_of_none c3 m3).symm
      have q4 := (ne_of_none c3' n4).symm
      have q4' := (ne_of_none c4 m4).symm
      have rowsAt : ∀ {G : Hp}, SqT K G a1 [.str "$", .int 1] → SqT K G b1 [.str "", .int 1] → SqT K G a2 [.str "$", .non] → SqT K G b2 [.str "$", .int 0] → SqT K G a3 [.str "a", .non] → SqT K G b3 [.str "ab", .int 0] → SqT K G a4 [.str "b", .int 0] → SqT K G b4 [.str "", .int 0] → RowsX K G (evRs b1 a1 b2 a2 b3 a3 b4 a4) := fun h1 k1 h2 k2 h3 k3 h4 k4 => by
        refine rowsx_of (fun r hr => ?_) evNd (by show 4 ≤ 1000; decide)
        simp only [List.mem_cons, List.not_mem_nil, or_false] at hr
        rcases hr with rfl | rfl | rfl | rfl
        · exact mv_ok h1 k1 (.inr ⟨1, rfl, rfl, rfl⟩) (by decide +kernel) (by decide +kernel)
        · exact mv_ok h2 k2 (.inl ⟨rfl, rfl, rfl⟩) (by decide +kernel) (by decide +kernel)
        · exact mv_ok h3 k3 (.inl ⟨rfl, rfl, rfl⟩) (by decide +kernel) (by decide +kernel)
        · exact mv_ok h4 k4 (.inr ⟨0, rfl, rfl, rfl⟩) (by decide +kernel) (by decide +kernel)
      have R0 := rowsAt (.of (s1' _ _ upd_same)) (.of (s1 _ _ upd_same)) (.of (s2' _ _ upd_same)) (.of (s2 _ _ upd_same)) (.of (s3' _ _ upd_same)) (.of (s3 _ _ upd_same)) (.of (v4 _ _ upd_same)) (.of upd_same)
      refine ⟨c5, List.map (fun r : RX => r.1) (evRs b1 a1 b2 a2 b3 a3 b4 a4), rfl, R0.ks, R0.nd, by show 4 ≤ 15; decide, m, b1, a1, b2, a2, b3, a3, b4, a4, rfl, ?_, upd_same, ?_⟩
      · refine Tabs.ext T1 fun b o e => ?_
        rw [upd_ne (ne_of_none e nm)]
        exact s0 _ _ (u0 _ _ e)
      · exact rowsAt (.of (by rw [upd_ne q1]; exact s1' _ _ upd_same)) (.of (by rw [upd_ne q1']; exact s1 _ _ upd_same)) (.of (by rw [upd_ne q2]; exact s2' _ _ upd_same)) (.of (by rw [upd_ne q2']; exact s2 _ _ upd_same)) (.of (by rw [upd_ne q3]; exact s3' _ _ upd_same)) (.of (by rw [upd_ne q3']; exact s3 _ _ upd_same)) (.of (by rw [upd_ne q4]; exact v4 _ _ upd_same)) (.of (by rw [upd_ne q4']; exact upd_same))
    rintro σ2 H2 ⟨m, b1, a1, b2, a2, b3, a3, b4, a4, rfl, T2, hm, RX2⟩
    -- rows, back
    refine ⟨fun σ' H' => ∃ rw bk, σ' = [some (.ref a), x1, x2, x3, some (.ref m), some (.ref rw), some (.ref bk), none, none, none, none, none, none, none, none] ∧ Tabs T H' ∧ WhX K w H' 3 (.ref rw) (.sts (evWs b1 a1 b2 a2 b3 a3 b4 a4)) ∧ WhX K w H' 2 (.ref bk) (.sts evL), ?_, ?_⟩
    · refine ⟨_, rfl, by show 3 ≤ sizeLine; omega, fun r0 n0 => fun m1 n1 => ⟨by show 3 ≤ sizeLine; omega, fun r1 n2 => ⟨by show 2 ≤ sizeLine; omega, fun rw n3 => fun m2 n4 => ⟨upd_same, .text "$", .atom rfl, by show 0 ≤ 8; decide, by show 2 ≤ sizeLine; omega, fun l0 n5 => fun m3 n6 => ⟨upd_same, .text "$", .atom rfl, by show 0 ≤ 8; decide, by show 2 ≤ sizeLine; omega, fun l1 n7 => ⟨by show 2 ≤ sizeLine; omega, fun bk n8 => ?_⟩⟩⟩⟩⟩⟩
      have s0 := same_upd (o := .tup [.ref m, .int 1, .str "c"]) n0
      have s1 := same_upd (o := dM w m1 []) n1
      have s2 := same_upd (o := .tup [.ref m1, .int 1, .str ""]) n2
      have s3 := same_upd (o := .tup [.ref r0, .ref r1]) n3
      have s4 := same_write (o := dM w m2 [(.text "$", .str "$", .int 1)]) n4 (same_upd (o := dM w m2 []) n4)
      have s5 := same_upd (o := .tup [.ref m2, .int 0]) n5
      have s6 := same_write (o := dM w m3 [(.text "$", .str "$", .int 0)]) n6 (same_upd (o := dM w m3 []) n6)
      have s7 := same_upd (o := .tup [.ref m3, .int 1]) n7
      have s8 := same_upd (o := .tup [.ref l0, .ref l1]) n8
      have t7 := s7.trans s8
      have t6 := s6.trans t7
      have t5 := s5.trans t6
      have t4 := s4.trans t5
      have t3 := s3.trans t4
      have t2 := s2.trans t3
      have t1 := s1.trans t2
      have t0 := s0.trans t1
      have bk2 : ∀ {d e : PyData}, d.bulk ≤ 1000 → e.bulk ≤ 1000 → ∀ x ∈ [d, e], x.bulk ≤ 1000 := fun h1 h2 x m => by
        simp only [List.mem_cons, List.not_mem_nil, or_false] at m
        rcases m with rfl | rfl
        · exact h1
        · exact h2
      have bk1 : ∀ {d : PyData}, d.bulk ≤ 1000 → ∀ x ∈ [d], x.bulk ≤ 1000 := fun h1 x m => by
        rw [List.mem_singleton.mp m]
        exact h1
      have lk : ∀ (G : Hp) (i : Int), 0 ≤ i → i < 2 → RowsX K G [lkRow (36, i)] := fun G i h0 h1 => (lkRows (K := K) (H := G) (vw := 2) (ps := [(36, i)]) (by simp) (by show 1 ≤ 100; decide) (by intro q m; rw [List.mem_singleton.mp m]; show 36 ∈ allSigns.cps.toList; decide +kernel) (by intro q m; rw [List.mem_singleton.mp m]; exact ⟨h0, h1⟩)).1
      refine ⟨_, _, rfl, rw, bk, rfl, Tabs.ext T2 t0, ?_, ?_⟩
      · exact ⟨rw, [.ref r0, .ref r1], rfl, .of (t4 _ _ upd_same), .cons ⟨r0, m, rfl, .of (t1 _ _ upd_same), .cons (.int 1) (.cons (.str "c") .nil), rfl, t0 _ _ hm, RX2.same t0, bk2 (by decide) (by decide +kernel)⟩
          (.cons ⟨r1, m1, rfl, .of (t3 _ _ upd_same), .cons (.int 1) (.cons (.str "") .nil), rfl, t2 _ _ upd_same, rowsx_nil, bk2 (by decide) (by decide +kernel)⟩ .nil), by show 2 ≤ 1000; decide⟩
      · exact ⟨bk, [.ref l0, .ref l1], rfl, .of upd_same, .cons ⟨l0, m2, rfl, .of (t6 _ _ upd_same), .cons (.int 0) .nil, rfl, t5 _ _ upd_same, lk _ 1 (by decide) (by decide), bk1 (by decide)⟩
          (.cons ⟨l1, m3, rfl, .of (s8 _ _ upd_same), .cons (.int 1) .nil, rfl, t7 _ _ upd_same, lk _ 0 (by decide) (by decide), bk1 (by decide)⟩ .nil), by show 2 ≤ 1000; decide⟩
    rintro σ3 H3 ⟨rw, bk, rfl, T3, hW3, hL3⟩
    have okW := whx_ok hW3 ev_bad
    have okL := whx_ok hL3 evl_bad
    -- even, free
    refine ⟨fun σ' H' => ∃ ev fr zs1 zs2, σ' = [some (.ref a), x1, x2, x3, some (.ref m), some (.ref rw), some (.ref bk), some (.ref fr), none, none, none, none, none, some (.ref ev), none] ∧ Tabs T H' ∧ ClR K w C H' ev (evWs b1 a1 b2 a2 b3 a3 b4 a4) evL evD zs1 ∧ ClR K w C H' fr (evWs b1 a1 b2 a2 b3 a3 b4 a4) evL frD zs2, ?_, ?_⟩
    · refine ⟨_, rfl, _, rfl, by show 2 ≤ sizeLine; omega, fun f1 n1 => ⟨rfl, rfl, ?_⟩⟩
      have s1 := same_upd (o := .tup [.int 0, .non]) n1
      refine init_at2 (dw := .sts (evWs b1 a1 b2 a2 b3 a3 b4 a4)) (dl := .sts evL) (df := .tuple evD) (E := fun _ _ _ => False) (CE := CE) (PT := T) (hW3.same s1) (.inr ⟨by simp, hL3.same s1⟩) (.tup (.of upd_same) (.cons (.int 0) (.cons .non .nil))) (by decide +kernel) (fun e => by cases e) (Tabs.ext T3 s1)
        (fun ok H4 ev fv4 kf4 dv4 ex4 tb4 ca4 => ?_) (fun no => absurd no (by rw [evP1]; simp))
      have e4 : ExtN H3 H4 := fun b o e nt => ex4 b o (s1 _ _ e) nt
      obtain ⟨zs1, R1⟩ := clr_new (ds := evD) ca4 dv4 evC1 (fun s m => (okW s m).ext e4) (fun s m => (okL s m).ext e4)
      have hW4 : WhX K w H4 3 (.ref rw) (.sts (evWs b1 a1 b2 a2 b3 a3 b4 a4)) := WhX.same (WhX.dat hW3) (dat_ext e4)
      have hL4 : WhX K w H4 2 (.ref bk) (.sts evL) := WhX.same (WhX.dat hL3) (dat_ext e4)
      refine ⟨_, rfl, _, rfl, rfl, rfl, ?_⟩
      refine init_at2 (dw := .sts (evWs b1 a1 b2 a2 b3 a3 b4 a4)) (dl := .sts evL) (df := .none) (E := fun _ _ _ => False) (CE := CE) (PT := T) hW4 (.inr ⟨by simp, hL4⟩) .non (by decide +kernel) (fun _ ss e => by cases e; show 2 ≤ 1000; decide) tb4
        (fun ok H5 fr fv5 kf5 dv5 ex5 tb5 ca5 => ?_) (fun no => absurd no (by rw [evP2]; simp))
      have e5 : ExtN H3 H5 := e4.trans ex5
      obtain ⟨zs2, R2⟩ := clr_new (ds := frD) ca5 dv5 evC2 (fun s m => (okW s m).ext e5) (fun s m => (okL s m).ext e5)
      refine ⟨by show 2 ≤ sizeLine; omega, fun T1 n2 => ?_⟩
      have s2 := same_upd (o := .tup [.ref ev, .ref fr]) n2
      exact ⟨T1, _, rfl, .of upd_same, rfl, _, _, rfl, _, _, rfl, rfl, ev, fr, zs1, zs2, rfl, Tabs.ext tb5 s2, (R1.ext ex5).same s2, R2.same s2⟩
    rintro σ4 H4 ⟨ev, fr, zs1, zs2, rfl, T4, R4, F4⟩
    -- told of even
    refine ⟨fun σ' H' => ∃ l, σ' = [some (.ref a), x1, x2, x3, some (.ref m), some (.ref rw), some (.ref bk), some (.ref fr), some (.ref l), none, none, none, none, some (.ref ev), none] ∧ Same H4 H' ∧ H' l = some (.lst evV), ?_, ?_⟩
    · refine ⟨by show 7 ≤ sizeLine; omega, fun tx ntx => ?_⟩
      have u1 := same_upd (o := .tup (evT.map V.str)) ntx
      refine ⟨tx, rfl, ⟨_, .of upd_same⟩, fun D nD => lc_it (walk_tup (xs := evT.map V.str)) (fun i H' => Same (upd H4 tx (.tup (evT.map V.str))) H' ∧ H' D = some (.lst ((evT.take i).map fun z => resV (resD (evWs b1 a1 b2 a2 b3 a3 b4 a4) evL evD z.cps.toList)))) ⟨same_upd nD, upd_same⟩ (fun i H' _ hP => .of (hP.1 _ _ upd_same)) (fun i v H' H'' hi hP hY => ?_) (fun H' hP => ?_)⟩
      · obtain ⟨sD, hD⟩ := hP
        obtain ⟨rfl, hx⟩ := hY
        rw [List.getElem?_map] at hx
        obtain ⟨z, hz, rfl⟩ := Option.map_eq_some_iff.mp hx
        have zo := List.all_eq_true.mp evT_ok z (List.mem_of_getElem? hz)
        rw [Bool.and_eq_true, decide_eq_true_iff] at zo
        have Rn := (R4.same u1).same sD
        refine ⟨rfl, _, rfl, ev, rfl, _, rfl, Rn.inst, call_at Rn zo.1 zo.2 rfl fun H6 s6 => ?_⟩
        refine ⟨_, s6 _ _ hD, by rw [List.length_map, List.length_take]; have : i < 7 := hi; omega, fun y o u => ?_, ?_⟩
        · rw [upd_ne (ne_of_none u nD)]
          exact s6 _ _ (sD _ _ u)
        · rw [upd_same, List.take_add_one, hz, List.map_append]
          rfl
      · obtain ⟨sD, hD⟩ := hP
        refine ⟨D, rfl, u1.trans sD, ?_⟩
        rw [hD, ← ev_all (a := b1) (b := a1) (c := b2) (d := a2) (e := b3) (f := a3) (g := b4) (h := a4)]
        rfl
    rintro σ5 H5 ⟨l5, rfl, s5, hl5⟩
    have evDp : ∀ {G : Hp} {z : Addr}, G z = some (.lst evV) → Dp K G (.ref z) evVd := fun h => .lst (.of h) (.cons (.str _) (.cons .non (.cons (.str _) (.cons (.str _) (.cons (.str _) (.cons (.str _) (.cons (.str _) .nil)))))))
    have R5 := R4.same s5
    have F5 := F4.same s5
    refine ⟨fun σ' H' => σ' = [some (.ref a), x1, x2, x3, some (.ref m), some (.ref rw), some (.ref bk), some (.ref fr), some (.ref l5), none, none, none, none, some (.ref ev), none] ∧ Same H5 H', ?_, ?_⟩
    · refine ⟨_, rfl, by show 7 ≤ sizeLine; omega, fun l2 n2 => ?_⟩
      have v2 := same_upd (o := .lst evV) n2
      exact ⟨evVd, evVd, evDp (v2 _ _ hl5), evDp (z := l2) upd_same, by decide +kernel, by decide +kernel, _, rfl, ite2 (fun e => absurd e (by decide +kernel)) (fun _ => ⟨rfl, v2⟩)⟩
    rintro σ6 H6 ⟨rfl, s6⟩
    have R6 := R5.same s6
    have F6 := F5.same s6
    -- told of free and even
    refine ⟨fun σ' H' => ∃ l, σ' = [some (.ref a), x1, x2, x3, some (.ref m), some (.ref rw), some (.ref bk), some (.ref fr), some (.ref l), none, none, none, none, some (.ref ev), none] ∧ Same H6 H' ∧ Dv K H' (.ref l) told5, ?_, ?_⟩
    · refine ⟨_, rfl, fr, rfl, F6.inst, call_at F6 (z := "$") (by decide +kernel) (by decide +kernel) fr1 fun H7 s7 => ?_⟩
      have F7 := F6.same s7
      refine ⟨_, rfl, fr, rfl, F7.inst, call_at F7 (z := "$$$") (by decide +kernel) (by decide +kernel) fr2 fun H8 s8 => ?_⟩
      have R8 := (R6.same s7).same s8
      obtain ⟨dx, tw, tl, to, g1, Tw, Tl, hx, _⟩ := id R8.at_
      refine ⟨_, rfl, ev, dx, _, rfl, hx, rfl, ?_⟩
      try dsimp only [tC, tCons, tNil]
      refine walk_at R8 (z := "$") (by decide +kernel) (by decide +kernel) wk1 fun H9 W1 v1 s9 hW1 dW1 => ?_
      have R9 := R8.same s9
      obtain ⟨dx, tw, tl, to, g1, Tw, Tl, hx, _⟩ := id R9.at_
      refine ⟨_, rfl, ev, dx, _, rfl, hx, rfl, ?_⟩
      try dsimp only [tC, tCons, tNil]
      refine views_at R9 (z := "$") (by decide +kernel) (by decide +kernel) vw1 fun H10 V1 s10 hV1 => ?_
      have R10 := R9.same s10
      obtain ⟨dx, tw, tl, to, g1, Tw, Tl, hx, _⟩ := id R10.at_
      refine ⟨_, rfl, ev, dx, _, rfl, hx, rfl, ?_⟩
      try dsimp only [tC, tCons, tNil]
      refine walk_at R10 (z := "") (by decide +kernel) (by decide +kernel) wk0 fun H11 W0 v0 s11 hW0 dW0 => ?_
      refine ⟨by show 5 ≤ sizeLine; omega, fun l nl => ?_⟩
      have u := same_upd (o := .lst [.str "$c", .str "$$", .ref W1, .ref V1, .ref W0]) nl
      refine ⟨l, rfl, ((((s7.trans s8).trans s9).trans s10).trans s11).trans u, .lst (.of upd_same) (.cons (.str _) (.cons (.str _) (.cons (.tup (same_tup ((s10.trans s11).trans u) hW1) (DvAll.same ((s10.trans s11).trans u) _ _ dW1)) (.cons (.tup (same_tup (s11.trans u) hV1) (.cons (.int 1) (.cons (.int 0) .nil))) (.cons (.tup (same_tup u hW0) (DvAll.same u _ _ dW0)) .nil)))))⟩
    rintro σ7 H7 ⟨l7, rfl, s7, d7⟩
    refine ⟨fun σ' H' => σ' = [some (.ref a), x1, x2, x3, some (.ref m), some (.ref rw), some (.ref bk), some (.ref fr), some (.ref l7), none, none, none, none, some (.ref ev), none] ∧ Same H7 H', ?_, ?_⟩
    · refine ⟨_, rfl, by show 0 ≤ sizeLine; omega, fun t0 n0 => ⟨by show 2 ≤ sizeLine; omega, fun t1 n1 => ⟨by show 2 ≤ sizeLine; omega, fun t2 n2 => ⟨by show 1 ≤ sizeLine; omega, fun t3 n3 => ⟨by show 5 ≤ sizeLine; omega, fun l nl => ?_⟩⟩⟩⟩⟩
      have u0 := same_upd (o := .tup []) n0
      have u1 := same_upd (o := .tup [.int 1, .int 0]) n1
      have u2 := same_upd (o := .tup [.int 0, .str ""]) n2
      have u3 := same_upd (o := .tup [.ref t2]) n3
      have u4 := same_upd (o := .lst [.str "$c", .str "$$", .ref t0, .ref t1, .ref t3]) nl
      have w3 := u3.trans u4
      have w2 := u2.trans w3
      have w1 := u1.trans w2
      have w0 := u0.trans w1
      exact ⟨told5, told5, dv_dp (d7.same' w0) (by decide +kernel), dv_dp (d := told5) (.lst (a := l) (.of upd_same) (.cons (.str _) (.cons (.str _) (.cons (.tup (.of (w1 _ _ upd_same)) .nil) (.cons (.tup (.of (w2 _ _ upd_same)) (.cons (.int 1) (.cons (.int 0) .nil))) (.cons (.tup (.of (u4 _ _ upd_same)) (.cons (.tup (.of (w3 _ _ upd_same)) (.cons (.int 0) (.cons (.str "") .nil))) .nil)) .nil)))))) (by decide +kernel),
        by decide +kernel, by decide +kernel, _, rfl, ite2 (fun e => absurd e (by decide +kernel)) (fun _ => ⟨rfl, w0⟩)⟩
    rintro σ8 H8 ⟨rfl, s8⟩
    have R8 := (R6.same s7).same s8
    refine ⟨fun σ' H' => σ' = [some (.ref a), x1, x2, x3, some (.ref m), some (.ref rw), some (.ref bk), some (.ref fr), some (.ref l7), none, none, none, none, some (.ref ev), none] ∧ Same H8 H', ?_, ?_⟩
    · obtain ⟨dx, tw, tl, to, g1, Tw, Tl, hx, _⟩ := id R8.at_
      refine ⟨_, rfl, ev, dx, _, rfl, hx, rfl, ?_⟩
      try dsimp only [tC, tCons, tNil]
      refine walk_at R8 (z := "ab") (by decide +kernel) (by decide +kernel) wk2 fun H9 W1 v1 s9 hW1 dW1 => ?_
      refine ⟨by show 2 ≤ sizeLine; omega, fun t0 n0 => ⟨by show 2 ≤ sizeLine; omega, fun t1 n1 => ⟨by show 2 ≤ sizeLine; omega, fun t2 n2 => ⟨by show 3 ≤ sizeLine; omega, fun t3 n3 => ?_⟩⟩⟩⟩
      have u0 := same_upd (o := .tup [.int 0, .str ""]) n0
      have u1 := same_upd (o := .tup [.int 0, .str "ab"]) n1
      have u2 := same_upd (o := .tup [.int 0, .str "ab"]) n2
      have u3 := same_upd (o := .tup [.ref t0, .ref t1, .ref t2]) n3
      have w2 := u2.trans u3
      have w1 := u1.trans w2
      have w0 := u0.trans w1
      exact ⟨wkAB, wkAB, dv_dp (d := wkAB) (.tup (same_tup w0 hW1) (DvAll.same w0 _ _ dW1)) (by decide +kernel), dv_dp (d := wkAB) (.tup (a := t3) (.of upd_same) (.cons (.tup (.of (w1 _ _ upd_same)) (.cons (.int 0) (.cons (.str _) .nil))) (.cons (.tup (.of (w2 _ _ upd_same)) (.cons (.int 0) (.cons (.str _) .nil))) (.cons (.tup (.of (u3 _ _ upd_same)) (.cons (.int 0) (.cons (.str _) .nil))) .nil)))) (by decide +kernel),
        by decide +kernel, by decide +kernel, _, rfl, ite2 (fun e => absurd e (by decide +kernel)) (fun _ => ⟨rfl, s9.trans w0⟩)⟩
    rintro σ9 H9 ⟨rfl, s9⟩
    have R9 := R8.same s9
    -- in, not in
    refine ⟨fun σ' H' => σ' = [some (.ref a), x1, x2, x3, some (.ref m), some (.ref rw), some (.ref bk), some (.ref fr), some (.ref l7), none, none, none, none, some (.ref ev), none] ∧ Same H9 H', ?_, ?_⟩
    · obtain ⟨dx, fs, hx⟩ := R9.inst
      refine ⟨"$", 2001, rfl, rfl, by decide, by decide, by decide, by decide, _, rfl, ev, dx, fs, rfl, hx, has_at R9 (z := rep "$" ((2001 : Nat) : Int)) (rep_ok (by decide)).1 (by rw [(rep_ok (n := 2001) (by decide)).2]; decide) (b := false) (by rw [rep_cps]; exact res_odd (n := 2001) rfl) fun H10 s10 => ⟨false, rfl, ?_⟩⟩
      refine ⟨_, rfl, ite2 (fun e => by cases e) (fun _ => ?_)⟩
      have R10 := R9.same s10
      obtain ⟨dx, fs, hx⟩ := R10.inst
      refine ⟨"$", 2002, rfl, rfl, by decide, by decide, by decide, by decide, _, rfl, ev, dx, fs, rfl, hx, has_at R10 (z := rep "$" ((2002 : Nat) : Int)) (rep_ok (by decide)).1 (by rw [(rep_ok (n := 2002) (by decide)).2]; decide) (b := true) (by rw [rep_cps]; exact res_even (n := 2002) rfl) fun H11 s11 => ⟨true, rfl, _, rfl, ite2 (fun e => by cases e) (fun _ => ?_)⟩⟩
      have R11 := R10.same s11
      obtain ⟨dx, fs, hx⟩ := R11.inst
      refine ⟨"$", 4000, rfl, rfl, by decide, by decide, by decide, by decide, _, rfl, ev, dx, fs, rfl, hx, has_at R11 (z := rep "$" ((4000 : Nat) : Int)) (rep_ok (by decide)).1 (by rw [(rep_ok (n := 4000) (by decide)).2]; decide) (b := true) (by rw [rep_cps]; exact res_even (n := 4000) rfl) fun H12 s12 => ⟨true, rfl, _, rfl, ite2 (fun e => by cases e) (fun _ => ?_)⟩⟩
      exact ⟨rfl, (s10.trans s11).trans s12⟩
    rintro σ10 H10 ⟨rfl, s10⟩
    have R10 := R9.same s10
    -- the long walk
    refine ⟨fun σ' H' => ∃ W vs, σ' = [some (.ref a), x1, x2, x3, some (.ref m), some (.ref rw), some (.ref bk), some (.ref fr), some (.ref l7), some (.ref W), none, none, none, some (.ref ev), none] ∧ Same H10 H' ∧ SqT K H' W vs ∧ DvAll K H' vs (walkD (evWs b1 a1 b2 a2 b3 a3 b4 a4) evL evD (List.replicate (1998 + 2) 36)), ?_, ?_⟩
    · obtain ⟨dx, tw, tl, to, g1, Tw, Tl, hx, _⟩ := id R10.at_
      refine ⟨_, rfl, ev, dx, _, rfl, hx, rfl, "$", 2000, rfl, rfl, by decide, by decide, by decide, by decide, ?_⟩
      try dsimp only [tC, tCons, tNil]
      refine walk_at R10 (z := rep "$" ((1998 + 2 : Nat) : Int)) (rep_ok (by decide)).1 (by rw [(rep_ok (n := 1998 + 2) (by decide)).2]; decide) (es := walkD (evWs b1 a1 b2 a2 b3 a3 b4 a4) evL evD (List.replicate (1998 + 2) 36)) (by rw [rep_cps]) fun H11 W1 v1 s11 hW1 dW1 => ?_
      exact ⟨W1, v1, rfl, s11, hW1, dW1⟩
    rintro σ11 H11 ⟨W, vs, rfl, s11, hW, dW⟩
    obtain ⟨wl1, wl2⟩ := walkL (a := b1) (b := a1) (c := b2) (d := a2) (e := b3) (f := a3) (g := b4) (h := a4) (m := 1998) rfl
    have vl : vs.length = 2001 := by rw [dW.length, wl1]
    obtain ⟨zz, hz1, hz2, zsg⟩ := z1999
    rw [hz2] at wl2
    obtain ⟨L, hL1, hL2⟩ := dv_pairAt dW wl2
    refine ⟨fun σ' H' => σ' = [some (.ref a), x1, x2, x3, some (.ref m), some (.ref rw), some (.ref bk), some (.ref fr), some (.ref l7), some (.ref W), none, none, none, some (.ref ev), none] ∧ Same H11 H', ?_, ?_⟩
    · refine ⟨_, rfl, W, vs, rfl, .inr hW, rfl, _, rfl, ite2 (fun e => ?_) (fun _ => ?_)⟩
      · rw [vl] at e
        exact absurd e (by decide)
      · refine ⟨_, rfl, 1, rfl, W, vs, -1, .ref L, rfl, rfl, hW, atI_last (n := 2000) vl hL1, ?_⟩
        refine ⟨"$", 1999, rfl, rfl, by decide, by decide, by decide, by decide, ?_⟩
        rw [hz1]
        refine ⟨by show 2 ≤ sizeLine; omega, fun t nt => ?_⟩
        have u := same_upd (o := .tup [.int 1, .str zz]) nt
        refine ⟨.tuple [.int 1, .str zz], .tuple [.int 1, .str zz], .tup (same_tup u hL2) (.cons (.int 1) (.cons (.str _) .nil)), .tup (a := t) (.of upd_same) (.cons (.int 1) (.cons (.str _) .nil)), pair_shape zsg, pair_shape zsg, _, rfl, ite2 (fun e => ?_) (fun _ => ⟨rfl, u⟩)⟩
        rw [pair_self] at e
        cases e
    rintro σ12 H12 ⟨rfl, s12⟩
    have R12 := (R10.same s11).same s12
    have T12 : Tabs T H12 := Tabs.ext T4 (s5.trans (s6.trans (s7.trans (s8.trans (s9.trans (s10.trans (s11.trans s12)))))))
    -- three that raise
    refine ⟨fun σ' H' => ∃ l, σ' = [some (.ref a), x1, x2, x3, some (.ref m), some (.ref rw), some (.ref bk), some (.ref fr), some (.ref l), some (.ref W), none, none, none, some (.ref ev), none] ∧ ExtN H12 H' ∧ Tabs T H' ∧ Off H12 l ∧ H' l = some (.lst [.str "no text"]), ?_, ?_⟩
    · refine ⟨T12, fun H13 eN T13 => ?_⟩
      have R13 := R12.ext eN
      refine ⟨_, rfl, ev, rfl, "$", 2001, rfl, rfl, by decide, by decide, by decide, by decide, R13.inst, long_at R13 (z := rep "$" ((2001 : Nat) : Int)) (by rw [(rep_ok (n := 2001) (by decide)).2]; decide) (by rw [(rep_ok (n := 2001) (by decide)).2]; decide) fun H14 s14 => ⟨true, eT, fun _ => ?_, fun e => by cases e⟩⟩
      have e14 : ExtN H12 H14 := eN.trans (ExtN.of s14)
      exact ⟨by show 1 ≤ sizeLine; omega, fun l nl => ⟨l, rfl, e14.trans (ExtN.of (same_upd nl)), Tabs.ext (Tabs.ext T13 s14) (same_upd nl), off_new e14 nl, upd_same⟩⟩
    rintro σ13 H13 ⟨l, rfl, e13, T13, ol, hl13⟩
    have R13 := R12.ext e13
    refine ⟨fun σ' H' => σ' = [some (.ref a), x1, x2, x3, some (.ref m), some (.ref rw), some (.ref bk), some (.ref fr), some (.ref l), some (.ref W), none, none, none, some (.ref ev), none] ∧ ExtN H12 H' ∧ Tabs T H' ∧ H' l = some (.lst [.str "no text", .str "no text"]), ?_, ?_⟩
    · refine ⟨_, rfl, .inl ⟨rfl, _, .of hl13⟩, T13, fun H14 eN T14 => ?_⟩
      have R14 := R13.ext eN
      obtain ⟨dx, tw, tl, to, g1, Tw, Tl, hx, _⟩ := id R14.at_
      refine ⟨_, rfl, ev, dx, _, rfl, hx, rfl, "$", 2001, rfl, rfl, by decide, by decide, by decide, by decide, ?_⟩
      try dsimp only [tC, tCons, tNil]
      refine long_at R14 (z := rep "$" ((2001 : Nat) : Int)) (by rw [(rep_ok (n := 2001) (by decide)).2]; decide) (by rw [(rep_ok (n := 2001) (by decide)).2]; decide) fun H15 s15 => ⟨true, eT, fun _ => ?_, fun e => by cases e⟩
      have e15 : ExtN H12 H15 := (e13.trans eN).trans (ExtN.of s15)
      have hl15 := s15 _ _ (eN _ _ hl13 fun ps z => by cases z)
      exact ⟨l, _, _, rfl, rfl, hl15, by show 1 < sizeLine; omega, rfl, off_put e15 ol, tabs_putL hl15 (Tabs.ext T14 s15), upd_same⟩
    rintro σ14 H14 ⟨rfl, e14, T14, hl14⟩
    have R14 := R12.ext e14
    refine ⟨fun σ' H' => σ' = [some (.ref a), x1, x2, x3, some (.ref m), some (.ref rw), some (.ref bk), some (.ref fr), some (.ref l), some (.ref W), none, none, none, some (.ref ev), none] ∧ ExtN H12 H' ∧ Tabs T H' ∧ H' l = some (.lst [.str "no text", .str "no text", .str "no text"]), ?_, ?_⟩
    · refine ⟨_, rfl, .inl ⟨rfl, _, .of hl14⟩, T14, fun H15 eN T15 => ?_⟩
      have R15 := R14.ext eN
      obtain ⟨dx, tw, tl, to, g1, Tw, Tl, hx, _⟩ := id R15.at_
      refine ⟨_, rfl, ev, dx, _, rfl, hx, rfl, "$", 2001, rfl, rfl, by decide, by decide, by decide, by decide, ?_⟩
      try dsimp only [tC, tCons, tNil]
      refine long_at R15 (z := rep "$" ((2001 : Nat) : Int)) (by rw [(rep_ok (n := 2001) (by decide)).2]; decide) (by rw [(rep_ok (n := 2001) (by decide)).2]; decide) fun H16 s16 => ⟨true, eT, fun _ => ?_, fun e => by cases e⟩
      have e16 : ExtN H12 H16 := (e14.trans eN).trans (ExtN.of s16)
      have hl16 := s16 _ _ (eN _ _ hl14 fun ps z => by cases z)
      exact ⟨l, _, _, rfl, rfl, hl16, by show 2 < sizeLine; omega, rfl, off_put e16 ol, tabs_putL hl16 (Tabs.ext T15 s16), upd_same⟩
    rintro σ15 H15 ⟨rfl, e15, T15, hl15⟩
    have R15 := R12.ext e15
    have three : ∀ {G : Hp} {q : Addr}, G q = some (.lst [.str "no text", .str "no text", .str "no text"]) → Dp K G (.ref q) (.list [.str "no text", .str "no text", .str "no text"]) := fun e => .lst (.of e) (.cons (.str _) (.cons (.str _) (.cons (.str _) .nil)))
    refine ⟨fun σ' H' => σ' = [some (.ref a), x1, x2, x3, some (.ref m), some (.ref rw), some (.ref bk), some (.ref fr), some (.ref l), some (.ref W), none, none, none, some (.ref ev), none] ∧ Tabs T H', ?_, ?_⟩
    · refine ⟨_, rfl, by show 1 ≤ sizeLine; omega, fun m1 n1 => ⟨m1, 3, _, rfl, rfl, upd_same, by decide, by decide, by show 1 * 3 ≤ sizeLine; omega, fun m2 n2 => ?_⟩⟩
      have u1 := same_upd (o := .lst [.str "no text"]) n1
      have u2 := same_upd (o := .lst [.str "no text", .str "no text", .str "no text"]) n2
      refine ⟨_, _, three (u2 _ _ (u1 _ _ hl15)), three (q := m2) upd_same, by decide +kernel, by decide +kernel, _, rfl, ite2 (fun e => absurd e (by decide +kernel)) (fun _ => ?_)⟩
      have R16 := R15.same (u1.trans u2)
      refine ⟨_, rfl, ev, rfl, "$", 2000, rfl, rfl, by decide, by decide, by decide, by decide, R16.inst, call_at R16 (z := rep "$" ((1998 + 2 : Nat) : Int)) (rep_ok (by decide)).1 (by rw [(rep_ok (n := 1998 + 2) (by decide)).2]; decide) (r := some zz) (by rw [rep_cps, resL (m := 1998) rfl, hz2]) fun H17 s17 => ?_⟩
      refine ⟨"$", 1999, rfl, rfl, by decide, by decide, by decide, by decide, ?_⟩
      rw [hz1]
      exact ⟨rfl, _, rfl, ite2 (fun e => absurd (show (!decide (V.str zz = V.str zz)) = true from e) (by simp)) (fun _ => ⟨rfl, Tabs.ext T15 ((u1.trans u2).trans s17)⟩)⟩
    rintro σ16 H16 ⟨rfl, T16⟩
    -- the ring
    refine ⟨fun σ' H' => ∃ rs, σ' = [some (.ref a), x1, x2, x3, some (.ref m), some (.ref rs), some (.ref bk), some (.ref fr), some (.ref l), some (.ref W), none, none, none, some (.ref ev), none] ∧ Tabs T H' ∧ H' rs = some (.lst []), ?_, ?_⟩
    · exact ⟨by show 0 ≤ sizeLine; omega, fun rs nrs => ⟨rs, rfl, Tabs.ext T16 (same_upd nrs), upd_same⟩⟩
    rintro σ17 H17 ⟨rs, rfl, T17, hrs⟩
    refine ⟨fun σ' H' => ∃ (x1 x10 x11 : Option V) (f : Nat → Nat → Addr) (xs : List V), σ' = [some (.ref a), x1, x2, x3, some (.ref m), some (.ref rs), some (.ref bk), some (.ref fr), some (.ref l), some (.ref W), x10, x11, none, some (.ref ev), none] ∧ Tabs T H' ∧ H' rs = some (.lst xs) ∧ Paired (StX K w (hid rs H') 3) xs ((List.range 4).map fun j => rgAt j (f j)), ?_, ?_⟩
    · refine ⟨_, rfl, by decide, by decide, for_range (lo := 0) (fun i σ' H' => ∃ (x1 x10 x11 : Option V) (f : Nat → Nat → Addr) (xs : List V), σ' = [some (.ref a), x1, x2, x3, some (.ref m), some (.ref rs), some (.ref bk), some (.ref fr), some (.ref l), some (.ref W), x10, x11, none, some (.ref ev), none] ∧ Tabs T H' ∧ H' rs = some (.lst xs) ∧ Paired (StX K w (hid rs H') 3) xs ((List.range i).map fun j => rgAt j (f j))) ⟨x1, none, none, fun _ _ => 0, [], rfl, T17, hrs, .nil⟩ (fun i σ' H' hi hP => ?_) (fun σ' H' hP => hP)⟩
      obtain ⟨y1, y10, y11, f, xs, rfl, Ti, hxs, hPr⟩ := hP
      have hi : i < 4 := hi
      have el : (0 + (i : Int) + 1) % 4 = (((i + 1) % 4 : Nat) : Int) := by omega
      refine ⟨_, rfl, _, _, rfl, rfl, .inl ⟨_, rfl, _, _, rfl, rfl, (by show (0 : Int) < 4; decide), ?_⟩⟩
      intro mm nm
      refine ⟨by show 2 ≤ sizeLine; omega, fun a1 n1 => ⟨_, rfl, by show 2 ≤ sizeLine; omega, fun b1 m1 => ⟨by show 2 ≤ sizeLine; omega, fun a2 n2 => ⟨_, rfl, by show 2 ≤ sizeLine; omega, fun b2 m2 => ⟨by show 2 ≤ sizeLine; omega, fun a3 n3 => ⟨_, rfl, by show 2 ≤ sizeLine; omega, fun b3 m3 => ⟨by show 2 ≤ sizeLine; omega, fun a4 n4 => ⟨_, rfl, by show 2 ≤ sizeLine; omega, fun b4 m4 => ?_⟩⟩⟩⟩⟩⟩⟩⟩
      have u0 := same_upd (o := dM w mm []) nm
      have u1 := same_upd (o := .tup [.str "a", .int 0]) n1
      have v1 := same_upd (o := .tup [.str "0", .int ((0 + (i : Int) + 1) % 4)]) m1
      have u2 := same_upd (o := .tup [.str "a", .int 1]) n2
      have v2 := same_upd (o := .tup [.str "1", .int ((0 + (i : Int) + 1) % 4)]) m2
      have u3 := same_upd (o := .tup [.str "b", .int 2]) n3
      have v3 := same_upd (o := .tup [.str "2", .int ((0 + (i : Int) + 1) % 4)]) m3
      have u4 := same_upd (o := .tup [.str "b", .non]) n4
      have v4 := same_upd (o := .tup [.str ":", .int ((0 + (i : Int) + 1) % 4)]) m4
      have s3 := u4.trans v4
      have s3' := v3.trans s3
      have s2 := u3.trans s3'
      have s2' := v2.trans s2
      have s1 := u2.trans s2'
      have s1' := v1.trans s1
      have s0 := u1.trans s1'
      have c0 : (upd H' mm (dM w mm [])) mm = some (dM w mm []) := upd_same
      have c1 := u1 _ _ c0
      have c1' := v1 _ _ c1
      have c2 := u2 _ _ c1'
      have c2' := v2 _ _ c2
      have c3 := u3 _ _ c2'
      have c3' := v3 _ _ c3
      have c4 := u4 _ _ c3'
      have c5 := v4 _ _ c4
      have q1 := (ne_of_none c0 n1).symm
      have q1' := (ne_of_none c1 m1).symm
      have q2 := (ne_of_none c1' n2).symm
      have q2' := (ne_of_none c2 m2).symm
      have q3 := (ne_of_none c2' n3).symm
      have q3' := (ne_of_none c3 m3).symm
      have q4 := (ne_of_none c3' n4).symm
      have q4' := (ne_of_none c4 m4).symm
      have rowsAt : ∀ {G : Hp}, SqT K G a1 [.str "a", .int 0] → SqT K G b1 [.str "0", .int ((0 + (i : Int) + 1) % 4)] → SqT K G a2 [.str "a", .int 1] → SqT K G b2 [.str "1", .int ((0 + (i : Int) + 1) % 4)] → SqT K G a3 [.str "b", .int 2] → SqT K G b3 [.str "2", .int ((0 + (i : Int) + 1) % 4)] → SqT K G a4 [.str "b", .non] → SqT K G b4 [.str ":", .int ((0 + (i : Int) + 1) % 4)] →
          RowsX K G [mvRow 97 (.num 0) (.int 0) "0" (((i + 1) % 4 : Nat) : Int) b1 a1, mvRow 97 (.num 1) (.int 1) "1" (((i + 1) % 4 : Nat) : Int) b2 a2, mvRow 98 (.num 2) (.int 2) "2" (((i + 1) % 4 : Nat) : Int) b3 a3, mvRow 98 .none .none ":" (((i + 1) % 4 : Nat) : Int) b4 a4] := fun h1 k1 h2 k2 h3 k3 h4 k4 => by
        rw [el] at k1 k2 k3 k4
        refine rowsx_of (fun r hr => ?_) rgNd (by show 4 ≤ 1000; decide)
        simp only [List.mem_cons, List.not_mem_nil, or_false] at hr
        rcases hr with rfl | rfl | rfl | rfl
        · exact mv_ok h1 k1 (.inr ⟨0, rfl, rfl, rfl⟩) (by decide +kernel) (by decide +kernel)
        · exact mv_ok h2 k2 (.inr ⟨1, rfl, rfl, rfl⟩) (by decide +kernel) (by decide +kernel)
        · exact mv_ok h3 k3 (.inr ⟨2, rfl, rfl, rfl⟩) (by decide +kernel) (by decide +kernel)
        · exact mv_ok h4 k4 (.inl ⟨rfl, rfl, rfl⟩) (by decide +kernel) (by decide +kernel)
      have R0 := rowsAt (.of (s1' _ _ upd_same)) (.of (s1 _ _ upd_same)) (.of (s2' _ _ upd_same)) (.of (s2 _ _ upd_same)) (.of (s3' _ _ upd_same)) (.of (s3 _ _ upd_same)) (.of (v4 _ _ upd_same)) (.of upd_same)
      refine ⟨c5, List.map (fun r : RX => r.1) [mvRow 97 (.num 0) (.int 0) "0" (((i + 1) % 4 : Nat) : Int) b1 a1, mvRow 97 (.num 1) (.int 1) "1" (((i + 1) % 4 : Nat) : Int) b2 a2, mvRow 98 (.num 2) (.int 2) "2" (((i + 1) % 4 : Nat) : Int) b3 a3, mvRow 98 .none .none ":" (((i + 1) % 4 : Nat) : Int) b4 a4], rfl, R0.ks, R0.nd, by show 4 ≤ 15; decide, ?_⟩
      have rsm : rs ≠ mm := ne_of_none hxs nm
      have sG := u0.trans s0
      have r1 := ne_of_none (u0 _ _ hxs) n1
      have r1' := ne_of_none (u1 _ _ (u0 _ _ hxs)) m1
      have r2 := ne_of_none ((u0.trans (u1.trans v1)) _ _ hxs) n2
      have r2' := ne_of_none ((u0.trans (u1.trans (v1.trans u2))) _ _ hxs) m2
      have r3 := ne_of_none ((u0.trans (u1.trans (v1.trans (u2.trans v2)))) _ _ hxs) n3
      have r3' := ne_of_none ((u0.trans (u1.trans (v1.trans (u2.trans (v2.trans u3))))) _ _ hxs) m3
      have r4 := ne_of_none ((u0.trans (u1.trans (v1.trans (u2.trans (v2.trans (u3.trans v3)))))) _ _ hxs) n4
      have r4' := ne_of_none ((u0.trans (u1.trans (v1.trans (u2.trans (v2.trans (u3.trans (v3.trans u4))))))) _ _ hxs) m4
      have hat : atI ("#$_:" : Str).cps.toList (0 + (i : Int)) = some (("#$_:" : Str).cps.toList.getD i 0) := by
        have : i = 0 ∨ i = 1 ∨ i = 2 ∨ i = 3 := by omega
        rcases this with rfl | rfl | rfl | rfl <;> decide +kernel
      refine ⟨_, rfl, .inl ⟨rfl, _, .of ((upd_ne rsm).trans (sG _ _ hxs))⟩, _, rfl, _, rfl, _, rfl, "#$_:", _, _, rfl, rfl, by decide +kernel, hat, by show 3 ≤ sizeLine; omega, fun r nr => ?_⟩
      have sR := same_upd (o := .tup [.ref mm, .int ((0 + (i : Int) + 1) % 4), .str ⟨#[("#$_:" : Str).cps.toList.getD i 0]⟩]) nr
      have sH := (same_write (o := dM w mm (List.map (fun r : RX => r.1) [mvRow 97 (.num 0) (.int 0) "0" (((i + 1) % 4 : Nat) : Int) b1 a1, mvRow 97 (.num 1) (.int 1) "1" (((i + 1) % 4 : Nat) : Int) b2 a2, mvRow 98 (.num 2) (.int 2) "2" (((i + 1) % 4 : Nat) : Int) b3 a3, mvRow 98 .none .none ":" (((i + 1) % 4 : Nat) : Int) b4 a4])) nm sG).trans sR
      have hxsR := sH _ _ hxs
      have xl : xs.length = i := by
        have := MD.paired_len hPr
        rw [this, List.length_map, List.length_range]
      refine ⟨rs, _, _, rfl, rfl, hxsR, by rw [xl]; omega, _, _, _, fun j => if j = i then (fun k => [b1, a1, b2, a2, b3, a3, b4, a4].getD k 0) else f j, xs ++ [.ref r], rfl, tabs_putL hxsR (Tabs.ext Ti sH), upd_same, ?_⟩
      have rr : r ≠ rs := fun z => by
        rw [z, (upd_ne rsm).trans (sG _ _ hxs)] at nr
        cases nr
      have get : ∀ {b : Addr} {o : HO} {G : Hp} {u u' : HO}, b ≠ rs → b ≠ mm → G b = some o → b ≠ r → hid rs (upd (upd (upd G mm u) r u') rs (.lst (xs ++ [.ref r]))) b = some o := fun h1 h2 e h3 => by
        rw [hid_ne h1, upd_ne h1, upd_ne h3, upd_ne h2]
        exact e
      rw [List.range_succ, List.map_append]
      refine pairedApp ?_ (.cons ?_ .nil)
      · have em : (List.range i).map (fun j => rgAt j (if j = i then (fun k => [b1, a1, b2, a2, b3, a3, b4, a4].getD k 0) else f j)) = (List.range i).map (fun j => rgAt j (f j)) := List.map_congr_left fun j hj => by
          rw [if_neg (by have := List.mem_range.mp hj; omega)]
        rw [em]
        exact pairedI2 (fun _ _ z => z.same (hid_same fun b o n e => by
          rw [upd_ne n]
          exact sH _ _ e)) hPr
      · show StX K w _ 3 (.ref r) (rgAt i (if i = i then (fun k => [b1, a1, b2, a2, b3, a3, b4, a4].getD k 0) else f i))
        rw [if_pos rfl]
        have n1' := (ne_of_none ((upd_ne q1).trans (s1' _ _ upd_same)) nr)
        have m1' := (ne_of_none ((upd_ne q1').trans (s1 _ _ upd_same)) nr)
        have n2' := (ne_of_none ((upd_ne q2).trans (s2' _ _ upd_same)) nr)
        have m2' := (ne_of_none ((upd_ne q2').trans (s2 _ _ upd_same)) nr)
        have n3' := (ne_of_none ((upd_ne q3).trans (s3' _ _ upd_same)) nr)
        have m3' := (ne_of_none ((upd_ne q3').trans (s3 _ _ upd_same)) nr)
        have n4' := (ne_of_none ((upd_ne q4).trans (v4 _ _ upd_same)) nr)
        have m4' := (ne_of_none ((upd_ne q4').trans upd_same) nr)
        refine ⟨r, mm, rfl, .of ?_, .cons (.int _) (.cons (.str _) .nil), rfl, ?_, ?_, ?_⟩
        · rw [hid_ne rr, upd_ne rr, upd_same]
          show some (HO.tup [V.ref mm, V.int ((0 + (i : Int) + 1) % 4), V.str ⟨#[("#$_:" : Str).cps.toList.getD i 0]⟩]) = _
          rw [el]
          rfl
        · rw [hid_ne rsm.symm, upd_ne rsm.symm, upd_ne (ne_of_none upd_same nr), upd_same]
          rfl
        · exact rowsAt (.of (get r1.symm q1 (s1' _ _ upd_same) n1')) (.of (get r1'.symm q1' (s1 _ _ upd_same) m1')) (.of (get r2.symm q2 (s2' _ _ upd_same) n2')) (.of (get r2'.symm q2' (s2 _ _ upd_same) m2')) (.of (get r3.symm q3 (s3' _ _ upd_same) n3')) (.of (get r3'.symm q3' (s3 _ _ upd_same) m3')) (.of (get r4.symm q4 (v4 _ _ upd_same) n4')) (.of (get r4'.symm q4' upd_same m4'))
        · intro d hd
          simp only [List.mem_cons, List.not_mem_nil, or_false] at hd
          rcases hd with rfl | rfl
          · exact Nat.zero_le 1000
          · exact Nat.le_of_lt (by show 1 < 1000; decide)
    rintro σ18 H18 ⟨y1, y10, y11, f, xs, rfl, T18, hxs, hPr⟩
    have hPs : Paired (StX K w H18 3) xs (rgWs (f 0) (f 1) (f 2) (f 3)) := pairedI2 (fun _ _ z => z.same hid_out) hPr
    -- its look
    refine ⟨fun σ' H' => ∃ bk2, σ' = [some (.ref a), y1, x2, x3, some (.ref m), some (.ref rs), some (.ref bk2), some (.ref fr), some (.ref l), some (.ref W), y10, y11, none, some (.ref ev), none] ∧ Same H18 H' ∧ WhX K w H' 2 (.ref bk2) (.sts rgLs), ?_, ?_⟩
    · refine fun m2 n4 => ⟨upd_same, .text "a", .atom rfl, by show 0 ≤ 8; decide, by show 2 ≤ sizeLine; omega, fun l0 n5 => fun m3 n6 => ⟨upd_same, .text "a", .atom rfl, by show 0 ≤ 8; decide, by show 2 ≤ sizeLine; omega, fun l1 n7 => fun m4 n8 => ⟨upd_same, .text "a", .atom rfl, by show 0 ≤ 8; decide, by show 2 ≤ sizeLine; omega, fun l2 n9 => ⟨by show 3 ≤ sizeLine; omega, fun bk2 n10 => ?_⟩⟩⟩⟩
      have s4 := same_write (o := dM w m2 [(.text "a", .str "a", .int 1)]) n4 (same_upd (o := dM w m2 []) n4)
      have s5 := same_upd (o := .tup [.ref m2, .int 0]) n5
      have s6 := same_write (o := dM w m3 [(.text "a", .str "a", .int 2)]) n6 (same_upd (o := dM w m3 []) n6)
      have s7 := same_upd (o := .tup [.ref m3, .int 1]) n7
      have s8 := same_write (o := dM w m4 [(.text "a", .str "a", .int 0)]) n8 (same_upd (o := dM w m4 []) n8)
      have s9 := same_upd (o := .tup [.ref m4, .int 2]) n9
      have s10 := same_upd (o := .tup [.ref l0, .ref l1, .ref l2]) n10
      have t9 := s9.trans s10
      have t8 := s8.trans t9
      have t7 := s7.trans t8
      have t6 := s6.trans t7
      have t5 := s5.trans t6
      have t4 := s4.trans t5
      have bk1 : ∀ {d : PyData}, d.bulk ≤ 1000 → ∀ x ∈ [d], x.bulk ≤ 1000 := fun h1 x m => by
        rw [List.mem_singleton.mp m]
        exact h1
      have lk : ∀ (G : Hp) (i : Int), 0 ≤ i → i < 3 → RowsX K G [lkRow (97, i)] := fun G i h0 h1 => (lkRows (K := K) (H := G) (vw := 3) (ps := [(97, i)]) (by simp) (by show 1 ≤ 100; decide) (by intro q m; rw [List.mem_singleton.mp m]; show 97 ∈ allSigns.cps.toList; decide +kernel) (by intro q m; rw [List.mem_singleton.mp m]; exact ⟨h0, h1⟩)).1
      exact ⟨bk2, rfl, t4, bk2, [.ref l0, .ref l1, .ref l2], rfl, .of upd_same, .cons ⟨l0, m2, rfl, .of (t6 _ _ upd_same), .cons (.int 0) .nil, rfl, t5 _ _ upd_same, lk _ 1 (by decide) (by decide), bk1 (by decide)⟩
          (.cons ⟨l1, m3, rfl, .of (t8 _ _ upd_same), .cons (.int 1) .nil, rfl, t7 _ _ upd_same, lk _ 2 (by decide) (by decide), bk1 (by decide)⟩
          (.cons ⟨l2, m4, rfl, .of (s10 _ _ upd_same), .cons (.int 2) .nil, rfl, t9 _ _ upd_same, lk _ 0 (by decide) (by decide), bk1 (by decide)⟩ .nil)), by show 3 ≤ 1000; decide⟩
    rintro σ19 H19 ⟨bk2, rfl, s19, hL19⟩
    have T19 := Tabs.ext T18 s19
    have hxs19 := s19 _ _ hxs
    have hPs19 : Paired (StX K w H19 3) xs (rgWs (f 0) (f 1) (f 2) (f 3)) := pairedI2 (fun _ _ z => z.same s19) hPs
    refine ⟨fun σ' H' => ∃ rg zs3, σ' = [some (.ref a), y1, x2, x3, some (.ref m), some (.ref rs), some (.ref bk2), some (.ref fr), some (.ref l), some (.ref W), y10, y11, some (.ref rg), some (.ref ev), none] ∧ ClR K w C H' rg (rgWs (f 0) (f 1) (f 2) (f 3)) rgLs rgD zs3, ?_, ?_⟩
    · refine ⟨_, rfl, rs, xs, rfl, .inl ⟨.of hxs19, fun tr ntr => ⟨_, rfl, by show 3 ≤ sizeLine; omega, fun f1 nf1 => ⟨rfl, rfl, ?_⟩⟩⟩⟩
      have u1 := same_upd (o := .tup xs) ntr
      have u2 := same_upd (o := .tup [.int 0, .int 1, .int 2]) nf1
      have hWr : WhX K w (upd (upd H19 tr (.tup xs)) f1 (.tup [.int 0, .int 1, .int 2])) 3 (.ref tr) (.sts (rgWs (f 0) (f 1) (f 2) (f 3))) := ⟨tr, xs, rfl, .of (u2 _ _ upd_same), pairedI2 (fun _ _ z => z.same (u1.trans u2)) hPs19, by rw [MD.paired_len hPs19]; show 4 ≤ 1000; decide⟩
      have hLr := hL19.same (u1.trans u2)
      have okWr := whx_ok hWr rg_bad
      have okLr := whx_ok hLr rgl_bad
      refine init_at2 (dw := .sts (rgWs (f 0) (f 1) (f 2) (f 3))) (dl := .sts rgLs) (df := .tuple rgD) (E := fun _ _ _ => False) (CE := CE) (PT := T) hWr (.inr ⟨by simp, hLr⟩) (.tup (.of upd_same) (.cons (.int 0) (.cons (.int 1) (.cons (.int 2) .nil)))) (by decide +kernel) (fun e => by cases e) (Tabs.ext T19 (u1.trans u2))
        (fun ok H20 rg fv4 kf4 dv4 ex4 tb4 ca4 => ?_) (fun no => absurd no (by rw [rgP]; simp))
      obtain ⟨zs3, R20⟩ := clr_new (ds := rgD) ca4 dv4 rgC (fun s m => (okWr s m).ext ex4) (fun s m => (okLr s m).ext ex4)
      exact ⟨rg, zs3, rfl, R20⟩
    rintro σ20 H20 ⟨rg, zs3, rfl, R20⟩
    refine ⟨by show 5 ≤ sizeLine; omega, fun tx ntx => ?_⟩
    have u1 := same_upd (o := .tup (rgTx.map V.str)) ntx
    refine ⟨tx, rfl, ⟨_, .of upd_same⟩, fun D nD => lc_it (walk_tup (xs := rgTx.map V.str)) (fun i H' => Same (upd H20 tx (.tup (rgTx.map V.str))) H' ∧ H' D = some (.lst ((rgTx.take i).map fun z => resV (resD (rgWs (f 0) (f 1) (f 2) (f 3)) rgLs rgD z.cps.toList)))) ⟨same_upd nD, upd_same⟩ (fun i H' _ hP => .of (hP.1 _ _ upd_same)) (fun i v H' H'' hi hP hY => ?_) (fun H' hP => ?_)⟩
    · obtain ⟨sD, hD⟩ := hP
      obtain ⟨rfl, hx⟩ := hY
      rw [List.getElem?_map] at hx
      obtain ⟨z, hz, rfl⟩ := Option.map_eq_some_iff.mp hx
      have zo := List.all_eq_true.mp rgTx_ok z (List.mem_of_getElem? hz)
      rw [Bool.and_eq_true, decide_eq_true_iff] at zo
      have Rn := (R20.same u1).same sD
      refine ⟨rfl, _, rfl, rg, rfl, _, rfl, Rn.inst, call_at Rn zo.1 zo.2 rfl fun H6 s6 => ?_⟩
      refine ⟨_, s6 _ _ hD, by rw [List.length_map, List.length_take]; have : i < 5 := hi; omega, fun y o u => ?_, ?_⟩
      · rw [upd_ne (ne_of_none u nD)]
        exact s6 _ _ (sD _ _ u)
      · rw [upd_same, List.take_add_one, hz, List.map_append]
        rfl
    · obtain ⟨sD, hD⟩ := hP
      have hD2 : H' D = some (.lst rgV) := by
        rw [hD, ← rg_all (t0 := f 0) (t1 := f 1) (t2 := f 2) (t3 := f 3)]
        rfl
      have rgDp : ∀ {G : Hp} {z : Addr}, G z = some (.lst rgV) → Dp K G (.ref z) rgVd := fun h => .lst (.of h) (.cons (.str _) (.cons (.str _) (.cons (.str _) (.cons (.str _) (.cons (.str _) .nil)))))
      refine ⟨by show 5 ≤ sizeLine; omega, fun l2 n2 => ?_⟩
      have v2 := same_upd (o := .lst rgV) n2
      refine ⟨rgVd, rgVd, rgDp (v2 _ _ hD2), rgDp (z := l2) upd_same, by decide +kernel, by decide +kernel, ?_⟩
      rw [show PyData.eqv rgVd rgVd = true by decide +kernel]
      exact q _
end
end K0
end
/-! ### HK14 -/
section
set_option Elab.async false
set_option linter.all false
set_option maxRecDepth 100000
set_option maxHeartbeats 0
/-! What heads of laws over cleaners tell: rows of the class, side facts. -/
namespace K0
open PySem PySem.Spec PyProof.Rows L2 LamX OE
def dfrk (m q : Str) (j : Nat) (kw : List (Str × He.Dv)) : He.DefD := ⟨("Cleaner", some m), m, q, defArgs (crow j), defBody (crow j), defScope (crow j), [], kw⟩
def dfr (m q : Str) (j : Nat) : He.DefD := dfrk m q j []
def hM (K : PySem.W.Frag) (m : Str) : Addr := He.ma K (He.ga K "Cleaner") m
def gOf (K : PySem.W.Frag) (m : Str) (kind : String) : Addr := match PySem.W.recIn K (hM K m) kind with
  | some (.ref g :: _) => g
  | _ => 0
def ownB (K : PySem.W.Frag) (m : Str) : Bool := He.eqO (PySem.W.findIn K (.ref (He.ga K "Cleaner")) m) (some (some (.ref (hM K m)))) && PySem.W.isFn K (.ref (hM K m))
def propB (K : PySem.W.Frag) (m : Str) : Bool := He.eqO (PySem.W.findIn K (.ref (He.ga K "Cleaner")) m) (some (some (.ref (hM K m)))) && (He.eqO (PySem.W.specialIn K (.ref (hM K m)) "__get__") (some (some (.builtin "property.__get__"))) && (decide (PySem.W.takesIn K (.ref (hM K m)) = some true) &&
  (match PySem.W.recIn K (hM K m) "property" with
  | some (.ref _ :: _) => true
  | _ => false)))
def sideB (K : PySem.W.Frag) : Bool := He.eqO (PySem.W.findIn K (.ref (He.ga K "Cleaner")) "__class__") (some (some (.builtin "object.__class__"))) && (He.eqO (PySem.W.specialIn K (.builtin "object.__class__") "__get__") (some (some (.builtin "getset_descriptor.__get__"))) && (decide (PySem.W.takesIn K (.builtin "object.__class__") = some true) &&
  (decide (PySem.W.mroIn K (He.ga K "Cleaner") (.type "object") = some true) && (decide (PySem.W.kitOne K (.ref (He.ga K "Cleaner")) (.ref (He.ga K "Cleaner")) = some true) && decide (PySem.W.kitOne K (.ref (He.ga K "Cleaner")) (.type "str") = some false)))))
def fnWa (K : PySem.W.Frag) (a : Addr) : He.FnW := match K.lookup a with
  | some ⟨_, _, .func fd, _⟩ => some (fd.name, fd.qualname, fd.params, fd.body, fd.scope, fd.globals, fd.closure, fd.builtins)
  | _ => none
def okAt (K : PySem.W.Frag) (a : Addr) (d : He.DefD) : Bool := PySem.W.keepIn K (.ref a) && (match K.lookup a with
  | some ⟨_, _, .func fd, _⟩ => PySem.W.codeIn K fd.code d.qual && (He.dflB K fd.defaults (d.dvs K) && He.kwdB K fd.kwdefaults (d.kws K))
  | _ => false)
theorem funA {K : PySem.W.Frag} {a : Addr} {d : He.DefD} (e : fnWa K a = d.val) (c : okAt K a d = true) : ∃ fd, FunD K d.name d.qual d.params d.body d.scope (d.dvs K) (d.kws K) a fd := by
  obtain ⟨kp, c2⟩ := He.ba c
  unfold fnWa at e
  cases q : K.lookup a with
  | none =>
    rw [q] at c2
    cases c2
  | some o =>
    obtain ⟨oc, od, dt, osl⟩ := o
    rw [q] at c2 e
    cases dt with
    | func fd =>
      obtain ⟨n1, n2, n3, n4, n5, n6, n7, n8, n9, n10, n11, n12, n13, n14, n15⟩ := fd
      have e2 : (some (n1, n2, n3, n4, n5, n6, n7, n15) : He.FnW) = some (d.name, d.qual, d.params, .stmts d.body, d.scope, mainGlobals, [], builtinsNs) := e
      simp only [Option.some.injEq, Prod.mk.injEq] at e2
      obtain ⟨h1, h2, h3, h4, h5, h6, h7, h8⟩ := e2
      subst h1 h2 h3 h4 h5 h6 h7 h8
      have c3 : (PySem.W.codeIn K n13 d.qual && (He.dflB K n8 (d.dvs K) && He.kwdB K n9 (d.kws K))) = true := c2
      obtain ⟨k1, k2⟩ := He.ba c3
      obtain ⟨k3, k4⟩ := He.ba k2
      exact ⟨_, ⟨oc, od, n8, n9, n10, n11, n12, n13, n14, osl, rfl, q, k1, He.dflB_ok k3, He.kwdB_ok k4⟩, kp⟩
    | _ => cases c2
theorem side_of {K : PySem.W.Frag} (oSide : sideB K = true) (cl : L2.Cls K (He.ga K "Cleaner")) (kp : PySem.W.keepIn K (.ref (He.ga K "Cleaner")) = true) : ClM K (He.ga K "Cleaner") ∧ PySem.W.kitOne K (.ref (He.ga K "Cleaner")) (.type "str") = some false := by
  unfold sideB at oSide
  obtain ⟨sd1, oSide⟩ := He.ba oSide
  obtain ⟨sd2, oSide⟩ := He.ba oSide
  obtain ⟨sd3, oSide⟩ := He.ba oSide
  obtain ⟨sd4, oSide⟩ := He.ba oSide
  obtain ⟨sd5, sd6⟩ := He.ba oSide
  exact ⟨⟨He.eqO_ok sd1, He.eqO_ok sd2, of_decide_eq_true sd3, of_decide_eq_true sd4, of_decide_eq_true sd5, kp⟩, of_decide_eq_true sd6⟩
theorem own_of {K : PySem.W.Frag} {m : Str} (h : ownB K m = true) : PySem.W.findIn K (.ref (He.ga K "Cleaner")) m = some (some (.ref (hM K m))) ∧ PySem.W.isFn K (.ref (hM K m)) = true := by
  unfold ownB at h
  obtain ⟨h1, h2⟩ := He.ba h
  exact ⟨He.eqO_ok h1, h2⟩
theorem prop_of {K : PySem.W.Frag} {m : Str} (oProp : propB K m = true) : PropOf K (He.ga K "Cleaner") m (hM K m) (gOf K m "property") := by
  unfold propB at oProp
  obtain ⟨pr1, oProp⟩ := He.ba oProp
  obtain ⟨pr2, oProp⟩ := He.ba oProp
  obtain ⟨pr3, pr4⟩ := He.ba oProp
  refine ⟨He.eqO_ok pr1, He.eqO_ok pr2, of_decide_eq_true pr3, ?_⟩
  unfold gOf
  cases e : PySem.W.recIn K (hM K m) "property" with
  | none => rw [e] at pr4; cases pr4
  | some vs =>
    rw [e] at pr4
    cases vs with
    | nil => cases pr4
    | cons v vs =>
      cases v with
      | ref g => exact ⟨vs, rfl⟩
      | _ => cases pr4
def fnB (K : PySem.W.Frag) (m : Str) : Bool := PySem.W.fnIn K (hM K m)
theorem raw_nil {P : Program} {w : World} {K : PySem.W.Frag} {mg : Str → Option Value} {base : Heap} {CX : CXT} {k : Nat} {g : Addr} {sp : Sp} (h : FnR P w K mg base CX k g (fun vs H Q E => sp (vs ++ []) H Q E)) : FnR P w K mg base CX k g sp := by
  have e : (fun vs H Q E => sp (vs ++ []) H Q E) = sp := by
    funext vs H Q E
    rw [List.append_nil]
  rwa [e] at h
end K0
end
/-! ### END -/
section
set_option Elab.async false
set_option linter.all false
set_option maxRecDepth 100000
set_option maxHeartbeats 4000000
/-! The end of a law whose promise is kept where nothing is being shown, beside tables of code objects. -/
namespace K0
open PySem PySem.Spec PyProof.Rows L2 LamX
theorem isTab_other {h : Heap} {b P : Addr} {o : Obj} (t : h.get? P = some { cls := .none, data := .fields #[] }) (e : h.get? b = some o) (d : o.data ≠ .fields #[]) : b ≠ P := fun z => by
  rw [z, t] at e
  cases e
  exact d rfl
section
variable {P : Program} {w : World} {K : PySem.W.Frag} {mg : Str → Option Value} {CX : CXT} {k : Nat} {f : Addr} {fd : FuncData}
theorem lawGT {a : Addr} {CT : List (Addr × Addr)} {mb : Str → Option Value} {x : Str} {sp : Sp} {s₁ : Shared} {vs : List Value} {ns : List Int} (KX : K.In s₁.heap) (hns : s₁.heap.Ns mainGlobals mg) (hmb : s₁.heap.Ns builtinsNs mb) (hbb : ∀ x : Str, x ≠ "__name__" → mb x = bootBuiltins x) (lim : s₁.heap.NoLimit) (gens : s₁.gens = #[])
    (tab : ∀ T ∈ CT.map (·.2), s₁.heap.get? T = some { cls := .none, data := .fields #[] }) (out : ∀ T ∈ CT.map (·.2), K.lookup T = none) (code : ∀ p ∈ CT, PySem.W.CodeHd s₁.heap p.1 p.2)
    (blt : ∃ (bm : Addr) (ob : Obj), mg "__builtins__" = some (.ref bm) ∧ bm ≠ builtinsNs ∧ s₁.heap.get? bm = some ob ∧ ob.cls = .type "module" ∧ ob.dict = some builtinsNs ∧ ob.data = .plain)
    (obj : s₁.heap.get? a = some { cls := .type "list", data := .seq vs.toArray }) (its : IntsAre vs ns) (most : ns.length ≤ sizeLine) (room : Room k callerA) (F : ∀ base : Heap, K.In base → base.Ns mainGlobals mg → (∀ p ∈ CT, TabB base mg p.1 p.2) → FnG P w K mg base CX k f fd [x] sp)
    (bind : ∀ (s : Shared) (u : Value), BindsTo s fd ⟨[u], []⟩ [(x, u)]) (prom : ∀ H : Hp, (∀ T ∈ CT.map (·.2), H T = some (.tbl #[])) → SqL K H a (ns.map V.int) → sp [.ref a] H (fun v _ => v = .bl true) fun _ _ _ => False) (none_out : ∀ H e s', CX [] H s₁ (fun _ _ _ => False) e s' → False) :
    codeAny (model P w) callerA (.call (.ref f) ⟨[.ref a], []⟩) (fun r s' => r = .ok (.ret (.bool true)) ∧ OldK s₁.heap s'.heap ∧ s'.os = s₁.os ∧ AllBare s'.gens) s₁ := by
  have rel := vals_ints its
  have size := its.length
  have aT : a ∉ CT.map (·.2) := fun m => isTab_other (tab a m) obj (fun z => by cases z) rfl
  have main : ∀ H : Hp, (∀ T ∈ CT.map (·.2), H T = some (.tbl #[])) → (∀ b, b ∉ CT.map (·.2) → H b = none ∨ (b = a ∧ K.lookup a = none ∧ ∃ o xs, H b = some (.frz o (.lst xs)))) → SqL K H a (ns.map V.int) → HOk P w H s₁.heap →
      codeAny (model P w) callerA (.call (.ref f) ⟨[.ref a], []⟩) (fun r s' => r = .ok (.ret (.bool true)) ∧ OldK s₁.heap s'.heap ∧ s'.os = s₁.os ∧ AllBare s'.gens) s₁ := by
    intro H hT only seq hok
    have free : ∀ {b : Addr} {o : Obj}, s₁.heap.get? b = some o → o.data ≠ .fields #[] → (∀ us n, o.data ≠ .seq us n) → H b = none := fun {b o} e d1 d2 => by
      rcases only b (fun m => isTab_other (tab b m) e d1 rfl) with z | ⟨rfl, _, _⟩
      · exact z
      · rw [obj] at e
        cases e
        exact (d2 _ _ rfl).elim
    have keepNs : ∀ {b : Addr} {m : Str → Option Value}, s₁.heap.Ns b m → (hidT s₁.heap H).Ns b m := fun {b m} ⟨o, es, ep, e, d, r⟩ =>
      ⟨o, es, ep, hidT_get e (free e (fun z => by rw [d] at z; cases z) fun us n z => by rw [d] at z; cases z), d, r⟩
    have kin : K.In (hidT s₁.heap H) := fun b o e => hidT_get (KX b o e) (by
      by_cases bT : b ∈ CT.map (·.2)
      · rw [out b bT] at e
        cases e
      · rcases only b bT with z | ⟨rfl, z, _⟩
        · exact z
        · rw [z] at e
          cases e)
    have mod : Mod K mg (hidT s₁.heap H) := ⟨kin, keepNs hns, ⟨mb, keepNs hmb, hbb⟩, lim.elim fun mc z => ⟨mc, keepNs z.1, z.2⟩⟩
    have TB : ∀ p ∈ CT, TabB (hidT s₁.heap H) mg p.1 p.2 := fun p hp => by
      have tabp := tab p.2 (List.mem_map.mpr ⟨p, hp, rfl⟩)
      have gT : mainGlobals ≠ p.2 := hns.elim fun o z => z.elim fun es z => z.elim fun ep z => isTab_other tabp z.1 fun y => by rw [z.2.1] at y; cases y
      refine ⟨?_, ?_, gT⟩
      · obtain ⟨o, us, fl, tf, fg, tg, iF, tx, tt, e1, r1, r2, r3, rest⟩ := code p hp
        exact ⟨o, us, fl, tf, fg, tg, iF, tx, tt, hidT_get e1 (free e1 (fun z => by rw [r2] at z; cases z; simp at r3) fun us n z => by rw [r2] at z; cases z), r1, r2, r3, rest⟩
      · obtain ⟨bm, ob, b1, b2, b3, b4, b5, b6⟩ := blt
        have nG : bm ≠ mainGlobals := fun z => hns.elim fun o y => y.elim fun es y => y.elim fun ep y => by
          have e := y.1
          rw [← z, b3] at e
          cases e
          rw [b6] at y
          cases y.2.1
        exact ⟨bm, ob, b1, b2, nG, isTab_other tabp b3 (fun z => by rw [b6] at z; cases z), hidT_get b3 (free b3 (fun z => by rw [b6] at z; cases z) fun us n z => by rw [b6] at z; cases z), b4, b5, b6⟩
    have e0 : Env0 P w K mg (hidT s₁.heap H) callerA [] s₁ H := ⟨rfl, mod, fun b o e => of_hidT e, Nat.le_of_eq (hidT_size _ _), trivial, (fun b z => nomatch (show b ∈ ([] : List Addr) from z)), hok, .of_eq gens⟩
    refine codeAny_mono ((F _ kin (keepNs hns) TB).go callerA [] s₁ H ⟨[.ref a], []⟩ [.ref a] [.ref a] _ _ rfl room e0 (bind s₁ (.ref a)) (.cons rfl .nil) (prom H hT seq)) fun r s' z => ?_
    rcases r with e | fl
    · exact (none_out H e s' z).elim
    cases fl with
    | next => exact z.elim
    | brk => exact z.elim
    | cont => exact z.elim
    | ret u =>
      obtain ⟨v, H', os, bare, un, hok', rv, rfl⟩ := z
      obtain rfl : u = Value.bool true := rv
      have tab' : ∀ T ∈ CT.map (·.2), ∃ more : Array Value, s'.heap.get? T = some { cls := .none, data := .fields (#[] ++ more) } := fun T hm => by
        obtain ⟨more, grown⟩ := un.tbls T #[] (hT T hm)
        exact ⟨more, hok' T _ grown⟩
      have key : ∀ b o, b ∉ CT.map (·.2) → s₁.heap.get? b = some o → s'.heap.get? b = some o := fun b o n e => by
        rcases only b n with z | ⟨_, _, ob, xs, z⟩
        · exact un.keep b o e z (fun y => nomatch (show b ∈ ([] : List Addr) from y)) fun y => nomatch y
        · obtain ⟨e1, _⟩ := hok b _ z
          obtain ⟨e2, _⟩ := hok' b _ (un.frzs b ob _ z)
          rw [e] at e1
          cases e1
          exact e2
      refine ⟨rfl, ⟨fun b o e => ?_, fun b o e => ?_⟩, os, bare⟩
      · by_cases n : b ∈ CT.map (·.2)
        · rw [tab b n] at e
          cases e
          obtain ⟨p, hp, rfl⟩ := List.mem_map.mp n
          obtain ⟨more, t'⟩ := tab' p.2 n
          exact .inr (.inl ⟨((code p hp).tab (tab p.2 n)).isCodeTable, rfl, #[], more, rfl, t'⟩)
        · exact .inl (key b o n e)
      · by_cases n : b ∈ CT.map (·.2)
        · obtain ⟨more, t'⟩ := tab' b n
          exact ⟨_, t'⟩
        · exact ⟨o, key b o n e⟩
  cases own : K.lookup a with
  | some o =>
    have e := KX a o own
    rw [obj] at e
    cases e
    refine main (fun b => if b ∈ CT.map (·.2) then some (.tbl #[]) else none) (fun T m => if_pos m) (fun b n => .inl (if_neg n)) (.inr ⟨_, vs.toArray, _, own, rfl, rfl, rfl, by rw [List.size_toArray, size]; exact most, by simpa using rel⟩) fun b u z => ?_
    by_cases n : b ∈ CT.map (·.2)
    · have z2 := (if_pos n).symm.trans z
      cases z2
      exact tab b n
    · have z2 := (if_neg n).symm.trans z
      cases z2
  | none =>
    have at_a : ∀ {b : Addr}, b = a → (if b ∈ CT.map (·.2) then some (HO.tbl #[]) else if b = a then some (HO.frz { cls := .type "list", data := .seq vs.toArray } (.lst (ns.map V.int))) else none) = some (HO.frz { cls := .type "list", data := .seq vs.toArray } (.lst (ns.map V.int))) := fun {b} z =>
      (if_neg (show ¬ b ∈ CT.map (·.2) by rw [z]; exact aT)).trans (if_pos z)
    refine main (fun b => if b ∈ CT.map (·.2) then some (.tbl #[]) else if b = a then some (.frz { cls := .type "list", data := .seq vs.toArray } (.lst (ns.map V.int))) else none) (fun T m => if_pos m) (fun b n => ?_) (.inl (.inr ⟨_, at_a rfl⟩)) fun b u z => ?_
    · by_cases m : b = a
      · exact .inr ⟨m, own, _, _, at_a m⟩
      · exact .inl ((if_neg n).trans (if_neg m))
    · by_cases n : b ∈ CT.map (·.2)
      · have z2 := (if_pos n).symm.trans z
        cases z2
        exact tab b n
      · by_cases m : b = a
        · have z2 := (at_a m).symm.trans z
          cases z2
          subst m
          exact ⟨obj, by rw [List.length_map]; exact most, vs, _, rel, obj⟩
        · have z2 := ((if_neg n).trans (if_neg m)).symm.trans z
          cases z2
end
/-- the end over a head by facts -/
theorem walkGT {l : PySem.W.OpenLaw} {n k : Nat} {q : Program} {loose : List Str} {XP : (Str → Option Value) → Heap → Prop} {YP : World → Heap → Prop} {d : DefRec} {x : Str}
    (hn : l.most = some n) (hn2 : n ≤ sizeLine) (hdf : d.params.defaults = []) (room : Room k callerA)
    (F : ∀ (w : World) (mg : Str → Option Value) (f : Addr) (h : Heap), YP w h → h.Ns mainGlobals mg → mg d.name = some (.ref f) → ∃ (K : PySem.W.Frag) (CT : List (Addr × Addr)) (T : List (Addr × Str)), K.In h ∧ (∀ t ∈ CT.map (·.2), h.get? t = some { cls := .none, data := .fields #[] }) ∧ (∀ t ∈ CT.map (·.2), K.lookup t = none) ∧ (∀ p ∈ CT, PySem.W.CodeHd h p.1 p.2) ∧ (∀ x ∈ T, x.1 ∈ CT.map (·.2)) ∧
      ∃ fd : FuncData, (∀ (s : Shared) (u : Value), BindsTo s fd ⟨[u], []⟩ [(x, u)]) ∧ ∀ base : Heap, K.In base → base.Ns mainGlobals mg → (∀ p ∈ CT, TabB base mg p.1 p.2) → FnG l.prog w K mg base CX0 k f fd [x] (spLawK K T)) :
    PySem.W.WalkO q loose XP YP l.row.toRowW d [] (fun f vs => PySem.call f vs) := by
  refine Att.attach_call hn hdf fun w s₀ s₁ mg mb f o pm cd doc a vs ns G Y ho hd hcd hmg hobj its len gens => ?_
  obtain ⟨K, CT, T, KX, tab, out, code, tin, fd, b, G2⟩ := F w mg f _ Y G.T.g hmg
  exact lawGT KX G.T.g G.T.b G.T.builtins G.T.nolimit gens tab out code G.T.bmain hobj its (Nat.le_trans len hn2) room G2 b (fun H t seq => ⟨a, ns, rfl, seq, fun x hx => TabS.nil (t x.1 (tin x hx)), fun _ => rfl⟩) fun H e s' z => z
end K0
end
/-! ### KH -/
section
set_option Elab.async false
set_option linter.all false
set_option maxRecDepth 100000
set_option maxHeartbeats 0
/-! The head of k14: what the top leaves, told by a Hook of its own; the run of the top. -/
namespace K0
open PySem PySem.Spec PyProof.Rows L2 LamX OE
abbrev R : PySem.W.OpenRow := PySem.W.OpenLaw.row PySem.Challenge.rw_cleandress_k14_whole_results_by_views
def fnT : List (Str × Nat) := ([("is_number", 2), ("is_sign", 10), ("is_text", 11), ("check_passed", 12), ("are_parts", 18), ("is_look", 19), ("is_look_state", 20), ("is_writer", 21), ("is_writer_state", 22), ("is_seen_sign", 23), ("is_move", 24), ("is_written", 25)] : List (Str × Nat)) ++ ([("are_firsts", 26), ("in_order", 27), ("origins_of", 29), ("views_at", 30), ("written_at", 31), ("last_at", 32), ("states_along", 33), ("result_of", 34), ("_law_dice", 36), ("_law_roll", 37), ("_law_one_of", 38), ("_law_mixed", 39)] : List (Str × Nat)) ++ ([("_law_all_signs", 40), ("_law_signs", 41), ("_law_word", 42), ("_law_texts", 43), ("_law_wild_cleaner", 44), ("_law_cleaner", 45), ("_law_made_cleaner", 46), ("_law_views", 47), ("_law_result", 48), ("_law_walk", 49), ("_law_met", 50), ("_law_is_right", 51)] : List (Str × Nat)) ++ ([("_law_long_right", 52), ("_law_right", 53), ("law", 54)] : List (Str × Nat))
def fn : List He.DefD := (fnT.map fun z => dfn z.1 z.2) ++ [dfrk "__init__" "Cleaner.__init__" 0 [("look", He.Dv.non), ("firsts", He.Dv.non)], dfr "_keep" "Cleaner._keep" 1, dfr "views" "Cleaner.views" 5, dfr "walk" "Cleaner.walk" 6, dfr "__call__" "Cleaner.__call__" 8, dfr "__contains__" "Cleaner.__contains__" 9]
def fa : List He.Fa := [He.Fa.glo "is_number", He.Fa.glo "is_sign", He.Fa.glo "is_text", He.Fa.glo "check_passed", He.Fa.glo "are_parts", He.Fa.glo "is_look", He.Fa.glo "is_look_state", He.Fa.glo "is_writer", He.Fa.glo "is_writer_state", He.Fa.glo "is_seen_sign", He.Fa.glo "is_move", He.Fa.glo "is_written", He.Fa.glo "are_firsts", He.Fa.glo "in_order", He.Fa.glo "origins_of", He.Fa.glo "views_at", He.Fa.glo "written_at", He.Fa.glo "last_at", He.Fa.glo "states_along", He.Fa.glo "result_of", He.Fa.glo "_law_dice", He.Fa.glo "_law_roll", He.Fa.glo "_law_one_of", He.Fa.glo "_law_mixed", He.Fa.glo "_law_all_signs", He.Fa.glo "_law_signs", He.Fa.glo "_law_word", He.Fa.glo "_law_texts", He.Fa.glo "_law_wild_cleaner", He.Fa.glo "_law_cleaner", He.Fa.glo "_law_made_cleaner", He.Fa.glo "_law_views", He.Fa.glo "_law_result", He.Fa.glo "_law_walk", He.Fa.glo "_law_met", He.Fa.glo "_law_is_right", He.Fa.glo "_law_long_right", He.Fa.glo "_law_right", He.Fa.glo "law", He.Fa.free "abs", He.Fa.free "int", He.Fa.free "max", He.Fa.free "min", He.Fa.free "len", He.Fa.free "range", He.Fa.free "isinstance", He.Fa.free "repr", He.Fa.free "str", He.Fa.free "bool", He.Fa.free "tuple", He.Fa.free "list", He.Fa.free "sorted", He.Fa.free "all", He.Fa.free "dict", He.Fa.free "enumerate", He.Fa.free "zip", He.Fa.free "set", He.Fa.glo "Cleaner", He.Fa.cls "Cleaner", He.Fa.noat "Cleaner" "_writer", He.Fa.noat "Cleaner" "_look", He.Fa.noat "Cleaner" "_firsts", He.Fa.noat "Cleaner" "_origins", He.Fa.mkr "Cleaner", He.Fa.keep "Cleaner", He.Fa.meth "Cleaner" "_keep", He.Fa.meth "Cleaner" "views", He.Fa.meth "Cleaner" "walk", He.Fa.glo "InvalidText", He.Fa.exc "InvalidText", He.Fa.exm "InvalidText" "InvalidText" true, He.Fa.glo "InvalidCleaner", He.Fa.exc "InvalidCleaner", He.Fa.exm "InvalidCleaner" "InvalidCleaner" true, He.Fa.str "SIGNS" allSigns, He.Fa.int "MAX_LOOK" 3, He.Fa.int "MAX_WRITER" 4, He.Fa.int "MAX_WRITTEN" 2, He.Fa.int "MAX_PASSED" 2000]
def names : List Str := (["_wall", "is_number", "DressError", "InvalidText", "InvalidCleaner", "SIGNS", "MAX_PASSED", "is_sign", "is_text", "check_passed", "MAX_LOOK", "MAX_WRITER"] : List Str) ++ (["MAX_WRITTEN", "Cleaner", "are_parts", "is_look", "is_look_state", "is_writer", "is_writer_state", "is_seen_sign", "is_move", "is_written", "are_firsts", "in_order"] : List Str) ++ (["copied", "origins_of", "views_at", "written_at", "last_at", "states_along", "result_of", "_law_dice", "_law_roll", "_law_one_of", "_law_mixed", "_law_all_signs"] : List Str) ++ (["_law_signs", "_law_word", "_law_texts", "_law_wild_cleaner", "_law_cleaner", "_law_made_cleaner", "_law_views", "_law_result", "_law_walk", "_law_met", "_law_is_right", "_law_long_right"] : List Str) ++ (["_law_right"] : List Str)
def okB (K : PySem.W.Frag) : Bool := (sysB K) && ((sideB K) && ((ownB K "__call__") && ((ownB K "__contains__") && (fnB K "__call__"))))
abbrev AlA : Type := He.AlD × (Bool × List He.FnW)
def pTabs : List He.Defn := [("in_order", none), ("_law_long_right", none), ("_law_right", none), ("law", none)]
def KofG (g : Addr → Option Obj) : PySem.W.Frag := He.frT g (sysModules :: cStatics :: He.asD g 6)
def tabB (g : Addr → Option Obj) (K : PySem.W.Frag) (p : He.Defn) : Bool := PySem.W.codeHdIn K (He.cT K p).1 (He.cT K p).2 && (match g (He.cT K p).2 with
  | some o => He.emptyTab o
  | none => false)
def tabsB (g : Addr → Option Obj) (K : PySem.W.Frag) : Bool := pTabs.all (tabB g K) && decide ((pTabs.map fun p => (He.cT K p).2).Nodup)
def obsAG (g : Addr → Option Obj) : AlA := (He.obsD fa fn (KofG g), (okB (KofG g) && tabsB g (KofG g), []))
def valA : AlA := (He.valD fn, (true, []))
structure SaysA (h : Heap) (K : PySem.W.Frag) : Prop where
  d : He.SaysD fa fn K
  ok : okB K = true
  ws : ([] : List He.FnW) = []
  hd : ∀ p ∈ pTabs, PySem.W.codeHdIn K (He.cT K p).1 (He.cT K p).2 = true
  out : ∀ p ∈ pTabs, K.lookup (He.cT K p).2 = none
  tab : ∀ p ∈ pTabs, h.get? (He.cT K p).2 = some { cls := .none, data := .fields #[] }
  nd : (pTabs.map fun p => (He.cT K p).2).Nodup
theorem says_of {h : Heap} (e : obsAG h.get? = valA) : SaysA h (KofG h.get?) := by
  have e1 : He.SaysD fa fn (KofG h.get?) := congrArg (fun z : AlA => z.1) e
  have e2 : (okB (KofG h.get?) && tabsB h.get? (KofG h.get?)) = true := congrArg (fun z : AlA => z.2.1) e
  have e3 := congrArg (fun z : AlA => z.2.2) e
  obtain ⟨h1, e2⟩ := He.ba e2
  unfold tabsB at e2
  obtain ⟨h2, h4⟩ := He.ba e2
  have each : ∀ p ∈ pTabs, PySem.W.codeHdIn (KofG h.get?) (He.cT (KofG h.get?) p).1 (He.cT (KofG h.get?) p).2 = true ∧ (KofG h.get?).lookup (He.cT (KofG h.get?) p).2 = none ∧ h.get? (He.cT (KofG h.get?) p).2 = some { cls := .none, data := .fields #[] } := fun p hp => by
    have z := List.all_eq_true.mp h2 p hp
    unfold tabB at z
    obtain ⟨z2, z3⟩ := He.ba z
    cases q : h.get? (He.cT (KofG h.get?) p).2 with
    | none => rw [q] at z3; cases z3
    | some o =>
      rw [q] at z3
      exact ⟨z2, He.frT_none q z3, by rw [He.emptyTab_eq z3]⟩
  exact ⟨e1, h1, e3, fun p hp => (each p hp).1, fun p hp => (each p hp).2.1, fun p hp => (each p hp).2.2, of_decide_eq_true h4⟩
def hookA : PySem.W.Hook where
  α := AlA
  obs := fun s => obsAG s.heap.get?
  val := fun _ => valA
  says := fun _ h => ∃ K : PySem.W.Frag, K.In h ∧ SaysA h K
  of := fun _ _ e => ⟨_, He.frT_in, says_of e⟩
  keeps := fun _ _ _ ⟨K, hK, c⟩ k => ⟨K, PySem.W.Frag.In.keeps hK k, ⟨c.d, c.ok, c.ws, c.hd, c.out, fun p hp => k _ _ (c.tab p hp), c.nd⟩⟩
def obA (s : PySem.W.SharedT) : AlA := obsAG (HandSHeadRun.getT s)
theorem obA_eq (s : PySem.W.SharedT) : obA s = hookA.obs s.abs := by
  have e : HandSHeadRun.getT s = s.abs.heap.get? := funext (HandSHeadRun.getT_eq s)
  show obsAG _ = obsAG _
  rw [e]
theorem runA (w : World) : HandSHeadRun.RunEq R (PySem.W.view R.prog [54]) hookA obA 20000 names w := by
  intro os
  kernel_rfl
end K0
end
/-! ### KF -/
section
set_option Elab.async false
set_option linter.all false
set_option maxRecDepth 100000
set_option maxHeartbeats 0
/-! The facts unpacked; each def keeps its promise. -/
namespace K0
open PySem PySem.Spec PyProof.Rows L2 LamX OE
def tabsOf (K : PySem.W.Frag) : List (Addr × Str) := [((He.cT K ("in_order", none)).2, ioQ), ((He.cT K ("_law_long_right", none)).2, lgQ), ((He.cT K ("_law_right", none)).2, rtQ), ((He.cT K ("law", none)).2, laQ)]
theorem tabsOf_in {K : PySem.W.Frag} : ∀ x ∈ tabsOf K, x.1 ∈ (pTabs.map (He.cT K)).map (·.2) := fun x hx => by
  simp only [tabsOf, List.mem_cons, List.not_mem_nil, or_false] at hx
  rcases hx with rfl | rfl | rfl | rfl <;> simp [pTabs]
theorem facts {P : Program} {w : World} {K : PySem.W.Frag} {h : Heap} {mg : Str → Option Value} {f : Addr} (X : K.In h) (G : h.Ns mainGlobals mg) (hfa : mg ("law" : Str) = some (.ref f)) (c : SaysA h K) :
    ∃ fd : FuncData, (∀ (s : Shared) (v : Value), BindsTo s fd ⟨[v], []⟩ [("script", v)]) ∧ ∀ base : Heap, K.In base → base.Ns mainGlobals mg → (∀ p ∈ pTabs.map (He.cT K), TabB base mg p.1 p.2) → FnG P w K mg base CX0 13 f fd ["script"] (spLawK K (tabsOf K)) := by
  have d := c.d
  have ok := c.ok
  unfold okB at ok
  obtain ⟨sb, ok⟩ := He.ba ok
  obtain ⟨oSide, ok⟩ := He.ba ok
  obtain ⟨oOwn0, ok⟩ := He.ba ok
  obtain ⟨oOwn1, ok⟩ := He.ba ok
  have oEx0 := ok
  obtain ⟨fdIsNumber, FIsNumber⟩ := d.def_ 0 (d := dfn "is_number" 2) rfl
  have gIsNumber := He.glo_ok X G (d.fact 0 (f := .glo "is_number") rfl)
  have bIsNumber : Binds K fdIsNumber ["value", "low", "high"] [] := FIsNumber.bindsN fun _ _ _ _ _ _ us hl => match us, hl with | [_, _, _], _ => rfl
  obtain ⟨fdIsSign, FIsSign⟩ := d.def_ 1 (d := dfn "is_sign" 10) rfl
  have gIsSign := He.glo_ok X G (d.fact 1 (f := .glo "is_sign") rfl)
  have bIsSign : Binds K fdIsSign ["value"] [] := FIsSign.bindsN fun _ _ _ _ _ _ us hl => match us, hl with | [_], _ => rfl
  obtain ⟨fdIsText, FIsText⟩ := d.def_ 2 (d := dfn "is_text" 11) rfl
  have gIsText := He.glo_ok X G (d.fact 2 (f := .glo "is_text") rfl)
  have bIsText : Binds K fdIsText ["value"] [] := FIsText.bindsN fun _ _ _ _ _ _ us hl => match us, hl with | [_], _ => rfl
  obtain ⟨fdCheckPassed, FCheckPassed⟩ := d.def_ 3 (d := dfn "check_passed" 12) rfl
  have gCheckPassed := He.glo_ok X G (d.fact 3 (f := .glo "check_passed") rfl)
  have bCheckPassed : Binds K fdCheckPassed ["value"] [] := FCheckPassed.bindsN fun _ _ _ _ _ _ us hl => match us, hl with | [_], _ => rfl
  obtain ⟨fdAreParts, FAreParts⟩ := d.def_ 4 (d := dfn "are_parts" 18) rfl
  have gAreParts := He.glo_ok X G (d.fact 4 (f := .glo "are_parts") rfl)
  have bAreParts : Binds K fdAreParts ["writer", "look", "firsts", "limits"] [] := FAreParts.bindsN fun _ _ _ _ _ _ us hl => match us, hl with | [_, _, _, _], _ => rfl
  obtain ⟨fdIsLook, FIsLook⟩ := d.def_ 5 (d := dfn "is_look" 19) rfl
  have gIsLook := He.glo_ok X G (d.fact 5 (f := .glo "is_look") rfl)
  have bIsLook : Binds K fdIsLook ["value", "limits"] [] := FIsLook.bindsN fun _ _ _ _ _ _ us hl => match us, hl with | [_, _], _ => rfl
  obtain ⟨fdIsLookState, FIsLookState⟩ := d.def_ 6 (d := dfn "is_look_state" 20) rfl
  have gIsLookState := He.glo_ok X G (d.fact 6 (f := .glo "is_look_state") rfl)
  have bIsLookState : Binds K fdIsLookState ["value", "many"] [] := FIsLookState.bindsN fun _ _ _ _ _ _ us hl => match us, hl with | [_, _], _ => rfl
  obtain ⟨fdIsWriter, FIsWriter⟩ := d.def_ 7 (d := dfn "is_writer" 21) rfl
  have gIsWriter := He.glo_ok X G (d.fact 7 (f := .glo "is_writer") rfl)
  have bIsWriter : Binds K fdIsWriter ["value", "views", "limits"] [] := FIsWriter.bindsN fun _ _ _ _ _ _ us hl => match us, hl with | [_, _, _], _ => rfl
  obtain ⟨fdIsWriterState, FIsWriterState⟩ := d.def_ 8 (d := dfn "is_writer_state" 22) rfl
  have gIsWriterState := He.glo_ok X G (d.fact 8 (f := .glo "is_writer_state") rfl)
  have bIsWriterState : Binds K fdIsWriterState ["value", "many", "views", "limits"] [] := FIsWriterState.bindsN fun _ _ _ _ _ _ us hl => match us, hl with | [_, _, _, _], _ => rfl
  obtain ⟨fdIsSeenSign, FIsSeenSign⟩ := d.def_ 9 (d := dfn "is_seen_sign" 23) rfl
  have gIsSeenSign := He.glo_ok X G (d.fact 9 (f := .glo "is_seen_sign") rfl)
  have bIsSeenSign : Binds K fdIsSeenSign ["value", "views"] [] := FIsSeenSign.bindsN fun _ _ _ _ _ _ us hl => match us, hl with | [_, _], _ => rfl
  obtain ⟨fdIsMove, FIsMove⟩ := d.def_ 10 (d := dfn "is_move" 24) rfl
  have gIsMove := He.glo_ok X G (d.fact 10 (f := .glo "is_move") rfl)
  have bIsMove : Binds K fdIsMove ["value", "many", "limits"] [] := FIsMove.bindsN fun _ _ _ _ _ _ us hl => match us, hl with | [_, _, _], _ => rfl
  obtain ⟨fdIsWritten, FIsWritten⟩ := d.def_ 11 (d := dfn "is_written" 25) rfl
  have gIsWritten := He.glo_ok X G (d.fact 11 (f := .glo "is_written") rfl)
  have bIsWritten : Binds K fdIsWritten ["value", "limits"] [] := FIsWritten.bindsN fun _ _ _ _ _ _ us hl => match us, hl with | [_, _], _ => rfl
  obtain ⟨fdAreFirsts, FAreFirsts⟩ := d.def_ 12 (d := dfn "are_firsts" 26) rfl
  have gAreFirsts := He.glo_ok X G (d.fact 12 (f := .glo "are_firsts") rfl)
  have bAreFirsts : Binds K fdAreFirsts ["value", "views", "many"] [] := FAreFirsts.bindsN fun _ _ _ _ _ _ us hl => match us, hl with | [_, _, _], _ => rfl
  obtain ⟨fdInOrder, FInOrder⟩ := d.def_ 13 (d := dfn "in_order" 27) rfl
  have gInOrder := He.glo_ok X G (d.fact 13 (f := .glo "in_order") rfl)
  have bInOrder : Binds K fdInOrder ["moves"] [] := FInOrder.bindsN fun _ _ _ _ _ _ us hl => match us, hl with | [_], _ => rfl
  obtain ⟨fdOriginsOf, FOriginsOf⟩ := d.def_ 14 (d := dfn "origins_of" 29) rfl
  have gOriginsOf := He.glo_ok X G (d.fact 14 (f := .glo "origins_of") rfl)
  have bOriginsOf : Binds K fdOriginsOf ["look"] [] := FOriginsOf.bindsN fun _ _ _ _ _ _ us hl => match us, hl with | [_], _ => rfl
  obtain ⟨fdViewsAt, FViewsAt⟩ := d.def_ 15 (d := dfn "views_at" 30) rfl
  have gViewsAt := He.glo_ok X G (d.fact 15 (f := .glo "views_at") rfl)
  have bViewsAt : Binds K fdViewsAt ["cleaner", "text"] [] := FViewsAt.bindsN fun _ _ _ _ _ _ us hl => match us, hl with | [_, _], _ => rfl
  obtain ⟨fdWrittenAt, FWrittenAt⟩ := d.def_ 16 (d := dfn "written_at" 31) rfl
  have gWrittenAt := He.glo_ok X G (d.fact 16 (f := .glo "written_at") rfl)
  have bWrittenAt : Binds K fdWrittenAt ["cleaner", "state", "sign", "view"] [] := FWrittenAt.bindsN fun _ _ _ _ _ _ us hl => match us, hl with | [_, _, _, _], _ => rfl
  obtain ⟨fdLastAt, FLastAt⟩ := d.def_ 17 (d := dfn "last_at" 32) rfl
  have gLastAt := He.glo_ok X G (d.fact 17 (f := .glo "last_at") rfl)
  have bLastAt : Binds K fdLastAt ["cleaner", "state"] [] := FLastAt.bindsN fun _ _ _ _ _ _ us hl => match us, hl with | [_, _], _ => rfl
  obtain ⟨fdStatesAlong, FStatesAlong⟩ := d.def_ 18 (d := dfn "states_along" 33) rfl
  have gStatesAlong := He.glo_ok X G (d.fact 18 (f := .glo "states_along") rfl)
  have bStatesAlong : Binds K fdStatesAlong ["cleaner", "text"] [] := FStatesAlong.bindsN fun _ _ _ _ _ _ us hl => match us, hl with | [_, _], _ => rfl
  obtain ⟨fdResultOf, FResultOf⟩ := d.def_ 19 (d := dfn "result_of" 34) rfl
  have gResultOf := He.glo_ok X G (d.fact 19 (f := .glo "result_of") rfl)
  have bResultOf : Binds K fdResultOf ["cleaner", "text"] [] := FResultOf.bindsN fun _ _ _ _ _ _ us hl => match us, hl with | [_, _], _ => rfl
  obtain ⟨fdLawDice, FLawDice⟩ := d.def_ 20 (d := dfn "_law_dice" 36) rfl
  have gLawDice := He.glo_ok X G (d.fact 20 (f := .glo "_law_dice") rfl)
  have bLawDice : Binds K fdLawDice ["script", "at"] [] := FLawDice.bindsN fun _ _ _ _ _ _ us hl => match us, hl with | [_, _], _ => rfl
  obtain ⟨fdLawRoll, FLawRoll⟩ := d.def_ 21 (d := dfn "_law_roll" 37) rfl
  have gLawRoll := He.glo_ok X G (d.fact 21 (f := .glo "_law_roll") rfl)
  have bLawRoll : Binds K fdLawRoll ["dice", "total"] [] := FLawRoll.bindsN fun _ _ _ _ _ _ us hl => match us, hl with | [_, _], _ => rfl
  obtain ⟨fdLawOneOf, FLawOneOf⟩ := d.def_ 22 (d := dfn "_law_one_of" 38) rfl
  have gLawOneOf := He.glo_ok X G (d.fact 22 (f := .glo "_law_one_of") rfl)
  have bLawOneOf : Binds K fdLawOneOf ["dice", "items"] [] := FLawOneOf.bindsN fun _ _ _ _ _ _ us hl => match us, hl with | [_, _], _ => rfl
  obtain ⟨fdLawMixed, FLawMixed⟩ := d.def_ 23 (d := dfn "_law_mixed" 39) rfl
  have gLawMixed := He.glo_ok X G (d.fact 23 (f := .glo "_law_mixed") rfl)
  have bLawMixed : Binds K fdLawMixed ["dice", "items"] [] := FLawMixed.bindsN fun _ _ _ _ _ _ us hl => match us, hl with | [_, _], _ => rfl
  obtain ⟨fdLawAllSigns, FLawAllSigns⟩ := d.def_ 24 (d := dfn "_law_all_signs" 40) rfl
  have gLawAllSigns := He.glo_ok X G (d.fact 24 (f := .glo "_law_all_signs") rfl)
  have bLawAllSigns : Binds K fdLawAllSigns [] [] := FLawAllSigns.bindsN fun _ _ _ _ _ _ us hl => match us, hl with | [], _ => rfl
  obtain ⟨fdLawSigns, FLawSigns⟩ := d.def_ 25 (d := dfn "_law_signs" 41) rfl
  have gLawSigns := He.glo_ok X G (d.fact 25 (f := .glo "_law_signs") rfl)
  have bLawSigns : Binds K fdLawSigns ["dice", "upto"] [] := FLawSigns.bindsN fun _ _ _ _ _ _ us hl => match us, hl with | [_, _], _ => rfl
  obtain ⟨fdLawWord, FLawWord⟩ := d.def_ 26 (d := dfn "_law_word" 42) rfl
  have gLawWord := He.glo_ok X G (d.fact 26 (f := .glo "_law_word") rfl)
  have bLawWord : Binds K fdLawWord ["dice", "signs", "upto"] [] := FLawWord.bindsN fun _ _ _ _ _ _ us hl => match us, hl with | [_, _, _], _ => rfl
  obtain ⟨fdLawTexts, FLawTexts⟩ := d.def_ 27 (d := dfn "_law_texts" 43) rfl
  have gLawTexts := He.glo_ok X G (d.fact 27 (f := .glo "_law_texts") rfl)
  have bLawTexts : Binds K fdLawTexts ["signs", "upto"] [] := FLawTexts.bindsN fun _ _ _ _ _ _ us hl => match us, hl with | [_, _], _ => rfl
  obtain ⟨fdLawWildCleaner, FLawWildCleaner⟩ := d.def_ 28 (d := dfn "_law_wild_cleaner" 44) rfl
  have gLawWildCleaner := He.glo_ok X G (d.fact 28 (f := .glo "_law_wild_cleaner") rfl)
  have bLawWildCleaner : Binds K fdLawWildCleaner ["dice", "signs"] [] := FLawWildCleaner.bindsN fun _ _ _ _ _ _ us hl => match us, hl with | [_, _], _ => rfl
  obtain ⟨fdLawCleaner, FLawCleaner⟩ := d.def_ 29 (d := dfn "_law_cleaner" 45) rfl
  have gLawCleaner := He.glo_ok X G (d.fact 29 (f := .glo "_law_cleaner") rfl)
  have bLawCleaner : Binds K fdLawCleaner ["dice", "signs"] [] := FLawCleaner.bindsN fun _ _ _ _ _ _ us hl => match us, hl with | [_, _], _ => rfl
  obtain ⟨fdLawMadeCleaner, FLawMadeCleaner⟩ := d.def_ 30 (d := dfn "_law_made_cleaner" 46) rfl
  have gLawMadeCleaner := He.glo_ok X G (d.fact 30 (f := .glo "_law_made_cleaner") rfl)
  have bLawMadeCleaner : Binds K fdLawMadeCleaner ["cleaner"] [] := FLawMadeCleaner.bindsN fun _ _ _ _ _ _ us hl => match us, hl with | [_], _ => rfl
  obtain ⟨fdLawViews, FLawViews⟩ := d.def_ 31 (d := dfn "_law_views" 47) rfl
  have gLawViews := He.glo_ok X G (d.fact 31 (f := .glo "_law_views") rfl)
  have bLawViews : Binds K fdLawViews ["cleaner", "text"] [] := FLawViews.bindsN fun _ _ _ _ _ _ us hl => match us, hl with | [_, _], _ => rfl
  obtain ⟨fdLawResult, FLawResult⟩ := d.def_ 32 (d := dfn "_law_result" 48) rfl
  have gLawResult := He.glo_ok X G (d.fact 32 (f := .glo "_law_result") rfl)
  have bLawResult : Binds K fdLawResult ["cleaner", "text"] [] := FLawResult.bindsN fun _ _ _ _ _ _ us hl => match us, hl with | [_, _], _ => rfl
  obtain ⟨fdLawWalk, FLawWalk⟩ := d.def_ 33 (d := dfn "_law_walk" 49) rfl
  have gLawWalk := He.glo_ok X G (d.fact 33 (f := .glo "_law_walk") rfl)
  have bLawWalk : Binds K fdLawWalk ["cleaner", "text"] [] := FLawWalk.bindsN fun _ _ _ _ _ _ us hl => match us, hl with | [_, _], _ => rfl
  obtain ⟨fdLawMet, FLawMet⟩ := d.def_ 34 (d := dfn "_law_met" 50) rfl
  have gLawMet := He.glo_ok X G (d.fact 34 (f := .glo "_law_met") rfl)
  have bLawMet : Binds K fdLawMet ["call"] [] := FLawMet.bindsN fun _ _ _ _ _ _ us hl => match us, hl with | [_], _ => rfl
  obtain ⟨fdLawIsRight, FLawIsRight⟩ := d.def_ 35 (d := dfn "_law_is_right" 51) rfl
  have gLawIsRight := He.glo_ok X G (d.fact 35 (f := .glo "_law_is_right") rfl)
  have bLawIsRight : Binds K fdLawIsRight ["made", "cleaner", "text"] [] := FLawIsRight.bindsN fun _ _ _ _ _ _ us hl => match us, hl with | [_, _, _], _ => rfl
  obtain ⟨fdLawLongRight, FLawLongRight⟩ := d.def_ 36 (d := dfn "_law_long_right" 52) rfl
  have gLawLongRight := He.glo_ok X G (d.fact 36 (f := .glo "_law_long_right") rfl)
  have bLawLongRight : Binds K fdLawLongRight ["dice", "made", "cleaner", "signs"] [] := FLawLongRight.bindsN fun _ _ _ _ _ _ us hl => match us, hl with | [_, _, _, _], _ => rfl
  obtain ⟨fdLawRight, FLawRight⟩ := d.def_ 37 (d := dfn "_law_right" 53) rfl
  have gLawRight := He.glo_ok X G (d.fact 37 (f := .glo "_law_right") rfl)
  have bLawRight : Binds K fdLawRight ["dice"] [] := FLawRight.bindsN fun _ _ _ _ _ _ us hl => match us, hl with | [_], _ => rfl
  obtain ⟨fdLaw, FLaw⟩ := d.def_ 38 (d := dfn "law" 54) rfl
  have gLaw := He.glo_ok X G (d.fact 38 (f := .glo "law") rfl)
  have bLaw : Binds K fdLaw ["script"] [] := FLaw.bindsN fun _ _ _ _ _ _ us hl => match us, hl with | [_], _ => rfl
  obtain ⟨fdHInit, FHInit⟩ := d.def_ 39 (d := dfrk "__init__" "Cleaner.__init__" 0 [("look", He.Dv.non), ("firsts", He.Dv.non)]) rfl
  obtain ⟨fdHKeep, FHKeep⟩ := d.def_ 40 (d := dfr "_keep" "Cleaner._keep" 1) rfl
  have bHKeep : Binds K fdHKeep ["self", "writer", "look", "firsts"] [] := FHKeep.bindsN fun _ _ _ _ _ _ us hl => match us, hl with | [_, _, _, _], _ => rfl
  obtain ⟨fdHViews, FHViews⟩ := d.def_ 41 (d := dfr "views" "Cleaner.views" 5) rfl
  have bHViews : Binds K fdHViews ["self", "text"] [] := FHViews.bindsN fun _ _ _ _ _ _ us hl => match us, hl with | [_, _], _ => rfl
  obtain ⟨fdHWalk, FHWalk⟩ := d.def_ 42 (d := dfr "walk" "Cleaner.walk" 6) rfl
  have bHWalk : Binds K fdHWalk ["self", "text"] [] := FHWalk.bindsN fun _ _ _ _ _ _ us hl => match us, hl with | [_, _], _ => rfl
  obtain ⟨fdHCall, FHCall⟩ := d.def_ 43 (d := dfr "__call__" "Cleaner.__call__" 8) rfl
  have bHCall : Binds K fdHCall ["self", "text"] [] := FHCall.bindsN fun _ _ _ _ _ _ us hl => match us, hl with | [_, _], _ => rfl
  obtain ⟨fdHContains, FHContains⟩ := d.def_ 44 (d := dfr "__contains__" "Cleaner.__contains__" 9) rfl
  have bHContains : Binds K fdHContains ["self", "value"] [] := FHContains.bindsN fun _ _ _ _ _ _ us hl => match us, hl with | [_, _], _ => rfl
  have mabs := He.free_ok X G (d.fact 39 (f := .free "abs") rfl)
  have mint := He.free_ok X G (d.fact 40 (f := .free "int") rfl)
  have mmax := He.free_ok X G (d.fact 41 (f := .free "max") rfl)
  have mmin := He.free_ok X G (d.fact 42 (f := .free "min") rfl)
  have mlen := He.free_ok X G (d.fact 43 (f := .free "len") rfl)
  have mrange := He.free_ok X G (d.fact 44 (f := .free "range") rfl)
  have misinstance := He.free_ok X G (d.fact 45 (f := .free "isinstance") rfl)
  have mrepr := He.free_ok X G (d.fact 46 (f := .free "repr") rfl)
  have mstr := He.free_ok X G (d.fact 47 (f := .free "str") rfl)
  have mbool := He.free_ok X G (d.fact 48 (f := .free "bool") rfl)
  have mtuple := He.free_ok X G (d.fact 49 (f := .free "tuple") rfl)
  have mlist := He.free_ok X G (d.fact 50 (f := .free "list") rfl)
  have msorted := He.free_ok X G (d.fact 51 (f := .free "sorted") rfl)
  have mall := He.free_ok X G (d.fact 52 (f := .free "all") rfl)
  have mdict := He.free_ok X G (d.fact 53 (f := .free "dict") rfl)
  have menumerate := He.free_ok X G (d.fact 54 (f := .free "enumerate") rfl)
  have mzip := He.free_ok X G (d.fact 55 (f := .free "zip") rfl)
  have mset := He.free_ok X G (d.fact 56 (f := .free "set") rfl)
  have gCleaner : mg "Cleaner" = some (.ref (He.ga K "Cleaner")) := He.glo_ok X G (d.fact 57 (f := .glo "Cleaner") rfl)
  have cl := He.cls_ok (d.fact 58 (f := .cls "Cleaner") rfl)
  have noWriter := He.noat_ok (d.fact 59 (f := .noat "Cleaner" "_writer") rfl)
  have noLook := He.noat_ok (d.fact 60 (f := .noat "Cleaner" "_look") rfl)
  have noFirsts := He.noat_ok (d.fact 61 (f := .noat "Cleaner" "_firsts") rfl)
  have noOrigins := He.noat_ok (d.fact 62 (f := .noat "Cleaner" "_origins") rfl)
  have mk := He.mkr_ok (d.fact 63 (f := .mkr "Cleaner") rfl)
  have kH := He.keep_ok (d.fact 64 (f := .keep "Cleaner") rfl)
  have meKeep := He.meth_ok (d.fact 65 (f := .meth "Cleaner" "_keep") rfl)
  have meViews := He.meth_ok (d.fact 66 (f := .meth "Cleaner" "views") rfl)
  have meWalk := He.meth_ok (d.fact 67 (f := .meth "Cleaner" "walk") rfl)
  have gInvalidText : mg "InvalidText" = some (.ref (He.ga K "InvalidText")) := He.glo_ok X G (d.fact 68 (f := .glo "InvalidText") rfl)
  obtain ⟨x1InvalidText, x2InvalidText, x3InvalidText, x4InvalidText⟩ := He.exc_ok (d.fact 69 (f := .exc "InvalidText") rfl)
  have xmInvalidText := He.exm_ok (d.fact 70 (f := .exm "InvalidText" "InvalidText" true) rfl)
  have gInvalidCleaner : mg "InvalidCleaner" = some (.ref (He.ga K "InvalidCleaner")) := He.glo_ok X G (d.fact 71 (f := .glo "InvalidCleaner") rfl)
  obtain ⟨x1InvalidCleaner, x2InvalidCleaner, x3InvalidCleaner, x4InvalidCleaner⟩ := He.exc_ok (d.fact 72 (f := .exc "InvalidCleaner") rfl)
  have xmInvalidCleaner := He.exm_ok (d.fact 73 (f := .exm "InvalidCleaner" "InvalidCleaner" true) rfl)
  have ms := He.str_ok X G (d.fact 74 (f := .str "SIGNS" allSigns) rfl)
  have mML := He.int_ok X G (d.fact 75 (f := .int "MAX_LOOK" 3) rfl)
  have mMW := He.int_ok X G (d.fact 76 (f := .int "MAX_WRITER" 4) rfl)
  have mMT := He.int_ok X G (d.fact 77 (f := .int "MAX_WRITTEN" 2) rfl)
  have mMP := He.int_ok X G (d.fact 78 (f := .int "MAX_PASSED" 2000) rfl)

  have CK : ClK K (He.ga K "Cleaner") := ⟨cl, noWriter, noLook, noFirsts, noOrigins⟩
  obtain ⟨CM, hStr⟩ := side_of oSide cl kH
  have TE : ExcK K (He.ga K "InvalidCleaner") := ⟨x1InvalidCleaner, x2InvalidCleaner, x3InvalidCleaner, x4InvalidCleaner⟩
  have TT : ExcK K (He.ga K "InvalidText") := ⟨x1InvalidText, x2InvalidText, x3InvalidText, x4InvalidText⟩
  obtain ⟨hCall, fCall⟩ := own_of oOwn0
  obtain ⟨hHas, fHas⟩ := own_of oOwn1
  have CW : ClW K (He.ga K "Cleaner") (hM K "walk") (hM K "views") (hM K "__call__") (hM K "__contains__") := ⟨meWalk, meViews, hCall, fCall, oEx0, hHas, fHas⟩
  have e := hfa.symm.trans gLaw
  cases e
  have b := FunD.bindsA (ps := ["script"]) FLaw fun _ _ _ _ _ _ us hl => match us, hl with | [_], _ => rfl
  have hcInOrder : fdInOrder.code = .ref (He.cT K ("in_order", none)).1 := by
    obtain ⟨oc, od, dV, kV, doc, pm, an, cdv, ct, osl, rfl, lk, hcd, _, _⟩ := FInOrder.ex
    obtain ⟨cc, rfl⟩ := He.codeIn_ref hcd
    exact congrArg Value.ref (He.codeOf_eq (p := ("in_order", none)) lk rfl).symm
  have hcLawLongRight : fdLawLongRight.code = .ref (He.cT K ("_law_long_right", none)).1 := by
    obtain ⟨oc, od, dV, kV, doc, pm, an, cdv, ct, osl, rfl, lk, hcd, _, _⟩ := FLawLongRight.ex
    obtain ⟨cc, rfl⟩ := He.codeIn_ref hcd
    exact congrArg Value.ref (He.codeOf_eq (p := ("_law_long_right", none)) lk rfl).symm
  have hcLawRight : fdLawRight.code = .ref (He.cT K ("_law_right", none)).1 := by
    obtain ⟨oc, od, dV, kV, doc, pm, an, cdv, ct, osl, rfl, lk, hcd, _, _⟩ := FLawRight.ex
    obtain ⟨cc, rfl⟩ := He.codeIn_ref hcd
    exact congrArg Value.ref (He.codeOf_eq (p := ("_law_right", none)) lk rfl).symm
  have hcLaw : fdLaw.code = .ref (He.cT K ("law", none)).1 := by
    obtain ⟨oc, od, dV, kV, doc, pm, an, cdv, ct, osl, rfl, lk, hcd, _, _⟩ := FLaw.ex
    obtain ⟨cc, rfl⟩ := He.codeIn_ref hcd
    exact congrArg Value.ref (He.codeOf_eq (p := ("law", none)) lk rfl).symm
  refine ⟨fdLaw, fun s v => b s [v] rfl, fun base _ _ TBs => ?_⟩
  have nd := c.nd
  have tin : ∀ p ∈ pTabs, He.cT K p ∈ pTabs.map (He.cT K) := fun p hp => List.mem_map.mpr ⟨p, hp, rfl⟩
  simp only [pTabs, List.map_cons, List.map_nil, List.nodup_cons, List.mem_cons, List.not_mem_nil, or_false, not_or] at nd
  have TBInOrder : TabB base mg (He.cT K ("in_order", none)).1 (He.cT K ("in_order", none)).2 := TBs _ (tin _ (by simp [pTabs]))
  have TBLawLongRight : TabB base mg (He.cT K ("_law_long_right", none)).1 (He.cT K ("_law_long_right", none)).2 := TBs _ (tin _ (by simp [pTabs]))
  have TBLawRight : TabB base mg (He.cT K ("_law_right", none)).1 (He.cT K ("_law_right", none)).2 := TBs _ (tin _ (by simp [pTabs]))
  have TBLaw : TabB base mg (He.cT K ("law", none)).1 (He.cT K ("law", none)).2 := TBs _ (tin _ (by simp [pTabs]))
  have hmInOrder : ((He.cT K ("in_order", none)).2, ioQ) ∈ tabsOf K := by simp [tabsOf]
  have huInOrder : ∀ x ∈ tabsOf K, x.1 = (He.cT K ("in_order", none)).2 → x.2 = ioQ := fun x hx e => by
    simp only [tabsOf, List.mem_cons, List.not_mem_nil, or_false] at hx
    rcases hx with rfl | rfl | rfl | rfl
    · rfl
    · exact absurd e (by first | (intro z; simp [z] at nd; done) | (intro z; have z2 := z.symm; simp [z2] at nd; done))
    · exact absurd e (by first | (intro z; simp [z] at nd; done) | (intro z; have z2 := z.symm; simp [z2] at nd; done))
    · exact absurd e (by first | (intro z; simp [z] at nd; done) | (intro z; have z2 := z.symm; simp [z2] at nd; done))
  have hmLawLongRight : ((He.cT K ("_law_long_right", none)).2, lgQ) ∈ tabsOf K := by simp [tabsOf]
  have huLawLongRight : ∀ x ∈ tabsOf K, x.1 = (He.cT K ("_law_long_right", none)).2 → x.2 = lgQ := fun x hx e => by
    simp only [tabsOf, List.mem_cons, List.not_mem_nil, or_false] at hx
    rcases hx with rfl | rfl | rfl | rfl
    · exact absurd e (by first | (intro z; simp [z] at nd; done) | (intro z; have z2 := z.symm; simp [z2] at nd; done))
    · rfl
    · exact absurd e (by first | (intro z; simp [z] at nd; done) | (intro z; have z2 := z.symm; simp [z2] at nd; done))
    · exact absurd e (by first | (intro z; simp [z] at nd; done) | (intro z; have z2 := z.symm; simp [z2] at nd; done))
  have hmLawRight : ((He.cT K ("_law_right", none)).2, rtQ) ∈ tabsOf K := by simp [tabsOf]
  have huLawRight : ∀ x ∈ tabsOf K, x.1 = (He.cT K ("_law_right", none)).2 → x.2 = rtQ := fun x hx e => by
    simp only [tabsOf, List.mem_cons, List.not_mem_nil, or_false] at hx
    rcases hx with rfl | rfl | rfl | rfl
    · exact absurd e (by first | (intro z; simp [z] at nd; done) | (intro z; have z2 := z.symm; simp [z2] at nd; done))
    · exact absurd e (by first | (intro z; simp [z] at nd; done) | (intro z; have z2 := z.symm; simp [z2] at nd; done))
    · rfl
    · exact absurd e (by first | (intro z; simp [z] at nd; done) | (intro z; have z2 := z.symm; simp [z2] at nd; done))
  have hmLaw : ((He.cT K ("law", none)).2, laQ) ∈ tabsOf K := by simp [tabsOf]
  have huLaw : ∀ x ∈ tabsOf K, x.1 = (He.cT K ("law", none)).2 → x.2 = laQ := fun x hx e => by
    simp only [tabsOf, List.mem_cons, List.not_mem_nil, or_false] at hx
    rcases hx with rfl | rfl | rfl | rfl
    · exact absurd e (by first | (intro z; simp [z] at nd; done) | (intro z; have z2 := z.symm; simp [z2] at nd; done))
    · exact absurd e (by first | (intro z; simp [z] at nd; done) | (intro z; have z2 := z.symm; simp [z2] at nd; done))
    · exact absurd e (by first | (intro z; simp [z] at nd; done) | (intro z; have z2 := z.symm; simp [z2] at nd; done))
    · rfl

  have roll : ∀ k, FnOk P w K mg base CX0 (k + 1) _ fdLawRoll ["dice", "total"] spRoll := fun k => ok_roll FLawRoll mint
  have one : ∀ k, FnOk P w K mg base CX0 (k + 2) _ fdLawOneOf ["dice", "items"] (spOne K) := fun k => ok_one FLawOneOf (roll k) gLawRoll FLawRoll.kp bLawRoll mlen
  have mixed : ∀ k, FnOk P w K mg base CX0 (k + 2) _ fdLawMixed ["dice", "items"] (spMixed K) := fun k => ok_mixed FLawMixed mlist mlen mrange (roll k) gLawRoll FLawRoll.kp bLawRoll
  have all' : ∀ k, FnOk P w K mg base CX0 (k + 1) _ fdLawAllSigns [] spAll := fun k => ok_all FLawAllSigns
  have lsigns : ∀ k, FnOk P w K mg base CX0 (k + 3) _ fdLawSigns ["dice", "upto"] spSigns := fun k => ok_lsigns FLawSigns mlist mtuple msorted (roll (k + 1)) gLawRoll FLawRoll.kp bLawRoll (all' (k + 1)) gLawAllSigns FLawAllSigns.kp bLawAllSigns (mixed k) gLawMixed FLawMixed.kp bLawMixed
  have lword : ∀ k, FnOk P w K mg base CX0 (k + 3) _ fdLawWord ["dice", "signs", "upto"] (spLWord K) := fun k => ok_lword FLawWord (one k) gLawOneOf FLawOneOf.kp bLawOneOf mmin mrange
  have wild : ∀ k, FnOk P w K mg base CX0 (k + 4) _ fdLawWildCleaner ["dice", "signs"] (spWild K w) := fun k => J.ok_wild FLawWildCleaner mlist mrange mdict (J.roll (roll (k + 2))) gLawRoll FLawRoll.kp bLawRoll (J.one (one (k + 1))) gLawOneOf FLawOneOf.kp bLawOneOf (J.mixed (mixed (k + 1))) gLawMixed FLawMixed.kp bLawMixed (J.lword (lword k)) gLawWord FLawWord.kp bLawWord
  have num : ∀ k, FnOk P w K mg base CX0 (k + 1) _ fdIsNumber ["value", "low", "high"] (spNum K) := fun k => ok_num FIsNumber misinstance mint mbool
  have sign : ∀ k, FnOk P w K mg base CX0 (k + 1) _ fdIsSign ["value"] (spD K isSignD) := fun k => ok_sign FIsSign misinstance mstr mlen ms
  have text : ∀ k, FnOk P w K mg base CX0 (k + 1) _ fdIsText ["value"] (spD K isTextD) := fun k => ok_text FIsText misinstance mstr ms
  have written : ∀ k, FnOk P w K mg base CX0 (k + 2) _ fdIsWritten ["value", "limits"] (spWritten K) := fun k => ok_written FIsWritten mlen (text k) gIsText FIsText.kp bIsText
  have seen : ∀ k, FnOk P w K mg base CX0 (k + 2) _ fdIsSeenSign ["value", "views"] (spSeen K) := fun k => ok_seen FIsSeenSign misinstance mtuple mlen (sign k) gIsSign FIsSign.kp bIsSign (num k) gIsNumber FIsNumber.kp bIsNumber
  have move : ∀ k, FnOk P w K mg base CX0 (k + 3) _ fdIsMove ["value", "many", "limits"] (spMove K) := fun k => ok_move FIsMove misinstance mtuple mlen (written k) gIsWritten FIsWritten.kp bIsWritten (num (k + 1)) gIsNumber FIsNumber.kp bIsNumber
  have lookSt : ∀ k, FnOk P w K mg base CX0 (k + 2) _ fdIsLookState ["value", "many"] (spLSt K w) := fun k => ok_lookSt FIsLookState misinstance mtuple mlen mdict mall (sign k) gIsSign FIsSign.kp bIsSign (num k) gIsNumber FIsNumber.kp bIsNumber
  have writerSt : ∀ k, FnOk P w K mg base CX0 (k + 4) _ fdIsWriterState ["value", "many", "views", "limits"] (spWSt K w) := fun k => ok_writerSt FIsWriterState misinstance mtuple mlen mdict mall (written (k + 1)) gIsWritten FIsWritten.kp bIsWritten (seen (k + 1)) gIsSeenSign FIsSeenSign.kp bIsSeenSign (move k) gIsMove FIsMove.kp bIsMove (num (k + 2)) gIsNumber FIsNumber.kp bIsNumber
  have isLook : ∀ k, FnOk P w K mg base CX0 (k + 3) _ fdIsLook ["value", "limits"] (spLook K w) := fun k => ok_isLook FIsLook misinstance mtuple mlen mall (lookSt k) gIsLookState FIsLookState.kp bIsLookState
  have isWriter : ∀ k, FnOk P w K mg base CX0 (k + 5) _ fdIsWriter ["value", "views", "limits"] (spWriter K w) := fun k => ok_isWriter (k := k + 2) FIsWriter misinstance mtuple mlen mall (writerSt k) gIsWriterState FIsWriterState.kp bIsWriterState
  have firsts' : ∀ k, FnOk P w K mg base CX0 (k + 2) _ fdAreFirsts ["value", "views", "many"] (spFirsts K) := fun k => ok_firsts FAreFirsts misinstance mtuple mlen mall (num k) gIsNumber FIsNumber.kp bIsNumber
  have parts : ∀ k, FnOk P w K mg base CX0 (k + 7) _ fdAreParts ["writer", "look", "firsts", "limits"] (spParts K w) := fun k => ok_areParts FAreParts mlen (isLook (k + 3)) gIsLook FIsLook.kp bIsLook (isWriter (k + 1)) gIsWriter FIsWriter.kp bIsWriter (firsts' (k + 4)) gAreFirsts FAreFirsts.kp bAreFirsts
  have inOrder : ∀ k, FnG P w K mg base CX0 (k + 5) _ fdInOrder ["moves"] (spInOrder K w (tabsOf K)) := fun k => ok_inOrder FInOrder msorted mrepr sb hcInOrder TBInOrder hmInOrder huInOrder
  have origins : ∀ k, FnOk P w K mg base CX0 (k + 1) _ fdOriginsOf ["look"] (spOrigins K w) := fun k => ok_origins FOriginsOf menumerate ms
  have keep : ∀ k, FnG P w K mg base CX0 (k + 6) (hM K "_keep") fdHKeep ["self", "writer", "look", "firsts"] (spKeep K w (He.ga K "Cleaner") (tabsOf K)) := fun k => ok_keep FHKeep CK mtuple (inOrder k) gInOrder FInOrder.kp bInOrder (origins (k + 4)) gOriginsOf FOriginsOf.kp bOriginsOf
  have init : ∀ k, FnG P w K mg base (L2.CX P w) (k + 8) (hM K "__init__") fdHInit ["self", "writer", "look", "firsts"] (spCInit K w (He.ga K "Cleaner") (He.ga K "InvalidCleaner") (tabsOf K)) := fun k => ok_cinit FHInit CK TE gInvalidCleaner misinstance mtuple mlen mML mMW mMT (parts k) gAreParts FAreParts.kp bAreParts (keep (k + 1)) meKeep bHKeep
  have kb := kb_both FHInit
  obtain ⟨mv1, kb1⟩ := kb_one FHInit
  have madeC : ∀ k, FnG P w K mg base CX0 (k + 10) _ fdLawMadeCleaner ["cleaner"] (spMadeC K w (He.ga K "Cleaner") (tabsOf K)) := fun k => ok_madeC FLawMadeCleaner mtuple gCleaner mk (init k) kb
  have lword6 : ∀ k, FnOk P w K mg base CX0 (k + 3) _ fdLawWord ["dice", "signs", "upto"] (spLWord6 K) := fun k => ok_lword6 FLawWord (one k) gLawOneOf FLawOneOf.kp bLawOneOf mmin mrange
  have lcl : ∀ k, FnOk P w K mg base CX0 (k + 5) _ fdLawCleaner ["dice", "signs"] (spWild K w) := fun k => J.ok_lcl FLawCleaner (J.roll (roll (k + 3))) gLawRoll FLawRoll.kp bLawRoll (J.one (one (k + 2))) gLawOneOf FLawOneOf.kp bLawOneOf (wild k) gLawWildCleaner FLawWildCleaner.kp bLawWildCleaner
  have textI : ∀ k, FnOk P w K mg base CX0 (k + 1) _ fdIsText ["value"] (spTextI K (He.ga K "Cleaner")) := fun k => ok_textI FIsText misinstance mstr ms CK CM hStr
  have check : ∀ k, FnOk P w K mg base (L2.CX P w) (k + 2) _ fdCheckPassed ["value"] (spCheck K (He.ga K "Cleaner") (He.ga K "InvalidText")) := fun k => ok_check FCheckPassed TT gInvalidText mlen mMP (textI k) gIsText FIsText.kp bIsText
  have viewsAt : ∀ k, FnOk P w K mg base CX0 (k + 1) _ fdViewsAt ["cleaner", "text"] (spViews K w (He.ga K "Cleaner")) := fun k => ok_views FViewsAt CK
  have wrAt : ∀ k, FnOk P w K mg base CX0 (k + 1) _ fdWrittenAt ["cleaner", "state", "sign", "view"] (spWrAt K w (He.ga K "Cleaner")) := fun k => ok_wrAt FWrittenAt CK
  have lastAt : ∀ k, FnOk P w K mg base CX0 (k + 1) _ fdLastAt ["cleaner", "state"] (spLastAt K w (He.ga K "Cleaner")) := fun k => ok_lastAt FLastAt CK
  have res : ∀ k, FnOk P w K mg base CX0 (k + 2) _ fdResultOf ["cleaner", "text"] (spRes K w (He.ga K "Cleaner")) := fun k => ok_res FResultOf CK mzip (viewsAt k) gViewsAt FViewsAt.kp bViewsAt (wrAt k) gWrittenAt FWrittenAt.kp bWrittenAt (lastAt k) gLastAt FLastAt.kp bLastAt
  have states : ∀ k, FnOk P w K mg base CX0 (k + 2) _ fdStatesAlong ["cleaner", "text"] (spStates K w (He.ga K "Cleaner")) := fun k => ok_states FStatesAlong CK mzip (viewsAt k) gViewsAt FViewsAt.kp bViewsAt (wrAt k) gWrittenAt FWrittenAt.kp bWrittenAt
  have cviews : ∀ k, FnOk P w K mg base (L2.CX P w) (k + 3) (hM K "views") fdHViews ["self", "text"] (spMeth K w (He.ga K "Cleaner") (He.ga K "InvalidText") (rViews K)) := fun k => ok_cviews FHViews mtuple (check k) gCheckPassed FCheckPassed.kp bCheckPassed (viewsAt (k + 1)) gViewsAt FViewsAt.kp bViewsAt
  have cwalk : ∀ k, FnOk P w K mg base (L2.CX P w) (k + 3) (hM K "walk") fdHWalk ["self", "text"] (spMeth K w (He.ga K "Cleaner") (He.ga K "InvalidText") (rWalk K)) := fun k => ok_cwalk FHWalk mtuple (check k) gCheckPassed FCheckPassed.kp bCheckPassed (states k) gStatesAlong FStatesAlong.kp bStatesAlong
  have ccall : ∀ k, FnR P w K mg base (L2.CX P w) (k + 3) (hM K "__call__") (spMeth K w (He.ga K "Cleaner") (He.ga K "InvalidText") rRes) := fun k => raw_nil ((ok_ccall (k := k) FHCall (check k) gCheckPassed FCheckPassed.kp bCheckPassed (res k) gResultOf FResultOf.kp bResultOf).raw bHCall .nil)
  have chas : ∀ k, FnR P w K mg base CX0 (k + 3) (hM K "__contains__") (spHas K w (He.ga K "Cleaner")) := fun k => raw_nil ((ok_chas (k := k) FHContains CK (textI (k + 1)) gIsText FIsText.kp bIsText (viewsAt (k + 1)) gViewsAt FViewsAt.kp bViewsAt).raw bHContains .nil)
  have lviews : ∀ k, FnOk P w K mg base CX0 (k + 1) _ fdLawViews ["cleaner", "text"] (spLViews K w) := fun k => ok_lviews FLawViews
  have lres : ∀ k, FnOk P w K mg base CX0 (k + 2) _ fdLawResult ["cleaner", "text"] (spLRes K w) := fun k => ok_lres FLawResult menumerate (lviews k) gLawViews FLawViews.kp bLawViews
  have lwalk : ∀ k, FnOk P w K mg base CX0 (k + 2) _ fdLawWalk ["cleaner", "text"] (spLWalk K w) := fun k => ok_lwalk FLawWalk menumerate (lviews k) gLawViews FLawViews.kp bLawViews
  have ltexts : ∀ k, FnOk P w K mg base CX0 (k + 1) _ fdLawTexts ["signs", "upto"] (spTexts K) := fun k => ok_texts FLawTexts mrange mlen
  have isr : ∀ k, FnG P w K mg base CX0 (k + 5) _ fdLawIsRight ["made", "cleaner", "text"] (spIsR K w (He.ga K "Cleaner")) := fun k => ok_isr FLawIsRight CK CW sb mrepr mtuple (lres (k + 2)) gLawResult FLawResult.kp bLawResult (lwalk (k + 2)) gLawWalk FLawWalk.kp bLawWalk (lviews (k + 3)) gLawViews FLawViews.kp bLawViews (cwalk (k + 1)) bHWalk (cviews (k + 1)) bHViews (ccall (k + 1)) (chas (k + 1))
  have long : ∀ k, FnG P w K mg base CX0 (k + 7) _ fdLawLongRight ["dice", "made", "cleaner", "signs"] (spLong K w (He.ga K "Cleaner") (tabsOf K)) := fun k => J.ok_long FLawLongRight hcLawLongRight TBLawLongRight hmLawLongRight huLawLongRight CW sb mrepr (J.one (one (k + 2))) gLawOneOf FLawOneOf.kp bLawOneOf (lres (k + 2)) gLawResult FLawResult.kp bLawResult FLawMet gLawMet bLawMet gInvalidText xmInvalidText (ccall (k + 1)) (chas (k + 1))
  have right : FnG P w K mg base CX0 12 _ fdLawRight ["dice"] (spRightK (tabsOf K)) := J.ok_right (k := 0) FLawRight hcLawRight TBLawRight hmLawRight huLawRight CK CW mrange mtuple msorted mset mlen (lsigns 8) gLawSigns FLawSigns.kp bLawSigns (J.roll (roll 10)) gLawRoll FLawRoll.kp bLawRoll (J.one (one 9)) gLawOneOf FLawOneOf.kp bLawOneOf (all' 10) gLawAllSigns FLawAllSigns.kp bLawAllSigns
    (lcl 6) gLawCleaner FLawCleaner.kp bLawCleaner (madeC 1) gLawMadeCleaner FLawMadeCleaner.kp bLawMadeCleaner (isr 6) gLawIsRight FLawIsRight.kp bLawIsRight (ltexts 10) gLawTexts FLawTexts.kp bLawTexts (lword6 8) gLawWord FLawWord.kp bLawWord FLawMet gLawMet bLawMet gInvalidText xmInvalidText (long 4) gLawLongRight FLawLongRight.kp bLawLongRight (cwalk 6) bHWalk (cviews 6) bHViews (ccall 6) (chas 6)
  exact ok_law (k := 1) FLaw hcLaw TBLaw hmLaw huLaw CK CW mrange mmax mmin mlen mtuple mint (ok_dice (k := 11) FLawDice mlen mint mabs mmax) gLawDice FLawDice.kp bLawDice right gLawRight FLawRight.kp bLawRight gCleaner mk (init 3) kb kb1 FLawMet gLawMet bLawMet gInvalidText xmInvalidText (cwalk 7) bHWalk (cviews 7) bHViews (ccall 7) (chas 7)
end K0
end
/-! ### KE -/
set_option Elab.async false
set_option linter.all false
set_option maxRecDepth 100000
set_option maxHeartbeats 0
open PySem PySem.W PySem.Calls PyProof.Rows
theorem PySem.Challenge.cw_cleandress_k14_whole_results_by_views_holds : PySem.Challenge.rw_cleandress_k14_whole_results_by_views.Holds := by
  w_on; o_law
  refine HandSHeadRun.head_any (r := K0.R) (q := view K0.R.prog [54]) (H := K0.hookA) (ob := K0.obA) (M := 20000) (loose := K0.names) (d := HandSHeadRun.topDef K0.R.prog 54) (kwd := []) K0.obA_eq
    (by kernel_rfl) (fun s => by kernel_rfl) K0.runA (by kernel_rfl) (by kernel_rfl) (by kernel_rfl) (by rfl) (by first | assumption | decide +kernel) (by decide +kernel) ⟨rfl, rfl, rfl, rfl, rfl, by decide +kernel⟩ ?hw ?hc
  case hw => w_witness2
  case hc =>
    refine K0.walkGT (l := PySem.Challenge.rw_cleandress_k14_whole_results_by_views) (n := 63) (k := 13) (x := "script") rfl (by decide) (by kernel_rfl) ⟨rfl, by decide, by decide⟩ ?F
    intro w mg f h Y G hmg0
    obtain ⟨K, KX, c⟩ := Y
    have hmg : mg ("law" : PySem.Str) = some (.ref f) := by
      have e : (HandSHeadRun.topDef K0.R.prog 54).name = ("law" : PySem.Str) := by kernel_rfl
      rw [← e]
      exact hmg0
    have mm : ∀ {t : Addr}, t ∈ (K0.pTabs.map (He.cT K)).map (·.2) → ∃ p ∈ K0.pTabs, (He.cT K p).2 = t := fun m => by
      obtain ⟨q, hq, rfl⟩ := List.mem_map.mp m
      obtain ⟨p, hp, rfl⟩ := List.mem_map.mp hq
      exact ⟨p, hp, rfl⟩
    refine ⟨K, K0.pTabs.map (He.cT K), K0.tabsOf K, KX, fun t m => ?_, fun t m => ?_, fun p m => ?_, fun x m => ?_, K0.facts KX G hmg c⟩
    · obtain ⟨p, hp, rfl⟩ := mm m
      exact c.tab p hp
    · obtain ⟨p, hp, rfl⟩ := mm m
      exact c.out p hp
    · obtain ⟨q, hq, rfl⟩ := List.mem_map.mp m
      exact PySem.W.codeHd_of_K KX (c.hd q hq)
    · exact K0.tabsOf_in x m
