import PyProof.Rows.All
import Wide.All
import OpenK.AllK
import Wide.FinOn
import KE.KStateDown
import Lean
import HandS.ForMost
import HandS.Exc
import HandS.ExcInit
import HandS.WordsExc
import HandS.Defaults
import HandS.Head0
import HandS.Head1
import HandS.Head2
import HandS.HeadEnd
import HandS.HeadHook1
import HandS.HeadHook2
import HandS.Wide
import HandS.Codes
import KE.KDictKeyed
import KE.KDictWalk
import PyProof.DictRoadsH
import HandS.Dict
import HandS.Iter
import HandS.Comp
import KE.KDictPairs
import KE.KDictItemsList
import KE.KDictList
import KE.KDictCopyH
import HandS.IsInst
import HandS.DictTup
import HandS.List
import HandS.Conv
import KE.SortKeyHeap
import KE.KLam
import KE.KDictSum
import HandS.Lambda
import PyProof.Rows.SortShellAny
import KE.KSortKey
import HandS.DictComp
import HandS.Walk
import KE.GoesEnum
import KE.GoesMore
import PyProof.DictMoreH
import HandS.StrMore
import HandS.Steps
import Wide.Txt
import PyProof.ListStr
import HandS.MakeKwOnly
import HandS.TupMul
import HandS.Small
import KE.KEqNest
import HandS.More
import HandS.SlotsOwn
import PyProof.InstEq
import PyProof.CallStr
import KE.KFmtOwn
import HandS.Sort
import PyProof.ListRange
import HandS.Style
import HandS.TupAny
import PyProof.CollectStr
import KE.KExcIs
import KE.KTryMore
import HandS.HotCalls
import HandS.ExcValue
import HandS.TryMany
import HandS.Property
import HandS.NoneIn
import PyProof.ExcBaseAll.ValueError
import HandS.EndTab
import HandS.HeadHook4
import PySem.Challenge.RW_cleandress_k16_errors_of_cleaners
/-! ### H0 -/
section
set_option Elab.async false
set_option linter.all false
set_option maxRecDepth 100000
set_option maxHeartbeats 0
namespace K0
open PySem PySem.Spec PyProof.Rows L2
def top (i : Nat) : Stmt := PySem.Challenge.pw_cleandress_k16_errors_of_cleaners.main.body.getD i (.Pass ⟨0, 0, 0, 0⟩)
abbrev dfn (x : Str) (i : Nat) : He.DefD := ⟨(x, none), x, x, defArgs (top i), defBody (top i), defScope (top i), [], []⟩
abbrev iNum : Nat := 2
abbrev iSign : Nat := 10
abbrev iIsText : Nat := 11
abbrev iCheckP : Nat := 12
abbrev iCleaner : Nat := 17
abbrev iAreParts : Nat := 18
abbrev iIsLook : Nat := 19
abbrev iLookSt : Nat := 20
abbrev iIsWriter : Nat := 21
abbrev iWriterSt : Nat := 22
abbrev iSeen : Nat := 23
abbrev iIsMove : Nat := 24
abbrev iWritten : Nat := 25
abbrev iFirsts : Nat := 26
abbrev iInOrder : Nat := 27
abbrev iOrigins : Nat := 29
abbrev iDice : Nat := 35
abbrev iRoll : Nat := 36
abbrev iOne : Nat := 37
abbrev iMixed : Nat := 38
abbrev iAll : Nat := 39
abbrev iSigns : Nat := 40
abbrev iLWord : Nat := 41
abbrev iWild : Nat := 42
abbrev iMade : Nat := 43
abbrev iLText : Nat := 44
abbrev iLNum : Nat := 45
abbrev iLSign : Nat := 46
abbrev iLLook : Nat := 47
abbrev iLRow : Nat := 48
abbrev iLParts : Nat := 49
abbrev iOdd : Nat := 50
abbrev iSMove : Nat := 51
abbrev iSRow : Nat := 52
abbrev iSLook : Nat := 53
abbrev iMadeOf : Nat := 54
abbrev iSRight : Nat := 55
abbrev iRight : Nat := 56
abbrev iLaw : Nat := 57
end K0
end
/-! ### G0 -/
section
set_option Elab.async false
set_option linter.all false
set_option maxRecDepth 100000
set_option maxHeartbeats 4000000
/-! Defs whose promise is kept where nothing is being shown (no repr runs around them): FnG, its rule, its calls, the law's entry. -/
namespace K0
open PySem PySem.Spec PyProof.Rows L2
structure FnG (P : Program) (w : World) (K : PySem.W.Frag) (mg : Str → Option Value) (base : Heap) (CX : CXT) (k : Nat) (f : Addr) (fd : FuncData) (ps : List Str) (sp : Sp) : Prop where
  many : ∀ vs H Q E, sp vs H Q E → vs.length = ps.length
  go : ∀ (A : Around) (outer : List Env) (s : Shared) (H : Hp) (args : Args) (us : List Value) (vs : List V) (Q : VK) (E : XK), A.guards = some [] → Room k A → Env0 P w K mg base A outer s H → BindsTo s fd args (ps.zip us) → Vals vs us → sp vs H Q E → codeAny (model P w) A (.call (.ref f) args) (CR CX outer P w H s Q E) s
section
variable {P : Program} {w : World} {K : PySem.W.Frag} {mg : Str → Option Value} {base : Heap} {CX : CXT} {k : Nat} {f : Addr} {fd : FuncData}
theorem fnG_ofC {x qual : Str} {params : Arguments} {body : List Stmt} {scope : Scope} {dvs : List V} {kws : List (Str × V)} {N ps : List Str} {sp : Sp} (F : FunD K x qual params body scope dvs kws f fd) (S : FnScope N ps scope) (many : ∀ vs H Q E, sp vs H Q E → vs.length = ps.length)
    (hb : ∀ (cdv : Value), fd.code = cdv → ∀ (A : Around) (outer : List Env) (s : Shared) (H : Hp) (vs : List V) (Q : VK) (E : XK), (A.deeper (envOfC qual scope s.heap.objs.size f cdv)).guards = some [] → Room k (A.deeper (envOfC qual scope s.heap.objs.size f cdv)) → sp vs H Q E →
      ∃ t, PSs (cxOf CX P w K mg base N qual scope f cdv A outer s H E) body t ∧ t { nx := fun _ H' => Q .non H', rt := Q } (L2.start N vs) H) : FnG P w K mg base CX (k + 1) f fd ps sp := by
  obtain ⟨oc, od, dV, kV, doc, pm, an, cdv, ct, osl, rfl, lk, code, _, _⟩ := F.ex
  refine ⟨many, fun A outer s H args us vs Q E gd room e0 bd rel prom => ?_⟩
  have size := many _ _ _ _ prom
  have KX : K.In s.heap := e0.mod.kin.keeps fun b o z => (e0.bs b o z).1
  have lim : s.heap.NoLimit := e0.mod.nolimit.keeps fun b o z => (e0.bs b o z).1
  have kinds : ∀ y ∈ ps.zip us, scope.names.lookup y.1 = some .local ∨ (scope.names.lookup y.1 = some .cell ∧ ((cellsFrom (s.heap.objs.size + 1) scope.names []).lookup y.1).isSome = true) := fun ⟨n, v⟩ hy => (S.par n (List.of_mem_zip hy).1).elim .inl fun z => .inr ⟨z, PySem.W.cellsFrom_some _ _ _ (.inl z)⟩
  refine codeAny_call_function room.depth (KX _ _ lk) rfl S.co S.gen rfl (PySem.W.codeRec_of KX code) (bd _ _ _ _ (wpAny_newFunctionEnv_cells S.kind kinds fun env he s1 y => ?_))
  subst he
  obtain ⟨t, pf, rd⟩ := hb cdv rfl A outer s H vs Q E gd (room.deeper _) prom
  refine ⟨lim.keeps y.toInCall.keep, codeAny_func (wpAny_mono (pf.run [] s1 _ H _ (inv_start S room.hd e0 size rel y) rd) (fun fl s' z => ?_) fun e s' z => z)⟩
  cases fl with
  | ret u => obtain ⟨v, σ', H', J, rv, q⟩ := z; exact ⟨v, H', J.os, J.bare, J.base, J.hok, rv, q⟩
  | next => obtain ⟨σ', H', J, q⟩ := z; exact ⟨V.non, H', J.os, J.bare, J.base, J.hok, rfl, q⟩
  | brk => exact z.elim fun _ z => z.elim fun _ z => z.2.elim
  | cont => exact z.elim fun _ z => z.elim fun _ z => z.2.elim
theorem lawG {a : Addr} {mb : Str → Option Value} {x : Str} {sp : Sp} {s₁ : Shared} {vs : List Value} {ns : List Int} (KX : K.In s₁.heap) (hns : s₁.heap.Ns mainGlobals mg) (hmb : s₁.heap.Ns builtinsNs mb) (hbb : ∀ x : Str, x ≠ "__name__" → mb x = bootBuiltins x) (lim : s₁.heap.NoLimit) (gens : s₁.gens = #[])
    (obj : s₁.heap.get? a = some { cls := .type "list", data := .seq vs.toArray }) (its : IntsAre vs ns) (most : ns.length ≤ sizeLine) (room : Room k callerA) (F : ∀ base : Heap, K.In base → base.Ns mainGlobals mg → FnG P w K mg base CX k f fd [x] sp)
    (bind : ∀ (s : Shared) (u : Value), BindsTo s fd ⟨[u], []⟩ [(x, u)]) (prom : ∀ H : Hp, Only H → SqL K H a (ns.map V.int) → sp [.ref a] H (fun v _ => v = .bl true) fun _ _ _ => False) (none_out : ∀ H e s', CX [] H s₁ (fun _ _ _ => False) e s' → False) :
    codeAny (model P w) callerA (.call (.ref f) ⟨[.ref a], []⟩) (fun r s' => r = .ok (.ret (.bool true)) ∧ OldK s₁.heap s'.heap ∧ s'.os = s₁.os ∧ AllBare s'.gens) s₁ := by
  have rel := vals_ints its
  have size := its.length
  have main : ∀ H : Hp, Only H → SqL K H a (ns.map V.int) → HOk P w H s₁.heap → (∀ b, H b ≠ none → b = a) → (H a ≠ none → K.lookup a = none) → codeAny (model P w) callerA (.call (.ref f) ⟨[.ref a], []⟩) (fun r s' => r = .ok (.ret (.bool true)) ∧ OldK s₁.heap s'.heap ∧ s'.os = s₁.os ∧ AllBare s'.gens) s₁ := by
    intro H only seq hok just apart
    have at_a : ∀ {b : Addr}, H b ≠ none → b = a := fun {b} z => just b z
    have noDict : ∀ {b : Addr} {o : Obj} {es : Array DictEntry} {ep : Nat}, s₁.heap.get? b = some o → o.data = .dict es ep → H b = none := fun {b o es ep} e d => Classical.byContradiction fun z => by
      have e1 := at_a z
      subst e1
      rw [obj] at e
      cases e
      exact absurd (show Data.seq vs.toArray _ = Data.dict es ep from d) (fun q => by cases q)
    have keepNs : ∀ {b : Addr} {m : Str → Option Value}, s₁.heap.Ns b m → (hidT s₁.heap H).Ns b m := fun {b m} ⟨o, es, ep, e, d, r⟩ => ⟨o, es, ep, hidT_get e (noDict e d), d, r⟩
    have kin : K.In (hidT s₁.heap H) := fun b o e => hidT_get (KX b o e) (Classical.byContradiction fun z => by
      have e1 := at_a z
      subst e1
      rw [apart z] at e
      cases e)
    have mod : Mod K mg (hidT s₁.heap H) := ⟨kin, keepNs hns, ⟨mb, keepNs hmb, hbb⟩, lim.elim fun mc z => ⟨mc, keepNs z.1, z.2⟩⟩
    have e0 : Env0 P w K mg (hidT s₁.heap H) callerA [] s₁ H := ⟨rfl, mod, fun b o e => of_hidT e, Nat.le_of_eq (hidT_size _ _), trivial, (fun b z => nomatch (show b ∈ ([] : List Addr) from z)), hok, .of_eq gens⟩
    refine codeAny_mono ((F _ kin (keepNs hns)).go callerA [] s₁ H ⟨[.ref a], []⟩ [.ref a] [.ref a] _ _ rfl room e0 (bind s₁ (.ref a)) (.cons rfl .nil) (prom H only seq)) fun r s' z => ?_
    rcases r with e | fl
    · exact (none_out H e s' z).elim
    cases fl with
    | next => exact z.elim
    | brk => exact z.elim
    | cont => exact z.elim
    | ret u =>
      obtain ⟨v, H', os, bare, un, hok', rv, rfl⟩ := z
      obtain rfl : u = Value.bool true := rv
      refine ⟨rfl, OldK.of_keep fun b o e => ?_, os, bare⟩
      cases q : H b with
      | none => exact un.keep b o e q (fun z => nomatch (show b ∈ ([] : List Addr) from z)) (fun z => nomatch z)
      | some u =>
        rcases only b with z | ⟨ob, xs, z⟩
        · rw [q] at z
          cases z
        · obtain ⟨e1, _⟩ := hok b _ z
          obtain ⟨e2, _⟩ := hok' b _ (un.frzs b ob _ z)
          rw [e] at e1
          cases e1
          exact e2
  cases own : K.lookup a with
  | some o =>
    have e := KX a o own
    rw [obj] at e
    cases e
    exact main (fun _ => none) (fun _ => .inl rfl) (.inr ⟨_, vs.toArray, _, own, rfl, rfl, rfl, by rw [List.size_toArray, size]; exact most, by simpa using rel⟩) (fun b u z => nomatch (show (none : Option HO) = some u from z)) (fun b z => absurd rfl z) fun z => absurd rfl z
  | none =>
    have yes : ∀ {b : Addr}, b = a → (if b = a then some (HO.frz { cls := .type "list", data := .seq vs.toArray } (.lst (ns.map V.int))) else none) = some (HO.frz { cls := .type "list", data := .seq vs.toArray } (.lst (ns.map V.int))) := fun z => if_pos z
    refine main (fun b => if b = a then some (.frz { cls := .type "list", data := .seq vs.toArray } (.lst (ns.map V.int))) else none) (fun b => ?_) (.inl (.inr ⟨_, yes rfl⟩)) (fun b u z => ?_) (fun b z => Classical.byContradiction fun n => z (if_neg n)) fun _ => own
    · by_cases n : b = a
      · exact .inr ⟨_, _, yes n⟩
      · exact .inl (if_neg n)
    · by_cases n : b = a
      · have z2 := (yes n).symm.trans z
        cases z2
        subst n
        exact ⟨obj, by rw [List.length_map]; exact most, vs, _, rel, obj⟩
      · have z2 := (if_neg n).symm.trans z
        cases z2
end
section
variable {X : Cx} {CX : CXT} {k : Nat} {f : Addr} {fd : FuncData} {ps : List Str} {sp : Sp} {x : Str} {p pos : Pos} {e : Expr} {es : List Expr} {t : TA} {E : XK}
theorem peG (F : FnG X.prog X.w X.K X.mg X.base CX k f fd ps sp) (gd : X.A.guards = some []) (room : Room k X.A) (hg : Gl X x) (hm : X.mg x = some (.ref f)) (kp : PySem.W.keepIn X.K (.ref f) = true) (bd : Binds X.K fd ps []) (ps' : Passes CX X E) (ha : PA X (e :: es) t)
    (hdb : (x == ("__debug__" : Str)) = false := by decide) (he : starEach (e :: es) X.env = (false, eval e X.env) :: starEach es X.env := by rfl) (hpl : (backTo pos (starEach es X.env)).any (·.1) = false := by rfl) : PE X (.Call (.Name x p) (e :: es) [] pos) (tCall sp [] E t) :=
  ⟨fun pins s σ H Q I h => wpAny_Call_Name_kw (ld_glob I hg hm (PySem.W.callWith_K (h₀ := X.base) I.ok.mod.kin kp (thn (ha.run pos pins s σ H _ I h) fun us s1 ⟨vs, H1, I1, r, q⟩ => ⟨I1.kIn, by
    have q : sp (vs ++ []) H1 Q E := q
    rw [List.append_nil] at q
    have size : (us ++ []).length = ps.length := by rw [List.append_nil, ← r.length]; exact F.many _ _ _ _ q
    have bd2 := bd s1 us I1.kIn size
    rw [List.append_nil] at bd2
    refine wpAny_call (codeAny_mono (F.go X.A X.stack s1 H1 ⟨us, []⟩ us vs Q E gd room I1.env0 bd2 r q) fun res s' z => ?_)
    rcases res with err | fl
    · exact ps' pins σ H1 s1 err s' I1 z
    · cases fl with
      | ret u => exact I1.after z
      | next => exact z.elim
      | brk => exact z.elim
      | cont => exact z.elim⟩) he hpl) hdb)⟩
end
end K0
end
/-! ### D0 -/
section
set_option Elab.async false
set_option linter.all false
set_option maxRecDepth 100000
set_option maxHeartbeats 4000000
namespace K0
open PySem PySem.Spec PyProof.Rows L2
abbrev FnP (K : PySem.W.Frag) (x : Str) (i : Nat) (f : Addr) (fd : FuncData) : Prop := FunD K x x (defArgs (top i)) (defBody (top i)) (defScope (top i)) [] [] f fd
/-- a power whose base has few bits -/
def PowBits (i j : Int) : Prop := 0 ≤ j ∧ (Builtin.Int.intBits i : Int) * j ≤ 2 ^ 27
theorem op_powBits {X : Cx} : OpR X (binaryOp .Pow) (rI PowBits fun i j => .int (i ^ j.toNat)) := opI fun _ _ _ _ _ _ _ hc q => pow_int hc.1 hc.2 q
/-- three ints in a list: the dice -/
abbrev dk (a b c : Int) : HO := .lst [.int a, .int b, .int c]
theorem scDice : FnScope ["script", "at", "cell", "great", "mixed"] ["script", "at"] (defScope (top iDice)) := ⟨rfl, rfl, rfl, by decide +kernel, rfl, by decide +kernel, by decide +kernel⟩
def spDice (K : PySem.W.Frag) : Sp := fun vs H Q _ => ∃ (p : Addr) (ns : List Int) (j : Nat), vs = [.ref p, .int j] ∧ SqL K H p (ns.map V.int) ∧ ∀ d a b c, H d = none → Q (.ref d) (upd H d (dk a b c))
section
variable {P : Program} {w : World} {K : PySem.W.Frag} {mg : Str → Option Value} {base : Heap} {f fR fO : Addr} {fd fdR fdO : FuncData}
theorem ok_dice {k : Nat} (F : FnP K "_law_dice" iDice f fd) (mlen : mg "len" = none) (mint : mg "int" = none) (mabs : mg "abs" = none) (mmax : mg "max" = none) : FnOk P w K mg base CX0 (k + 1) f fd ["script", "at"] (spDice K) := by
  refine F.ok scDice (fun vs H Q E h => ?_) (fun cdv A outer s H vs Q E hr h => ?_)
  · obtain ⟨p, ns, j, rfl, _⟩ := h
    rfl
  · obtain ⟨p, ns, j, rfl, hS, q⟩ := h
    refine ⟨_, PSs.nox (pss_cons (ps_set (i := 2) scDice.nd rfl (.inl rfl) (pe_op op_add (pe_op op_mul pe_int (pv 1)) pe_int))
      (C8.pss_cut (ps_if (pt_cmpR op_lt (pv 1) (pe_callB call_len_seq (by rfl) mlen PySem.boot_len (pa_cons (pv 0) pa_nil)) (nomark _))
        (pss_one (ps_set (i := 2) scDice.nd rfl (.inl rfl) (pe_ix ix_list (pv 0) (pv 1) (fun _ _ => rfl)))) pss_nil)
      (pss_cons (ps_set (i := 3) scDice.nd rfl (.inl rfl) (pe_op op_mod (pe_callTy call_int1 (by rfl) mint boot_int (pa_cons (pe_callB call_abs (by rfl) mabs boot_abs (pa_cons (pv 2) pa_nil)) pa_nil))
        (pe_op op_powBits (pe_op op_powBits pe_int pe_int) pe_int)))
      (pss_cons (ps_set (i := 4) scDice.nd rfl (.inl rfl) (pe_op op_add (pe_op op_add (pe_op op_add (pe_op op_mul (pe_op op_mod (pe_callTy call_int1 (by rfl) mint boot_int (pa_cons (pv 3) pa_nil)) pe_int) pe_int) (pe_op op_mul pe_int (pv 1)))
        (pe_op op_mul pe_int (pe_callTy call_int1 (by rfl) mint boot_int (pa_cons (pe_cmpR op_lt (pv 2) pe_int (nomark _)) pa_nil)))) pe_int))
      (pss_one (ps_ret (pe_lst (pa_cons (pe_callB (call_max2 rfl) (by rfl) mmax boot_max (pa_cons pe_int (pa_cons (pe_op op_sub (pv 3) (pe_op op_powBits pe_int pe_int)) pa_nil)))
        (pa_cons (pe_op op_mod (pe_callTy call_int1 (by rfl) mint boot_int (pa_cons (pv 4) pa_nil)) pe_int) (pa_cons pe_int pa_nil)))))))))), ?_⟩
    refine ⟨_, rfl, _, _, rfl, rfl, .inl ⟨by decide, by decide⟩, _, _, rfl, rfl, ?_⟩
    refine ⟨fun σ' H' => ∃ cell : Int, σ' = [some (.ref p), some (.int j), some (.int cell), none, none] ∧ H' = H, ⟨_, rfl, _, rfl, p, _, rfl, .inl hS, _, _, rfl, rfl, _, rfl, ite2 (fun e => ?_) (fun e => ⟨_, rfl, rfl⟩)⟩, fun σ' H' hM => ?_⟩
    · have hj : j < ns.length := by
        have e2 : (j : Int) < ((ns.map V.int).length : Int) := of_decide_eq_true e
        rw [List.length_map] at e2
        omega
      have hg : (ns.map V.int)[j]? = some (.int ns[j]) := by
        rw [List.getElem?_map, List.getElem?_eq_getElem hj]
        rfl
      exact ⟨_, rfl, _, rfl, p, _, _, _, rfl, rfl, hS, atI_nat hg, _, rfl, rfl⟩
    · obtain ⟨cell, rfl, rfl⟩ := hM
      refine ⟨_, rfl, _, rfl, .inl ⟨_, rfl, _, _, rfl, rfl, ⟨by decide, by decide +kernel⟩, _, _, rfl, rfl, ⟨by decide, by decide +kernel⟩, _, _, rfl, rfl, (by show (0 : Int) < (10 ^ Int.toNat 60) ^ Int.toNat 12; decide +kernel), ?_⟩⟩
      refine ⟨_, rfl, .inl ⟨_, rfl, _, _, rfl, rfl, (by show (0 : Int) < 2147483399; decide), _, _, rfl, rfl, .inr ⟨by decide, by decide⟩, _, rfl, _, _, rfl, rfl, .inl ⟨by decide, by decide⟩, _, _, rfl, rfl, ?_⟩⟩
      refine ⟨_, rfl, _, _, rfl, rfl, .inr ⟨_, rfl, _, _, rfl, rfl, .inl ⟨by decide, by decide⟩, _, _, rfl, rfl, _, _, rfl, rfl, ?_⟩⟩
      refine ⟨_, rfl, _, _, rfl, rfl, ⟨by decide, by decide +kernel⟩, _, _, rfl, rfl, _, _, rfl, ?_⟩
      refine ⟨_, rfl, .inl ⟨_, rfl, _, _, rfl, rfl, (by show (0 : Int) < 2305843009213693907; decide), (by show 3 ≤ sizeLine; decide), fun d hd => ?_⟩⟩
      exact q d _ _ _ hd
end
end K0
end
/-! ### D1 -/
section
set_option Elab.async false
set_option linter.all false
set_option maxRecDepth 100000
set_option maxHeartbeats 4000000
namespace K0
open PySem PySem.Spec PyProof.Rows L2
theorem scRoll : FnScope ["dice", "total", "found", "one", "two"] ["dice", "total"] (defScope (top iRoll)) := ⟨rfl, rfl, rfl, by decide +kernel, rfl, by decide +kernel, by decide +kernel⟩
def spRoll : Sp := fun vs H Q _ => ∃ (p : Addr) (a b c t : Int), vs = [.ref p, .int t] ∧ H p = some (dk a b c) ∧ CDivW a t ∧ ∀ a' b' c' r, 0 ≤ r → r < t → Q (.int r) (upd H p (dk a' b' c'))
theorem mod_small {x m : Int} (h : 0 < m) (h2 : m ≤ 2 ^ 62) : -(2 ^ 64) < x % m ∧ x % m < 2 ^ 64 := by
  have h0 := Int.emod_nonneg x (show m ≠ 0 by omega)
  have h1 := Int.emod_lt_of_pos x h
  omega
theorem scOne : FnScope ["dice", "items"] ["dice", "items"] (defScope (top iOne)) := ⟨rfl, rfl, rfl, by decide +kernel, rfl, by decide +kernel, by decide +kernel⟩
/-- the items are a list or a tuple xs, or the signs of a text -/
def Its (K : PySem.W.Frag) (H : Hp) (v : V) (xs : List V) : Prop := (∃ q, v = .ref q ∧ (SqL K H q xs ∨ SqT K H q xs)) ∨ ∃ z : Str, v = .str z ∧ z.length ≤ sizeLine ∧ xs = z.cps.toList.map fun c => V.str ⟨#[c]⟩
theorem len_div {a : Int} {n : Nat} (h : 0 < n) (hz : n ≤ sizeLine) : CDivW a (n : Int) := by
  have e := sizeLine_eq
  refine wide_div (b := 25) (by omega) ?_ (by decide) (by decide)
  have e2 : (2 : Nat) ^ 25 = 33554432 := by decide
  have e3 : (sizeLine : Nat) = 16777216 := e
  omega
theorem its_len {K : PySem.W.Frag} {H : Hp} {v : V} {xs : List V} (h : Its K H v xs) : LenV K v H xs.length := by
  rcases h with ⟨a, rfl, h | h⟩ | ⟨z, rfl, hz, rfl⟩
  · exact .inl ⟨xs, h, rfl⟩
  · exact .inr ⟨xs, h, rfl⟩
  · refine ⟨hz, ?_⟩
    rw [List.length_map]
    first | rfl | simp [Str.length]
theorem its_at {K : PySem.W.Frag} {H : Hp} {v x : V} {xs : List V} {i : Nat} {Q : VK} (h : Its K H v xs) (e : xs[i]? = some x) (q : Q x H) : rIx K v (.int (i : Int)) H Q := by
  rcases h with ⟨a, rfl, h | h⟩ | ⟨z, rfl, hz, rfl⟩
  · exact .inl ⟨a, xs, _, x, rfl, rfl, h, atI_nat e, q⟩
  · exact .inr (.inl ⟨a, xs, _, x, rfl, rfl, h, atI_nat e, q⟩)
  · rw [List.getElem?_map] at e
    cases hc : z.cps.toList[i]? with
    | none => rw [hc] at e; cases e
    | some c =>
      rw [hc] at e
      cases e
      exact .inr (.inr ⟨z, _, c, rfl, rfl, hz, atI_nat hc, q⟩)
section
variable {P : Program} {w : World} {K : PySem.W.Frag} {mg : Str → Option Value} {base : Heap} {f fR fO : Addr} {fd fdR fdO : FuncData}
theorem ok_roll {k : Nat} (F : FnP K "_law_roll" iRoll f fd) (mint : mg "int" = none) : FnOk P w K mg base CX0 (k + 1) f fd ["dice", "total"] spRoll := by
  refine F.ok scRoll (fun vs H Q E h => ?_) (fun cdv A outer s H vs Q E hr h => ?_)
  · obtain ⟨p, a, b, c, t, rfl, _⟩ := h
    rfl
  · obtain ⟨p, a, b, c, t, rfl, hp, ht, q⟩ := h
    have t0 : 0 < t := ht.1
    refine ⟨_, PSs.nox (pss_cons (ps_if (pt_cmpR op_gt (pe_ix ix_list (pv 0) pe_int (fun _ _ => rfl)) pe_int (nomark _))
        (pss_cons (ps_set (i := 2) scRoll.nd rfl (.inl rfl) (pe_op op_mod (pe_callTy call_int1 (by rfl) mint boot_int (pa_cons (pe_ix ix_list (pv 0) pe_int (fun _ _ => rfl)) pa_nil)) (pv 1)))
        (pss_cons (ps_asg (pe_op op_fdivW (pe_ix ix_list (pv 0) pe_int (fun _ _ => rfl)) (pv 1)) (pg_sub (pv 0) pe_int set_list)) (pss_one (ps_ret (pv 2))))) pss_nil)
      (pss_cons (ps_asg (pe_op op_add (pe_ix ix_list (pv 0) pe_int (fun _ _ => rfl)) pe_int) (pg_sub (pv 0) pe_int set_list))
      (pss_cons (ps_set (i := 3) scRoll.nd rfl (.inl rfl) (pe_op op_mod (pe_callTy call_int1 (by rfl) mint boot_int (pa_cons (pe_op op_add (pe_ix ix_list (pv 0) pe_int (fun _ _ => rfl)) (pe_op op_mul pe_int (pe_ix ix_list (pv 0) pe_int (fun _ _ => rfl)))) pa_nil)) pe_int))
      (pss_cons (ps_set (i := 4) scRoll.nd rfl (.inl rfl) (pe_op op_add (pe_op op_mul (pe_op op_mod (pe_callTy call_int1 (by rfl) mint boot_int (pa_cons (pe_op op_mul (pv 3) (pv 3)) pa_nil)) pe_int) (pv 3)) (pe_op op_mul pe_int (pe_ix ix_list (pv 0) pe_int (fun _ _ => rfl)))))
      (pss_cons (ps_set (i := 4) scRoll.nd rfl (.inl rfl) (pe_op op_mod (pe_callTy call_int1 (by rfl) mint boot_int (pa_cons (pv 4) pa_nil)) pe_int))
      (pss_one (ps_ret (pe_op op_mod (pe_callTy call_int1 (by rfl) mint boot_int (pa_cons (pe_op op_fdiv (pv 4) pe_int) pa_nil)) (pv 1))))))))), ?_⟩
    have hS : ∀ x y z : Int, SqL K (upd H p (dk x y z)) p [.int x, .int y, .int z] := fun x y z => .of upd_same
    refine ⟨_, rfl, p, _, _, _, rfl, rfl, .of hp, atI_nat (j := 0) rfl, _, _, rfl, rfl, _, rfl, ite2 (fun e => ?_) (fun e => ?_)⟩
    · refine ⟨_, rfl, p, _, _, _, rfl, rfl, .of hp, atI_nat (j := 0) rfl, .inl ⟨_, rfl, _, rfl, _, _, rfl, rfl, t0, ?_⟩⟩
      refine ⟨_, rfl, p, _, _, _, rfl, rfl, .of hp, atI_nat (j := 0) rfl, _, rfl, _, _, rfl, rfl, ht, ?_⟩
      refine ⟨_, rfl, p, _, _, 0, rfl, rfl, hp, rfl, ?_⟩
      exact ⟨_, rfl, q _ _ _ _ (Int.emod_nonneg _ (by omega)) (Int.emod_lt_of_pos _ t0)⟩
    · refine ⟨_, rfl, p, _, _, _, rfl, rfl, .of hp, atI_nat (j := 2) rfl, _, _, rfl, rfl, ?_⟩
      refine ⟨_, rfl, p, _, _, 2, rfl, rfl, hp, rfl, ?_⟩
      refine ⟨_, rfl, p, _, _, _, rfl, rfl, hS a b _, atI_nat (j := 1) rfl, _, rfl, p, _, _, _, rfl, rfl, hS a b _, atI_nat (j := 2) rfl, _, _, rfl, rfl, .inl ⟨by decide, by decide⟩, _, _, rfl, rfl, .inl ⟨_, rfl, _, _, rfl, rfl, (by show (0 : Int) < 2305843009213693951; decide), ?_⟩⟩
      refine ⟨_, rfl, _, rfl, _, _, rfl, rfl, .inl (mod_small (by decide) (by decide)), .inl ⟨_, rfl, _, _, rfl, rfl, (by show (0 : Int) < 2305843009213693921; decide), ?_⟩⟩
      refine ⟨_, rfl, _, _, rfl, rfl, .inl (mod_small (by decide) (by decide)), _, rfl, p, _, _, _, rfl, rfl, hS a b _, atI_nat (j := 2) rfl, _, _, rfl, rfl, .inl ⟨by decide, by decide⟩, _, _, rfl, rfl, ?_⟩
      refine ⟨_, rfl, .inl ⟨_, rfl, _, _, rfl, rfl, (by show (0 : Int) < 2305843009213693907; decide), ?_⟩⟩
      refine ⟨_, rfl, _, _, rfl, rfl, ⟨by decide, by decide⟩, .inl ⟨_, rfl, _, rfl, _, _, rfl, rfl, t0, ?_⟩⟩
      exact q _ _ _ _ (Int.emod_nonneg _ (by omega)) (Int.emod_lt_of_pos _ t0)
def spOne (K : PySem.W.Frag) : Sp := fun vs H Q _ => ∃ (p : Addr) (a b c : Int) (v : V) (xs : List V), vs = [.ref p, v] ∧ H p = some (dk a b c) ∧ Its K H v xs ∧ xs ≠ [] ∧ xs.length ≤ sizeLine ∧ (∀ a' b' c', Its K (upd H p (dk a' b' c')) v xs) ∧
  ∀ a' b' c' (i : Nat) x, xs[i]? = some x → Q x (upd H p (dk a' b' c'))
theorem ok_one {k : Nat} (F : FnP K "_law_one_of" iOne f fd) (FR : FnOk P w K mg base CX0 (k + 1) fR fdR ["dice", "total"] spRoll) (gR : mg "_law_roll" = some (.ref fR)) (kR : PySem.W.keepIn K (.ref fR) = true) (bR : Binds K fdR ["dice", "total"] []) (mlen : mg "len" = none) :
    FnOk P w K mg base CX0 (k + 2) f fd ["dice", "items"] (spOne K) := by
  refine F.ok scOne (fun vs H Q E h => ?_) (fun cdv A outer s H vs Q E hr h => ?_)
  · obtain ⟨p, a, b, c, v, xs, rfl, _⟩ := h
    rfl
  · obtain ⟨p, a, b, c, v, xs, rfl, hp, hI, hx, hz, hI2, q⟩ := h
    refine ⟨_, PSs.nox (pss_one (ps_ret (pe_ix ix_seq (pv 1) (pe_call FR hr (by rfl) gR kR bR .nil pass0 (pa_cons (pv 0) (pa_cons (pe_callB call_len (by rfl) mlen PySem.boot_len (pa_cons (pv 1) pa_nil)) pa_nil))) (fun _ _ => rfl)))), ?_⟩
    have hl0 : 0 < xs.length := List.length_pos_iff.mpr hx
    refine ⟨_, rfl, _, rfl, _, rfl, _, xs.length, rfl, its_len hI, ?_⟩
    refine ⟨p, a, b, c, _, rfl, hp, len_div hl0 hz, fun a' b' c' r h0 h1 => ?_⟩
    have hr2 : r.toNat < xs.length := by omega
    have er : r = (r.toNat : Int) := by omega
    have hg : xs[r.toNat]? = some xs[r.toNat] := List.getElem?_eq_getElem hr2
    have q2 := q a' b' c' r.toNat _ hg
    rw [er]
    exact its_at (hI2 a' b' c') hg q2
end
end K0
end
/-! ### D2 -/
section
set_option Elab.async false
set_option linter.all false
set_option maxRecDepth 100000
set_option maxHeartbeats 4000000
namespace K0
open PySem PySem.Spec PyProof.Rows L2
/-- all but the dice at p is as it was; the dice are dice -/
def Keep (p : Addr) (H H' : Hp) : Prop := (∀ b o, b ≠ p → H b = some o → H' b = some o) ∧ ∃ a b c, H' p = some (dk a b c)
theorem Keep.refl {p : Addr} {H : Hp} {a b c : Int} (h : H p = some (dk a b c)) : Keep p H H := ⟨fun _ _ _ e => e, a, b, c, h⟩
theorem Keep.trans {p : Addr} {H H1 H2 : Hp} (h : Keep p H H1) (k : Keep p H1 H2) : Keep p H H2 := ⟨fun b o n e => k.1 b o n (h.1 b o n e), k.2⟩
theorem Keep.new {p q : Addr} {H : Hp} {o : HO} {a b c : Int} (h : H p = some (dk a b c)) (n : H q = none) : Keep p H (upd H q o) :=
  ⟨fun b u hb e => by rw [upd_ne (ne_of_none e n)]; exact e, a, b, c, by rw [upd_ne (ne_of_none h n)]; exact h⟩
theorem Keep.new2 {p q : Addr} {H H' : Hp} {o : HO} (h : Keep p H H') (n : H' q = none) : Keep p H (upd H' q o) := by
  obtain ⟨a, b, c, e⟩ := h.2
  exact h.trans (.new e n)
theorem Keep.dice {p : Addr} {H : Hp} (a b c : Int) : Keep p H (upd H p (dk a b c)) := ⟨fun d o n e => by rw [upd_ne n]; exact e, a, b, c, upd_same⟩
theorem scAll : FnScope [] [] (defScope (top iAll)) := ⟨rfl, rfl, rfl, by decide +kernel, rfl, by decide +kernel, by decide +kernel⟩
def allSigns : Str := "#$0123:_abcdefg"
def spAll : Sp := fun vs H Q _ => vs = [] ∧ Q (.str allSigns) H
theorem mapV_str (sg : Str) : sg.cps.toList.map (fun c => V.str ⟨#[c]⟩) = (sg.cps.toList.map fun c => (⟨#[c]⟩ : Str)).map V.str := by rw [List.map_map]; rfl
section
variable {P : Program} {w : World} {K : PySem.W.Frag} {mg : Str → Option Value} {base : Heap} {f fR fO : Addr} {fd fdR fdO : FuncData}
theorem ok_all {k : Nat} (F : FnP K "_law_all_signs" iAll f fd) : FnOk P w K mg base CX0 (k + 1) f fd [] spAll := by
  refine F.ok scAll (fun vs H Q E h => ?_) (fun cdv A outer s H vs Q E hr h => ?_)
  · rw [h.1]; rfl
  · obtain ⟨rfl, q⟩ := h
    exact ⟨_, PSs.nox (pss_one (ps_ret pe_str)), q⟩
end
end K0
end
/-! ### V0 -/
section
set_option Elab.async false
set_option linter.all false
set_option maxRecDepth 100000
set_option maxHeartbeats 4000000
/-! Values of any depth with dicts (Dv), read off the heap; repr of them. -/
namespace K0
open PySem PySem.Spec PyProof.Rows L2
def keyD : Key → PyData
  | .inl i => .int i
  | .inr x => .str x
mutual
inductive Dv (K : PySem.W.Frag) (H : Hp) : V → PyData → Prop
  | non : Dv K H .non .none
  | bl (b : Bool) : Dv K H (.bl b) (.bool b)
  | int (i : Int) : Dv K H (.int i) (.int i)
  | str (x : Str) : Dv K H (.str x) (.str x)
  | lst {a : Addr} {xs : List V} {ds : List PyData} : SqL K H a xs → DvAll K H xs ds → Dv K H (.ref a) (.list ds)
  | tup {a : Addr} {xs : List V} {ds : List PyData} : SqT K H a xs → DvAll K H xs ds → Dv K H (.ref a) (.tuple ds)
  | dic {a : Addr} {kvs : List (Key × V)} {ds : List (PyData × PyData)} : H a = some (.dK kvs) → ds.map (·.1) = kvs.map (fun p => keyD p.1) → DvAll K H (kvs.map (·.2)) (ds.map (·.2)) → Dv K H (.ref a) (.dict ds)
inductive DvAll (K : PySem.W.Frag) (H : Hp) : List V → List PyData → Prop
  | nil : DvAll K H [] []
  | cons {v : V} {vs : List V} {d : PyData} {ds : List PyData} : Dv K H v d → DvAll K H vs ds → DvAll K H (v :: vs) (d :: ds)
end
theorem same_tup {K : PySem.W.Frag} {H H' : Hp} {a : Addr} {xs : List V} (e : Same H H') (h : SqT K H a xs) : SqT K H' a xs := by
  rcases h with (h | ⟨o, h⟩) | h
  · exact .inl (.inl (e _ _ h))
  · exact .inl (.inr ⟨o, e _ _ h⟩)
  · exact .inr h
mutual
theorem Dv.same {K : PySem.W.Frag} {H H' : Hp} (e : Same H H') : ∀ (d : PyData) (v : V), Dv K H v d → Dv K H' v d
  | .none, _, h => by cases h; exact .non
  | .bool b, _, h => by cases h; exact .bl b
  | .int i, _, h => by cases h; exact .int i
  | .str x, _, h => by cases h; exact .str x
  | .list ds, _, h => by cases h with | lst h1 h2 => exact .lst (e.seq h1) (DvAll.same e ds _ h2)
  | .tuple ds, _, h => by cases h with | tup h1 h2 => exact .tup (same_tup e h1) (DvAll.same e ds _ h2)
  | .dict ds, _, h => by cases h with | dic h1 h2 h3 => exact .dic (e _ _ h1) h2 (DvAll.sameKv e ds _ h3)
theorem DvAll.same {K : PySem.W.Frag} {H H' : Hp} (e : Same H H') : ∀ (ds : List PyData) (vs : List V), DvAll K H vs ds → DvAll K H' vs ds
  | [], _, h => by cases h; exact .nil
  | d :: ds, _, h => by cases h with | cons h1 h2 => exact .cons (Dv.same e d _ h1) (DvAll.same e ds _ h2)
theorem DvAll.sameKv {K : PySem.W.Frag} {H H' : Hp} (e : Same H H') : ∀ (ds : List (PyData × PyData)) (vs : List V), DvAll K H vs (ds.map (·.2)) → DvAll K H' vs (ds.map (·.2))
  | [], _, h => by cases h; exact .nil
  | (k, d) :: ds, _, h => by cases h with | cons h1 h2 => exact .cons (Dv.same e d _ h1) (DvAll.sameKv e ds _ h2)
end
theorem Dv.same' {K : PySem.W.Frag} {H H' : Hp} {v : V} {d : PyData} (h : Dv K H v d) (e : Same H H') : Dv K H' v d := Dv.same e d v h
/-- the written part knows where sys.modules stands -/
def sysB (K : PySem.W.Frag) : Bool := match K.lookup sysModules with
  | some o => o.cls == .type "dict"
  | none => false
section
variable {X : Cx} {pins : List (Addr × Obj)} {σ : L2.St} {H : Hp} {s : Shared}
theorem sys_obj (I : Inv X pins σ H s) (b : sysB X.K = true) : ∃ o, s.heap.get? sysModules = some o ∧ o.cls = .type "dict" ∧ H sysModules = none := by
  unfold sysB at b
  cases e : X.K.lookup sysModules with
  | none => rw [e] at b; cases b
  | some o =>
    rw [e] at b
    have z := I.bs _ _ (I.ok.mod.kin _ _ e)
    exact ⟨o, z.1, by simpa using b, z.2⟩
theorem keys_read {h : Heap} {P : Program} {w : World} : ∀ {es : List DictEntry} {kvs : List (Key × Value)}, Pairs (mixKind P w) es kvs → ReadsAll h (es.map (·.key)) (kvs.map fun p => keyD p.1) []
  | _, _, .nil => .nil
  | _, _, .cons (e := e) (kv := kv) h1 h2 h3 => by
    have r : Reads h e.key (keyD kv.1) [] := by
      rcases keyIs_shape (show keyIs kv.1 e.key = true from h1) with ⟨i, t, e1, e2⟩ | ⟨y, t, e1, e2⟩
      · rw [e1, e2]; exact .int i t
      · rw [e1, e2]; exact .str y t
    have q := ReadsAll.cons r (keys_read (h := h) h3)
    simpa using q
theorem vals_of_pairs {P : Program} {w : World} : ∀ {es : List DictEntry} {kvs : List (Key × Value)}, Pairs (mixKind P w) es kvs → es.map (·.val) = kvs.map (·.2)
  | _, _, .nil => rfl
  | _, _, .cons h1 h2 h3 => by rw [List.map_cons, List.map_cons, h2, vals_of_pairs h3]
theorem kv_fst : ∀ {kvs : List (Key × V)} {vs : List (Key × Value)}, KV kvs vs → kvs.map (fun p => keyD p.1) = vs.map (fun p => keyD p.1)
  | _, _, .nil => rfl
  | _, _, .cons h1 h2 => by rw [List.map_cons, List.map_cons, h1.1, kv_fst h2]
theorem kv_snd : ∀ {kvs : List (Key × V)} {vs : List (Key × Value)}, KV kvs vs → Vals (kvs.map (·.2)) (vs.map (·.2))
  | _, _, .nil => .nil
  | _, _, .cons h1 h2 => .cons h1.2 (kv_snd h2)
theorem nomem_cons {a : Addr} {as : List Addr} {z : Addr} (h : z ≠ a) (h2 : z ∉ as) : z ∉ a :: as := fun m => (List.mem_cons.mp m).elim h h2
theorem nomem_app {as bs : List Addr} {z : Addr} (h : z ∉ as) (h2 : z ∉ bs) : z ∉ as ++ bs := fun m => (List.mem_append.mp m).elim h h2
mutual
theorem Dv.reads (I : Inv X pins σ H s) (b : sysB X.K = true) : ∀ (d : PyData) (v : V) (u : Value), Dv X.K H v d → RelV v u → ∃ as, Reads s.heap u d as ∧ sysModules ∉ as
  | .none, _, _, h, r => by cases h; cases r; exact ⟨_, .none, fun z => nomatch z⟩
  | .bool _, _, _, h, r => by cases h; cases r; exact ⟨_, .bool _, fun z => nomatch z⟩
  | .int _, _, _, h, r => by cases h; obtain ⟨t, rfl⟩ := r; exact ⟨_, .int _ t, fun z => nomatch z⟩
  | .str _, _, _, h, r => by cases h; obtain ⟨t, rfl⟩ := r; exact ⟨_, .str _ t, fun z => nomatch z⟩
  | .list ds, _, _, h, r => by
    cases h with
    | lst h1 h2 =>
      cases r
      obtain ⟨its, rv, ⟨o, n, ho, hc, _, hd⟩, _⟩ := I.list h1
      obtain ⟨as, q, z⟩ := DvAll.reads I b ds _ its h2 rv
      refine ⟨_, .list ho hc hd q, nomem_cons (fun e => ?_) z⟩
      obtain ⟨o2, e1, e2, _⟩ := sys_obj I b
      rw [e, ho] at e1
      cases e1
      rw [hc] at e2
      exact absurd e2 (by decide)
  | .tuple ds, _, _, h, r => by
    cases h with
    | tup h1 h2 =>
      cases r
      obtain ⟨its, rv, ⟨o, ho, hc, n, hd⟩, _⟩ := I.tuple h1
      obtain ⟨as, q, z⟩ := DvAll.reads I b ds _ its h2 rv
      exact ⟨_, .tuple ho hc hd q, z⟩
  | .dict ds, _, _, h, r => by
    cases h with
    | dic h1 h2 h3 =>
      cases r
      obtain ⟨_, hsys, vs, kv, o, es, ep, ho, ex, hd, _, pr, _⟩ := I.hok _ _ h1
      obtain ⟨as, q, z⟩ := DvAll.readsKv I b ds _ (es.toList.map (·.val)) h3 (by rw [vals_of_pairs pr]; exact kv_snd kv)
      have ks : ReadsAll s.heap (es.toList.map (·.key)) (ds.map (·.1)) [] := by rw [h2, kv_fst kv]; exact keys_read pr
      refine ⟨_, .dict ho ex.1 hd ks q, ?_⟩
      exact nomem_cons (fun e => by rw [← e] at hsys; simp at hsys) z
theorem DvAll.reads (I : Inv X pins σ H s) (b : sysB X.K = true) : ∀ (ds : List PyData) (vs : List V) (us : List Value), DvAll X.K H vs ds → Vals vs us → ∃ as, ReadsAll s.heap us ds as ∧ sysModules ∉ as
  | [], _, _, h, r => by cases h; cases r; exact ⟨_, .nil, fun z => nomatch z⟩
  | d :: ds, _, _, h, r => by
    cases h with
    | cons h1 h2 =>
      cases r with
      | cons r1 r2 =>
        obtain ⟨as, q1, z1⟩ := Dv.reads I b d _ _ h1 r1
        obtain ⟨bs, q2, z2⟩ := DvAll.reads I b ds _ _ h2 r2
        exact ⟨_, .cons q1 q2, nomem_app z1 z2⟩
theorem DvAll.readsKv (I : Inv X pins σ H s) (b : sysB X.K = true) : ∀ (ds : List (PyData × PyData)) (vs : List V) (us : List Value), DvAll X.K H vs (ds.map (·.2)) → Vals vs us → ∃ as, ReadsAll s.heap us (ds.map (·.2)) as ∧ sysModules ∉ as
  | [], _, _, h, r => by cases h; cases r; exact ⟨_, .nil, fun z => nomatch z⟩
  | (k, d) :: ds, _, _, h, r => by
    cases h with
    | cons h1 h2 =>
      cases r with
      | cons r1 r2 =>
        obtain ⟨as, q1, z1⟩ := Dv.reads I b d _ _ h1 r1
        obtain ⟨bs, q2, z2⟩ := DvAll.readsKv I b ds _ _ h2 r2
        exact ⟨_, .cons q1 q2, nomem_app z1 z2⟩
end
/-- small enough to be shown -/
structure Fit (d : PyData) : Prop where
  able : d.showable = true
  leaf : d.leavesShort 60 = true
  bulk : d.bulk ≤ 100000
  depth : d.depth ≤ 8
theorem Fit.size {d : PyData} (f : Fit d) : d.shown.length ≤ sizeLine := by
  have h := PyData.shown_le_bulk 60 (by decide) d f.leaf
  have h2 := f.bulk
  rw [sizeLine_eq]
  omega
def rRepr (K : PySem.W.Frag) : List V → Hp → VK → Prop := fun xs H Q => ∃ x d, xs = [x] ∧ Dv K H x d ∧ Fit d ∧ Q (.str d.shown) H
theorem call_repr (b : sysB X.K = true) (gd : X.A.guards = some []) (hu : X.A.units + 64 < cLine) : CallR X (.builtin "repr") (rRepr X.K) := by
  intro pins s σ H xs us Q I r h
  obtain ⟨x, d, rfl, hd, ft, q⟩ := h
  obtain ⟨u, rfl, rx⟩ := vals1 r
  obtain ⟨as, rd, nos⟩ := Dv.reads I b d x u hd rx
  have fin : ∀ t s2, Inv X pins σ H s2 → EP X pins σ Q (.str d.shown t) s2 := fun t s2 J => ⟨.str d.shown, H, J, ⟨t, rfl⟩, q⟩
  have dp := ft.depth
  cases hd with
  | non => cases rx; exact PySem.P.repr_of_none (by simpa [PyData.shown] using fin _ _ (I.tok _))
  | bl c => cases rx; exact PySem.P.repr_of_bool (by simpa [PyData.shown] using fin _ _ (I.tok _))
  | int i => obtain ⟨t, rfl⟩ := rx; exact PySem.P.repr_of_int (by have z := ft.able; simpa [PyData.showable] using z) (by simpa [PyData.shown] using fin _ _ (I.tok _))
  | str z => obtain ⟨t, rfl⟩ := rx; exact PySem.P.repr_of_str (by simpa [PyData.shown] using fin _ _ (I.tok _)) (by simpa [PyData.shown] using ft.size)
  | lst h1 h2 => cases rx; exact repr_of_reads' rd ft.able (fun _ => nos) gd (by omega) (fun _ _ e => e) (fun h' u tk k => fin _ _ (I.kept k)) ft.size
  | tup h1 h2 => cases rx; exact repr_of_reads' rd ft.able (fun _ => nos) gd (by omega) (fun _ _ e => e) (fun h' u tk k => fin _ _ (I.kept k)) ft.size
  | dic h1 h2 h3 => cases rx; exact repr_of_reads' rd ft.able (fun _ => nos) gd (by omega) (fun _ _ e => e) (fun h' u tk k => fin _ _ (I.kept k)) ft.size
end
end K0
end
/-! ### MD0 -/
section
set_option Elab.async false
set_option linter.all false
set_option maxRecDepth 100000
set_option maxHeartbeats 4000000
/-! A dict of mixed keys: numbers, texts, None, tuples of such, all in one. -/
namespace MD
open PySem
abbrev NK := NestedKey
def ent (w : World) (x : NK × Value × Value) : DictEntry := ⟨x.1.hash w, x.2.1, x.2.2⟩
section
variable {prog : Program} {w : World} {A : Around} {E : Value → Shared → Prop} {s : Shared} {d : Addr} {o : Obj} {es : Array DictEntry} {ep : Nat} {xs : List (NK × Value × Value)} {k : NK} {u : Value}
/-- keys as they stand -/
structure Keyd (h : Heap) (xs : List (NK × Value × Value)) : Prop where
  is : ∀ x ∈ xs, NestedIs h x.1 x.2.1 ∧ x.1.depth ≤ 8
  one : (xs.map (·.1)).Nodup
theorem Keyd.at {h : Heap} (z : Keyd h xs) {i : Nat} {x : NK × Value × Value} (e : xs[i]? = some x) : NestedIs h x.1 x.2.1 ∧ x.1.depth ≤ 8 := z.is x (List.mem_of_getElem? e)
theorem Keyd.same {h : Heap} (z : Keyd h xs) {i j : Nat} {x y : NK × Value × Value} (hi : xs[i]? = some x) (hj : xs[j]? = some y) (e : x.1 = y.1) : i = j := by
  have h1 : (xs.map (·.1))[i]? = some x.1 := by rw [List.getElem?_map, hi]; rfl
  have h2 : (xs.map (·.1))[j]? = some x.1 := by rw [List.getElem?_map, hj, e]; rfl
  exact (List.getElem?_inj (List.getElem?_eq_some_iff.mp h1).1 z.one).mp (h1.trans h2.symm)
theorem ent_at (he : es.toList = xs.map (ent w)) (j : Nat) : es[j]? = (xs[j]?).map (ent w) := by
  rw [← Array.getElem?_toList, he, List.getElem?_map]
theorem ent_size (he : es.toList = xs.map (ent w)) : es.size = xs.length := by
  rw [← Array.length_toList, he, List.length_map]
theorem place_of (he : es.toList = xs.map (ent w)) {i : Nat} {x : NK × Value × Value} (hx : xs[i]? = some x) (e : x.1 = k) : i ∈ placesWithHash es.size (fun i => es[i]?.map (·.hash)) (k.hash w) := by
  unfold placesWithHash
  refine List.mem_filter.mpr ⟨List.mem_range.mpr ?_, ?_⟩
  · rw [ent_size he]
    exact (List.getElem?_eq_some_iff.mp hx).1
  · show ((es[i]?).map (·.hash) == some (k.hash w)) = true
    rw [ent_at he, hx, ← e]
    simp [ent]
theorem places_lt {n : Nat} {f : Nat → Option Int} {h : Int} {i : Nat} (m : i ∈ placesWithHash n f h) : i < n := List.mem_range.mp (List.mem_filter.mp m).1
theorem eq_at {x y : NK} {a b : Value} {Q : Bool → Shared → Prop} (hu : A.units + 8 < cLine) (ha : NestedIs s.heap x a) (hb : NestedIs s.heap y b) (dx : x.depth ≤ 8) (q : Q (decide (x = y)) s) : wpAny (model prog w) A (eqBool a b) Q E s :=
  eqAt_key x y A s a b ha hb (by have := Nat.min_le_left x.depth y.depth; omega) prog w E Q (by rw [← NestedKey.decide_eq]; exact q)
theorem may_tell {stored : List Value} {Q : Bool → Shared → Prop} (hk : NestedIs s.heap k u) (dk : k.depth ≤ 8) (hst : ∀ v ∈ stored, ∃ k', NestedIs s.heap k' v ∧ k'.depth ≤ 8) (q : Q false s) : wpAny (model prog w) A (tableMayTell u stored) Q E s := by
  unfold tableMayTell
  split
  · exact wpAny_pure q
  · refine wpAny_bind (quiet_key k u 8 s hk dk A E _ ?_)
    simp only [Bool.not_true, Bool.false_eq_true, if_false]
    refine wpAny_bind ?_
    refine wpAny_forIn_list _ (fun left r s' => s' = s ∧ r = (none, ()) ∧ ∀ v ∈ left, ∃ k', NestedIs s.heap k' v ∧ k'.depth ≤ 8) _ ?_ ?_ _ _ ⟨rfl, rfl, hst⟩
    · rintro v left r s' ⟨rfl, rfl, all⟩
      obtain ⟨k', n1, n2⟩ := all v List.mem_cons_self
      refine wpAny_bind (quiet_key k' v 8 s' n1 n2 A E _ ?_)
      simp only [Bool.not_true, Bool.false_eq_true, if_false]
      exact wpAny_pure ⟨rfl, rfl, fun y hy => all y (List.mem_cons_of_mem _ hy)⟩
    · rintro r s' ⟨rfl, rfl, _⟩
      exact wpAny_pure q
/-- the plain walk -/
theorem walk_plain {Q : Option Nat → Shared → Prop} (hu : A.units + 8 < cLine) (ho : s.heap.get? d = some o) (hd : o.data = .dict es ep) (he : es.toList = xs.map (ent w)) (ks : Keyd s.heap xs) (hk : NestedIs s.heap k u)
    (hno : (∀ (i : Nat) (x : NK × Value × Value), xs[i]? = some x → x.1 ≠ k) → Q none s) (hyes : ∀ (i : Nat) (x : NK × Value × Value), xs[i]? = some x → x.1 = k → Q (some i) s) :
    wpAny (model prog w) A (dictWalkPlain d u (k.hash w) es (placesWithHash es.size (fun i => es[i]?.map (·.hash)) (k.hash w))) Q E s := by
  unfold dictWalkPlain
  refine wpAny_bind ?_
  refine wpAny_forIn_list _ (fun left r s' => s' = s ∧ r.1 = none ∧ (∀ i ∈ left, i ∈ placesWithHash es.size (fun i => es[i]?.map (·.hash)) (k.hash w)) ∧ ∀ (i : Nat) (x : NK × Value × Value), xs[i]? = some x → x.1 = k → i ∈ left) _ ?_ ?_ _ _ ⟨rfl, rfl, fun _ m => m, fun i x hx e => place_of he hx e⟩
  · rintro i left r s' ⟨rfl, hr, sub, cov⟩
    have lt : i < xs.length := by rw [← ent_size he]; exact places_lt (sub i List.mem_cons_self)
    obtain ⟨x, hx⟩ : ∃ x, xs[i]? = some x := ⟨_, List.getElem?_eq_getElem lt⟩
    obtain ⟨n1, n2⟩ := ks.at hx
    rw [ent_at he, hx]
    dsimp only [Option.map_some, ent]
    have go : x.1 ≠ k → (∀ j y, xs[j]? = some y → y.1 = k → j ∈ left) := fun ne j y hy e => by
      rcases List.mem_cons.mp (cov j y hy e) with z | z
      · subst z
        rw [hx] at hy
        cases hy
        exact absurd e ne
      · exact z
    by_cases hh : (x.1.hash w == k.hash w) = true
    · rw [if_pos hh]
      refine wpAny_bind (wpAny_dictEpoch ho hd (wpAny_bind (eq_at hu n1 hk n2 (wpAny_bind (wpAny_dictEpoch ho hd ?_)))))
      show wpAny _ _ (if (ep != ep) = true then _ else _) _ E _
      rw [if_neg (by simp)]
      by_cases e : x.1 = k
      · rw [decide_eq_true e]
        simp only [if_true]
        exact wpAny_bind (wpAny_rule (wpAny_pure (wpAny_pure (hyes i x hx e))))
      · rw [decide_eq_false e]
        simp only [Bool.false_eq_true, if_false]
        exact wpAny_bind (wpAny_rule (wpAny_pure ⟨rfl, rfl, fun j m => sub j (List.mem_cons_of_mem _ m), go e⟩))
    · rw [if_neg hh]
      exact wpAny_pure ⟨rfl, rfl, fun j m => sub j (List.mem_cons_of_mem _ m), go fun z => hh (by rw [z]; simp)⟩
  · rintro r s' ⟨rfl, hr, sub, cov⟩
    obtain ⟨r, r'⟩ := r
    obtain rfl : r = none := hr
    exact wpAny_pure (hno fun i x hx e => nomatch cov i x hx e)
/-- whether a key is found, and where -/
theorem find (hu : A.units + 8 < cLine) (ho : s.heap.get? d = some o) (hd : o.data = .dict es ep) (he : es.toList = xs.map (ent w)) (ks : Keyd s.heap xs) (hk : NestedIs s.heap k u) (dk : k.depth ≤ 8) {Q : Option Nat → Shared → Prop}
    (hno : (∀ (i : Nat) (x : NK × Value × Value), xs[i]? = some x → x.1 ≠ k) → Q none s) (hyes : ∀ (i : Nat) (x : NK × Value × Value), xs[i]? = some x → x.1 = k → Q (some i) s) :
    wpAny (model prog w) A (dictFind d u (k.hash w)) Q E s := by
  have mem : ∀ {e : DictEntry}, e ∈ es → ∃ x ∈ xs, e = ent w x := fun {e} m => by
    have z : e ∈ xs.map (ent w) := he ▸ Array.mem_toList_iff.mpr m
    obtain ⟨x, hx, rfl⟩ := List.mem_map.mp z
    exact ⟨x, hx, rfl⟩
  have odd : ¬ (es.any fun e => e.key == u && e.hash != k.hash w) = true := by
    rw [← Array.any_toList, List.any_eq_true]
    rintro ⟨e, m, c⟩
    obtain ⟨x, hx, rfl⟩ := mem (Array.mem_toList_iff.mp m)
    simp only [ent, Bool.and_eq_true, beq_iff_eq, bne_iff_ne, ne_eq] at c
    obtain ⟨c1, c2⟩ := c
    have z := (ks.is x hx).1
    rw [c1] at z
    exact c2 (by rw [NestedIs.inj _ _ _ z hk])
  have st : ∀ v ∈ (placesWithHash es.size (fun i => es[i]?.map (·.hash)) (k.hash w)).filterMap (fun i => es[i]?.map (·.key)), ∃ k', NestedIs s.heap k' v ∧ k'.depth ≤ 8 := fun v m => by
    obtain ⟨i, _, z⟩ := List.mem_filterMap.mp m
    cases q : es[i]? with
    | none => rw [q] at z; cases z
    | some e =>
      rw [q] at z
      obtain rfl : e.key = v := by simpa using z
      obtain ⟨x, hx, rfl⟩ := mem (Array.mem_of_getElem? q)
      exact ⟨x.1, ks.is x hx⟩
  unfold dictFind
  try with_reducible refine wpAny_holding ?_
  refine wpAny_bind (wpAny_dictEntries ho hd ?_)
  extract_lets places stored hit jp3 jp2 jp1
  have H3 : wpAny (model prog w) A (jp3 false) Q E s := by
    unfold jp3
    dsimp only
    rw [if_neg (by simp)]
    refine wpAny_bind ?_
    refine wpAny_forIn_list _ (fun left r s' => s' = s ∧ r.1 = none ∧ (∀ i ∈ left, i ∈ places) ∧ left.Nodup ∧
      ((r.2 = none ∧ ∀ (i : Nat) (x : NK × Value × Value), xs[i]? = some x → x.1 = k → i ∈ left) ∨ ∃ (j : Nat) (y : NK × Value × Value), r.2 = some j ∧ xs[j]? = some y ∧ y.1 = k ∧ j ∉ left)) _ ?_ ?_ _ _
      ⟨rfl, rfl, fun _ m => m, (List.nodup_range).sublist List.filter_sublist, .inl ⟨rfl, fun i x hx e => place_of he hx e⟩⟩
    · rintro i left r s' ⟨rfl, hr, sub, nd, cov⟩
      obtain ⟨nd1, nd2⟩ := List.nodup_cons.mp nd
      have lt : i < xs.length := by rw [← ent_size he]; exact places_lt (sub i List.mem_cons_self)
      obtain ⟨x, hx⟩ : ∃ x, xs[i]? = some x := ⟨_, List.getElem?_eq_getElem lt⟩
      obtain ⟨n1, n2⟩ := ks.at hx
      obtain ⟨r1, r2⟩ := r
      obtain rfl : r1 = none := hr
      rw [ent_at he, hx]
      dsimp only [Option.map_some, ent]
      have sub2 : ∀ j ∈ left, j ∈ places := fun j m => sub j (List.mem_cons_of_mem _ m)
      have go : x.1 ≠ k → ((r2 = none ∧ ∀ (j : Nat) (y : NK × Value × Value), xs[j]? = some y → y.1 = k → j ∈ left) ∨ ∃ (j : Nat) (y : NK × Value × Value), r2 = some j ∧ xs[j]? = some y ∧ y.1 = k ∧ j ∉ left) := fun ne => by
        rcases cov with ⟨z, cov⟩ | ⟨j, y, z, hj, e, m⟩
        · refine .inl ⟨z, fun j y hy e => ?_⟩
          rcases List.mem_cons.mp (cov j y hy e) with q | q
          · subst q
            rw [hx] at hy
            cases hy
            exact absurd e ne
          · exact q
        · exact .inr ⟨j, y, z, hj, e, fun q => m (List.mem_cons_of_mem _ q)⟩
      by_cases hh : (x.1.hash w == k.hash w) = true
      · rw [if_pos hh]
        refine wpAny_bind (wpAny_dictEpoch ho hd (wpAny_bind (eq_at hu n1 hk n2 (wpAny_bind (wpAny_dictEpoch ho hd ?_)))))
        rw [if_neg (by simp)]
        by_cases e : x.1 = k
        · rw [decide_eq_true e, if_pos rfl]
          rcases cov with ⟨z, cov⟩ | ⟨j, y, z, hj, e2, m⟩
          · obtain rfl : r2 = none := z
            rw [if_neg (by simp)]
            refine wpAny_bind (wpAny_rule ?_)
            split
            · exact wpAny_pure (wpAny_pure (hyes i x hx e))
            · exact wpAny_pure ⟨rfl, rfl, sub2, nd2, .inr ⟨i, x, rfl, hx, e, nd1⟩⟩
          · exact absurd (ks.same hj hx (e2.trans e.symm)) (fun q => m (q ▸ List.mem_cons_self))
        · rw [decide_eq_false e]
          simp only [Bool.false_eq_true, if_false]
          refine wpAny_bind (wpAny_rule ?_)
          rw [if_neg (by simp)]
          exact wpAny_pure ⟨rfl, rfl, sub2, nd2, go e⟩
      · rw [if_neg hh]
        exact wpAny_pure ⟨rfl, rfl, sub2, nd2, go fun z => hh (by rw [z]; simp)⟩
    · rintro ⟨r1, r2⟩ s' ⟨rfl, hr, sub, nd, cov⟩
      obtain rfl : r1 = none := hr
      rcases cov with ⟨z, cov⟩ | ⟨j, y, z, hj, e, m⟩
      · obtain rfl : r2 = none := z
        exact wpAny_pure (hno fun i x hx e => nomatch cov i x hx e)
      · obtain rfl : r2 = some j := z
        exact wpAny_pure (hyes j y hj e)
  have H2 : wpAny (model prog w) A (jp2 ()) Q E s := by
    unfold jp2
    split
    · exact wpAny_bind (wpAny_pure H3)
    · exact wpAny_bind (may_tell hk dk st H3)
  have H1 : wpAny (model prog w) A (jp1 ()) Q E s := by
    unfold jp1
    split
    · exact walk_plain hu ho hd he ks hk hno hyes
    · split
      · first
          | (rw [if_neg odd]; exact H2)
          | (split
             · rename_i q; exact absurd q odd
             · exact H2)
          | exact H2
      · exact H2
  split
  · rename_i y t
    cases hk
    split
    · rename_i all
      rw [← Array.all_toList, List.all_eq_true] at all
      have txt : ∀ (i : Nat) (x : NK × Value × Value), xs[i]? = some x → ∃ z t', x.1 = .text z ∧ x.2.1 = .str z t' := fun i x hx => by
        have m : ent w x ∈ es := by
          have z := ent_at he i
          rw [hx] at z
          exact Array.mem_of_getElem? z
        have z := all _ (Array.mem_toList_iff.mpr m)
        obtain ⟨n1, _⟩ := ks.at hx
        obtain ⟨a, b, c⟩ := x
        change isExactStrKey b = true at z
        change NestedIs _ a b at n1
        cases b with
        | str q t' => cases n1; exact ⟨q, t', rfl, rfl⟩
        | _ => cases z
      unfold foundByValue
      cases hf : es.findIdx? (·.key.isStr y) with
      | none =>
        refine wpAny_pure (hno fun i x hx e => ?_)
        obtain ⟨z, t', e1, e2⟩ := txt i x hx
        rw [e1] at e
        cases e
        have q := ent_at he i
        rw [hx] at q
        have q2 := Array.findIdx?_eq_none_iff.mp hf _ (Array.mem_of_getElem? q)
        rw [show (ent w x).key = Value.str y t' from e2] at q2
        simp [Value.isStr] at q2
      | some i =>
        dsimp only
        obtain ⟨lt, h1, _⟩ := Array.findIdx?_eq_some_iff_getElem.mp hf
        obtain ⟨x, hx⟩ : ∃ x, xs[i]? = some x := ⟨_, List.getElem?_eq_getElem (by rw [← ent_size he]; exact lt)⟩
        obtain ⟨z, t', e1, e2⟩ := txt i x hx
        have q := ent_at he i
        rw [Array.getElem?_eq_getElem lt, hx, Option.map_some] at q
        rw [Option.some.inj q] at h1
        rw [show (ent w x).key = Value.str z t' from e2] at h1
        have ez : z = y := by simpa [Value.isStr] using h1
        subst ez
        rw [Array.getElem?_eq_getElem lt, Option.some.inj q]
        dsimp only
        have n1 := (ks.at hx).1
        rw [e1] at n1
        refine wpAny_bind (wpAny_dictEpoch ho hd (wpAny_bind (eq_at hu n1 (.text z t) (by show 0 ≤ 8; decide) (wpAny_bind (wpAny_dictEpoch ho hd ?_)))))
        rw [if_neg (by simp), decide_eq_true rfl, if_pos rfl]
        exact wpAny_bind (wpAny_rule (wpAny_pure (hyes i x hx e1)))
    · exact H1
  · exact H1
end
end MD
end
/-! ### MD1 -/
section
set_option Elab.async false
set_option linter.all false
set_option maxRecDepth 100000
set_option maxHeartbeats 4000000
/-! d[k], d.get(k, x), d[k] = v of a dict of mixed keys. -/
namespace MD
open PySem
/-- such a dict stands at d -/
def At (w : World) (h : Heap) (d : Addr) (xs : List (NK × Value × Value)) : Prop := ∃ o es ep, h.get? d = some o ∧ o.ExactDict ∧ o.data = .dict es ep ∧ es.toList = xs.map (ent w) ∧ Keyd h xs
def look {α β : Type} (xs : List (NK × α × β)) (k : NK) : Option β := (xs.find? fun x => decide (x.1 = k)).map (·.2.2)
def put {α β : Type} (xs : List (NK × α × β)) (k : NK) (u : α) (v : β) : List (NK × α × β) := if (look xs k).isSome = true then xs.map (fun x => if x.1 = k then (x.1, x.2.1, v) else x) else xs ++ [(k, u, v)]
section
variable {α β : Type} {xs : List (NK × α × β)} {k : NK}
theorem look_none (h : ∀ (i : Nat) (x : NK × α × β), xs[i]? = some x → x.1 ≠ k) : look xs k = none := by
  unfold look
  rw [Option.map_eq_none_iff, List.find?_eq_none]
  intro x m e
  obtain ⟨i, hi⟩ := List.mem_iff_getElem?.mp m
  exact h i x hi (of_decide_eq_true e)
theorem look_some (nd : (xs.map (·.1)).Nodup) : ∀ {xs : List (NK × α × β)}, (xs.map (·.1)).Nodup → ∀ {i : Nat} {x : NK × α × β}, xs[i]? = some x → look xs x.1 = some x.2.2
  | [], _, _, _, e => by simp at e
  | y :: ys, n, i, x, e => by
    rw [List.map_cons, List.nodup_cons] at n
    unfold look
    rw [List.find?_cons]
    cases i with
    | zero =>
      rw [List.getElem?_cons_zero] at e
      cases e
      rw [decide_eq_true rfl]
      rfl
    | succ i =>
      rw [List.getElem?_cons_succ] at e
      have ne : y.1 ≠ x.1 := fun z => n.1 (z ▸ List.mem_map.mpr ⟨x, List.mem_of_getElem? e, rfl⟩)
      rw [decide_eq_false ne]
      exact look_some nd n.2 e
theorem look_isSome_mem : (look xs k).isSome = true → k ∈ xs.map (·.1) := fun h => by
  unfold look at h
  rw [Option.isSome_map] at h
  obtain ⟨x, hx⟩ := Option.isSome_iff_exists.mp h
  have := List.find?_some hx
  exact List.mem_map.mpr ⟨x, List.mem_of_find?_eq_some hx, of_decide_eq_true this⟩
theorem look_mem (h : k ∈ xs.map (·.1)) : (look xs k).isSome = true := by
  obtain ⟨x, hx, e⟩ := List.mem_map.mp h
  unfold look
  rw [Option.isSome_map, List.find?_isSome]
  exact ⟨x, hx, decide_eq_true e⟩
theorem put_keys (u : α) (v : β) : (put xs k u v).map (·.1) = if (look xs k).isSome = true then xs.map (·.1) else xs.map (·.1) ++ [k] := by
  unfold put
  split
  · rw [List.map_map]
    refine List.map_congr_left fun x _ => ?_
    show (if x.1 = k then (x.1, x.2.1, v) else x).1 = x.1
    split <;> rfl
  · rw [List.map_append]; rfl
theorem put_nodup (u : α) (v : β) (nd : (xs.map (·.1)).Nodup) : ((put xs k u v).map (·.1)).Nodup := by
  rw [put_keys]
  split
  · exact nd
  · rename_i h
    rw [List.nodup_append]
    refine ⟨nd, by simp, fun a ha b hb e => h ?_⟩
    rw [List.mem_singleton.mp hb] at e
    exact look_mem (e ▸ ha)
theorem modify_put (v : β) {γ : Type} (f : NK × α × β → γ) (g : γ → γ) (hg : ∀ x : NK × α × β, x.1 = k → g (f x) = f (x.1, x.2.1, v)) : ∀ {xs : List (NK × α × β)} {j : Nat} {x : NK × α × β}, (xs.map (·.1)).Nodup → xs[j]? = some x → x.1 = k →
    (xs.map f).modify j g = (xs.map (fun x => if x.1 = k then (x.1, x.2.1, v) else x)).map f
  | [], _, _, _, e, _ => by simp at e
  | y :: ys, j, x, n, e, ek => by
    rw [List.map_cons, List.nodup_cons] at n
    cases j with
    | zero =>
      rw [List.getElem?_cons_zero] at e
      cases e
      have same : ys.map (fun x => if x.1 = k then (x.1, x.2.1, v) else x) = ys := by
        conv => rhs; rw [← List.map_id ys]
        refine List.map_congr_left fun z hz => ?_
        have ne : z.1 ≠ k := fun q => n.1 (by rw [ek, ← q]; exact List.mem_map.mpr ⟨z, hz, rfl⟩)
        rw [if_neg ne]
        rfl
      rw [List.map_cons, List.map_cons, List.map_cons, same, if_pos ek]
      show g (f y) :: ys.map f = _
      rw [hg y ek]
    | succ j =>
      rw [List.getElem?_cons_succ] at e
      have ne : y.1 ≠ k := fun q => n.1 (by rw [q, ← ek]; exact List.mem_map.mpr ⟨x, List.mem_of_getElem? e, rfl⟩)
      rw [List.map_cons, List.map_cons, List.map_cons, if_neg ne]
      show f y :: (ys.map f).modify j g = _
      rw [modify_put v f g hg n.2 e ek]
end
section
variable {prog : Program} {w : World} {A : Around} {E : Value → Shared → Prop} {s : Shared} {d : Addr} {xs : List (NK × Value × Value)} {k : NK} {u : Value}
theorem At.typeIs (m : At w s.heap d xs) : s.TypeIs (.ref d) "dict" := let ⟨o, _, _, ho, hx, _⟩ := m; ⟨o, ho, hx.1⟩
theorem get_md (hu : A.units + 8 < cLine) (m : At w s.heap d xs) (hk : NestedIs s.heap k u) (dk : k.depth ≤ 8) {Q : Option Value → Shared → Prop} (q : Q (look xs k) { s with toks := s.toks + k.draws }) : wpAny (model prog w) A (dictGet d u) Q E s := by
  obtain ⟨o, es, ep, ho, hx, hd, he, ks⟩ := m
  unfold dictGet
  try with_reducible refine wpAny_holding ?_
  refine wpAny_bind (pyHash_key k u A s _ hk (by omega) (wpAny_bind (find (s := { s with toks := s.toks + k.draws }) hu ho hd he ks hk dk (fun hno => ?_) fun i x hi e => ?_)))
  · rw [look_none hno] at q
    exact wpAny_pure q
  · rw [← e, look_some ks.one ks.one hi] at q
    refine wpAny_bind (wpAny_dictEntries (s := { s with toks := s.toks + k.draws }) ho hd ?_)
    rw [ent_at he i, hi]
    rw [e] at q
    exact wpAny_pure q
theorem getItem_md (hu : A.units + 16 < cLine) (m : At w s.heap d xs) (hk : NestedIs s.heap k u) (dk : k.depth ≤ 8) {v : Value} (hv : look xs k = some v) {Q : Value → Shared → Prop} (q : Q v { s with toks := s.toks + k.draws }) : wpAny (model prog w) A (getItem (.ref d) u) Q E s := by
  have ty := m.typeIs
  unfold getItem
  try with_reducible refine wpAny_holding ?_
  refine wpAny_bind (wpAny_sequenceKey ty (by decide) ?_)
  refine wpAny_bind (wpAny_callSpecial?_slot (name := Str.ofString "__getitem__") ty slot_dict_getitem (wpAny_call_entry slot_dict_getitem ty entry_dict_getitem ?_ (args_dict_getitem _ _)))
  show wpAny _ _ (dictGet d u >>= _) _ _ s
  refine wpAny_bind (get_md (by show A.units + _ + 8 < _; omega) m hk dk ?_)
  rw [hv]
  exact wpAny_pure ⟨v, rfl, wpAny_pure q⟩
theorem getOr_md (hu : A.units + 16 < cLine) (hs : (d == sysModules) = false) (m : At w s.heap d xs) (hk : NestedIs s.heap k u) (dk : k.depth ≤ 8) {x : Value} {Q : Value → Shared → Prop} (q : Q ((look xs k).getD x) { s with toks := s.toks + k.draws }) :
    wpAny (model prog w) A (call (.builtin "dict.get") [.ref d, u, x]) Q E s := by
  refine call_meetsIn F.slot_dict_get m.typeIs F.entry_dict_get (F.args_dict_get_3 _ _ _) (S := fun A' R s' => A' = A ∧ s' = s ∧ R (.ok (.ret ((look xs k).getD x))) { s with toks := s.toks + k.draws }) (fun A' R s' hS => ?_) ⟨rfl, rfl, q⟩
  obtain ⟨rfl, rfl, hq⟩ := hS
  show wpAny _ _ (dictGet d u >>= _) _ _ _
  refine wpAny_bind (get_md (by show A'.units + _ + 8 < _; omega) m hk dk ?_)
  cases hf : look xs k with
  | some v =>
    rw [hf] at hq
    exact wpAny_pure hq
  | none =>
    rw [hf] at hq
    show wpAny _ _ (Builtin.Dict.missed d u >>= _) _ _ _
    exact wpAny_bind (wpAny_missed_other hs (wpAny_pure hq))
theorem Keyd.but {h h' : Heap} {o : Obj} {es : Array DictEntry} {ep : Nat} (ks : Keyd h xs) (ho : h.get? d = some o) (hd : o.data = .dict es ep) (sb : Heap.SameBut d h h') : Keyd h' xs := by
  refine ⟨fun x hx => ⟨NestedIs.at (fun b ob vs n hb hc => (sb.2 b fun e => ?_).trans hb) _ _ (ks.is x hx).1, (ks.is x hx).2⟩, ks.one⟩
  subst e
  rw [ho] at hb
  cases hb
  rw [hd] at hc
  cases hc
theorem is_but {h h' : Heap} {o : Obj} {es : Array DictEntry} {ep : Nat} {v : Value} (n : NestedIs h k v) (ho : h.get? d = some o) (hd : o.data = .dict es ep) (sb : Heap.SameBut d h h') : NestedIs h' k v := by
  refine NestedIs.at (fun b ob vs n hb hc => (sb.2 b fun e => ?_).trans hb) _ _ n
  subst e
  rw [ho] at hb
  cases hb
  rw [hd] at hc
  cases hc
theorem set_md {v : Value} (hu : A.units + 8 < cLine) (m : At w s.heap d xs) (hk : NestedIs s.heap k u) (dk : k.depth ≤ 8) (hz : xs.length ≤ sizeLine) {Q : Unit → Shared → Prop}
    (q : ∀ h', At w h' d (put xs k u v) → Heap.SameBut d s.heap h' → Q () { s with heap := h', toks := s.toks + k.draws }) : wpAny (model prog w) A (dictSet d u v) Q E s := by
  obtain ⟨o, es, ep, ho, hx, hd, he, ks⟩ := m
  unfold dictSet
  try with_reducible refine wpAny_holding ?_
  refine wpAny_bind (pyHash_key k u A s _ hk (by omega) ?_)
  unfold dictSetHashed
  try with_reducible refine wpAny_holding ?_
  refine wpAny_bind (find (s := { s with toks := s.toks + k.draws }) hu ho hd he ks hk dk (fun hno => ?_) fun i x hi e => ?_)
  · have nn : look xs k = none := look_none hno
    have hp : put xs k u v = xs ++ [(k, u, v)] := by unfold put; rw [nn]; simp
    refine wpAny_bind (wpAny_rule (wpAny_updateDictKeys (hz := by have e := ent_size he; omega) (s := { s with toks := s.toks + k.draws }) ho hd (q _ ⟨_, _, ep + 1, Heap.get?_update_self _ ho (Obj.isFreed_of_dict (Obj.data_mapDictKeys hd _)), hx.mapDictKeys _, Obj.data_mapDictKeys hd _, ?_, ?_⟩ (Heap.SameBut.update ..))))
    · rw [hp]
      simp [he, ent]
    · refine ⟨fun y hy => ?_, put_nodup u v ks.one⟩
      rw [hp] at hy
      rcases List.mem_append.mp hy with z | z
      · exact (ks.but ho hd (Heap.SameBut.update ..)).is y z
      · rw [List.mem_singleton.mp z]
        exact ⟨is_but hk ho hd (Heap.SameBut.update ..), dk⟩
  · have ss : (look xs k).isSome = true := look_mem (e ▸ List.mem_map.mpr ⟨x, List.mem_of_getElem? hi, rfl⟩)
    have hp : put xs k u v = xs.map (fun x => if x.1 = k then (x.1, x.2.1, v) else x) := by unfold put; rw [if_pos ss]
    refine wpAny_bind (wpAny_rule (wpAny_bind (wpAny_updateDict (s := { s with toks := s.toks + k.draws }) ho hd (wpAny_point (q _ ⟨_, _, ep, Heap.get?_update_self _ ho (Obj.isFreed_of_dict (Obj.data_mapDict hd _)), hx.mapDict _, Obj.data_mapDict hd _, ?_, ?_⟩ (Heap.SameBut.update ..))))))
    · rw [hp]
      have z := modify_put (k := k) v (ent w) (fun e : DictEntry => { e with val := v }) (fun x _ => rfl) ks.one hi e
      rw [← he] at z
      obtain ⟨l⟩ := es
      simpa using z
    · refine ⟨fun y hy => ?_, put_nodup u v ks.one⟩
      rw [hp] at hy
      obtain ⟨z, hz, rfl⟩ := List.mem_map.mp hy
      dsimp only
      split <;> exact (ks.but ho hd (Heap.SameBut.update ..)).is z hz
theorem setItem_md {v : Value} (hu : A.units + 16 < cLine) (m : At w s.heap d xs) (hk : NestedIs s.heap k u) (dk : k.depth ≤ 8) (hz : xs.length ≤ sizeLine) {Q : Unit → Shared → Prop}
    (q : ∀ h', At w h' d (put xs k u v) → Heap.SameBut d s.heap h' → Q () { s with heap := h', toks := s.toks + k.draws }) : wpAny (model prog w) A (setItem (.ref d) u v) Q E s := by
  have ty := m.typeIs
  unfold setItem
  try with_reducible refine wpAny_holding ?_
  refine wpAny_bind (wpAny_sequenceKey ty (by decide) ?_)
  refine wpAny_bind (wpAny_callSpecial?_slot (name := Str.ofString "__setitem__") ty slot_dict_setitem (wpAny_call_entry slot_dict_setitem ty entry_dict_setitem ?_ (args_dict_setitem _ _ _)))
  show wpAny _ _ (Builtin.Dict.notOrdered "__setitem__" ⟨[.ref d, u, v], []⟩ >>= _) _ _ s
  refine wpAny_bind (wpAny_notOrdered_dict ty ?_)
  show wpAny _ _ (dictSet d u v >>= _) _ _ s
  exact wpAny_bind (set_md (by show A.units + _ + 8 < _; omega) m hk dk hz fun h' m' sb => wpAny_pure ⟨.none, rfl, wpAny_pure (q h' m' sb)⟩)
end
end MD
end
/-! ### MD2 -/
section
set_option Elab.async false
set_option linter.all false
set_option maxRecDepth 100000
set_option maxHeartbeats 4000000
/-! Dicts of mixed keys on the abstract heap: {}, d[k], d.get(k, x), d[k] = v. -/
namespace MD
open PySem PySem.Spec PyProof.Rows L2
def atomK : V → Option NK
  | .non => some .none
  | .bl b => some (.num (if b = true then 1 else 0))
  | .int i => some (.num i)
  | .str x => some (.text x)
  | _ => none
mutual
/-- a value as a key -/
inductive KeyV (K : PySem.W.Frag) (H : Hp) : V → NK → Prop
  | atom {v : V} {k : NK} : atomK v = some k → KeyV K H v k
  | tup {b : Addr} {xs : List V} {ks : List NK} : SqT K H b xs → KeyVs K H xs ks → KeyV K H (.ref b) (.tup ks)
inductive KeyVs (K : PySem.W.Frag) (H : Hp) : List V → List NK → Prop
  | nil : KeyVs K H [] []
  | cons {v : V} {vs : List V} {k : NK} {ks : List NK} : KeyV K H v k → KeyVs K H vs ks → KeyVs K H (v :: vs) (k :: ks)
end
theorem sqt_same {K : PySem.W.Frag} {H H' : Hp} {a : Addr} {xs : List V} (e : ∀ b o, H b = some o → H' b = some o) (h : SqT K H a xs) : SqT K H' a xs := by
  rcases h with (h | ⟨o, h⟩) | h
  · exact .inl (.inl (e _ _ h))
  · exact .inl (.inr ⟨o, e _ _ h⟩)
  · exact .inr h
mutual
theorem KeyV.same {K : PySem.W.Frag} {H H' : Hp} (e : ∀ b o, H b = some o → H' b = some o) : ∀ (k : NK) (v : V), KeyV K H v k → KeyV K H' v k
  | .tup ks, _, h => by
    cases h with
    | atom q => exact .atom q
    | tup h1 h2 => exact .tup (sqt_same e h1) (KeyVs.same e ks _ h2)
  | .none, _, h => by cases h with | atom q => exact .atom q
  | .num _, _, h => by cases h with | atom q => exact .atom q
  | .text _, _, h => by cases h with | atom q => exact .atom q
theorem KeyVs.same {K : PySem.W.Frag} {H H' : Hp} (e : ∀ b o, H b = some o → H' b = some o) : ∀ (ks : List NK) (vs : List V), KeyVs K H vs ks → KeyVs K H' vs ks
  | [], _, h => by cases h; exact .nil
  | k :: ks, _, h => by cases h with | cons h1 h2 => exact .cons (KeyV.same e k _ h1) (KeyVs.same e ks _ h2)
end
section
variable {X : Cx} {pins : List (Addr × Obj)} {σ : L2.St} {H : Hp} {s : Shared}
theorem atom_is {h : Heap} {v : V} {u : Value} {k : NK} (e : atomK v = some k) (r : RelV v u) : NestedIs h k u := by
  cases v with
  | non => cases e; cases r; exact .none
  | bl b => cases e; cases r; exact .bool rfl
  | int i => cases e; obtain ⟨t, rfl⟩ := r; exact .int i t
  | str x => cases e; obtain ⟨t, rfl⟩ := r; exact .text x t
  | _ => cases e
mutual
theorem key_is (I : Inv X pins σ H s) : ∀ (k : NK) (v : V) (u : Value), KeyV X.K H v k → RelV v u → NestedIs s.heap k u
  | .tup ks, _, u, h, r => by
    cases h with
    | atom q => exact atom_is q r
    | tup h1 h2 =>
      cases r
      obtain ⟨its, rv, ⟨o, ho, hc, n, hd⟩, _⟩ := I.tuple h1
      exact .tup ho hc hd (by simpa using keys_is I ks _ _ h2 rv)
  | .none, _, _, h, r => by cases h with | atom q => exact atom_is q r
  | .num _, _, _, h, r => by cases h with | atom q => exact atom_is q r
  | .text _, _, _, h, r => by cases h with | atom q => exact atom_is q r
theorem keys_is (I : Inv X pins σ H s) : ∀ (ks : List NK) (vs : List V) (us : List Value), KeyVs X.K H vs ks → Vals vs us → NestedAll s.heap ks us
  | [], _, _, h, r => by cases h; cases r; exact .nil
  | k :: ks, _, _, h, r => by
    cases h with
    | cons h1 h2 =>
      cases r with
      | cons r1 r2 => exact .cons (key_is I k _ _ h1 r1) (keys_is I ks _ _ h2 r2)
end
end
abbrev Row := NK × V × V
def Prs : List Row → List (NK × Value × Value) → Prop := Paired fun p q => p.1 = q.1 ∧ RelV p.2.1 q.2.1 ∧ RelV p.2.2 q.2.2
def TabM (w : World) (h : Heap) (a : Addr) (kvs : List Row) : Prop := kvs.length ≤ sizeLine ∧ (a == sysModules) = false ∧ ∃ xs, Prs kvs xs ∧
  ∃ o es ep, h.get? a = some o ∧ o.ExactDict ∧ o.data = .dict es ep ∧ es.toList = xs.map (ent w) ∧ (xs.map (·.1)).Nodup
def dM (w : World) (a : Addr) (kvs : List Row) : HO := .ext fun h => TabM w h a kvs
/-- its keys, as they stand -/
def KeysV (K : PySem.W.Frag) (H : Hp) (kvs : List Row) : Prop := ∀ p ∈ kvs, KeyV K H p.2.1 p.1 ∧ p.1.depth ≤ 8
theorem KeysV.same {K : PySem.W.Frag} {H H' : Hp} {kvs : List Row} (e : ∀ b o, H b = some o → H' b = some o) (h : KeysV K H kvs) : KeysV K H' kvs := fun p m => ⟨KeyV.same e _ _ (h p m).1, (h p m).2⟩
theorem TabM.ok {P : Program} {w : World} {H : Hp} {h : Heap} {a : Addr} {kvs : List Row} (t : TabM w h a kvs) : ObjOk P w H h a (dM w a kvs) := by
  refine ⟨t, ?_, fun h1 h2 q k => ?_⟩
  · obtain ⟨_, _, _, _, o, _, _, e, _⟩ := t
    exact ⟨o, e⟩
  · obtain ⟨z, y, xs, r, o, es, ep, e, c⟩ := q
    exact ⟨z, y, xs, r, o, es, ep, k _ e, c⟩
theorem prs_len : ∀ {kvs : List Row} {xs : List (NK × Value × Value)}, Prs kvs xs → kvs.length = xs.length
  | _, _, .nil => rfl
  | _, _, .cons _ t => by rw [List.length_cons, List.length_cons, prs_len t]
theorem prs_look {k : NK} : ∀ {kvs : List Row} {xs : List (NK × Value × Value)}, Prs kvs xs → RelO (look kvs k) (look xs k)
  | _, _, .nil => True.intro
  | p :: _, q :: _, .cons r t => by
    have ih := prs_look (k := k) t
    obtain ⟨h1, _, h2⟩ := r
    unfold look at *
    rw [List.find?_cons, List.find?_cons]
    by_cases e : p.1 = k
    · rw [decide_eq_true e, decide_eq_true (h1.symm.trans e)]
      exact h2
    · rw [decide_eq_false e, decide_eq_false (fun z => e (h1.trans z))]
      exact ih
theorem prs_keys : ∀ {kvs : List Row} {xs : List (NK × Value × Value)}, Prs kvs xs → kvs.map (·.1) = xs.map (·.1)
  | _, _, .nil => rfl
  | _, _, .cons r t => by rw [List.map_cons, List.map_cons, r.1, prs_keys t]
theorem prs_get : ∀ {kvs : List Row} {xs : List (NK × Value × Value)} {i : Nat} {p : Row}, Prs kvs xs → kvs[i]? = some p → ∃ q, xs[i]? = some q ∧ p.1 = q.1 ∧ RelV p.2.1 q.2.1 ∧ RelV p.2.2 q.2.2
  | _, _, _, _, .nil, e => by simp at e
  | _, _, 0, _, .cons r _, e => by simp at e; subst e; exact ⟨_, rfl, r⟩
  | _, _, i + 1, p, .cons _ t, e => by
    obtain ⟨q, h1, h2⟩ := prs_get (i := i) (p := p) t (by simpa using e)
    exact ⟨q, by simpa using h1, h2⟩
theorem prs_snoc {p : Row} {q : NK × Value × Value} (r : p.1 = q.1 ∧ RelV p.2.1 q.2.1 ∧ RelV p.2.2 q.2.2) : ∀ {kvs : List Row} {xs : List (NK × Value × Value)}, Prs kvs xs → Prs (kvs ++ [p]) (xs ++ [q])
  | _, _, .nil => .cons r .nil
  | _, _, .cons r0 t => .cons r0 (prs_snoc r t)
theorem prs_over {k : NK} {v : V} {v' : Value} (rv : RelV v v') : ∀ {kvs : List Row} {xs : List (NK × Value × Value)}, Prs kvs xs → Prs (kvs.map (fun x => if x.1 = k then (x.1, x.2.1, v) else x)) (xs.map (fun x => if x.1 = k then (x.1, x.2.1, v') else x))
  | _, _, .nil => .nil
  | p :: _, q :: _, .cons r t => by
    rw [List.map_cons, List.map_cons]
    refine .cons ?_ (prs_over rv t)
    obtain ⟨h1, h2, h3⟩ := r
    by_cases e : p.1 = k
    · rw [if_pos e, if_pos (h1.symm.trans e)]
      exact ⟨h1, h2, rv⟩
    · rw [if_neg e, if_neg (fun z => e (h1.trans z))]
      exact ⟨h1, h2, h3⟩
theorem prs_put {k : NK} {u v : V} {u' v' : Value} {kvs : List Row} {xs : List (NK × Value × Value)} (r : Prs kvs xs) (ru : RelV u u') (rv : RelV v v') : Prs (put kvs k u v) (put xs k u' v') := by
  unfold put
  have z := (prs_look (k := k) r).isSome_eq
  by_cases c : (look xs k).isSome = true
  · rw [if_pos c, if_pos (by rw [z]; exact c)]
    exact prs_over rv r
  · rw [if_neg c, if_neg (by rw [z]; exact c)]
    exact prs_snoc ⟨rfl, ru, rv⟩ r
theorem put_len {α β : Type} {xs : List (NK × α × β)} {k : NK} {u : α} {v : β} : (put xs k u v).length ≤ xs.length + 1 := by
  unfold put
  split
  · rw [List.length_map]; exact Nat.le_succ _
  · rw [List.length_append]; exact Nat.le_refl _
section
variable {X : Cx} {pins : List (Addr × Obj)} {σ : L2.St} {H : Hp} {s : Shared} {a : Addr} {k : NK} {kvs : List Row} {u v : V} {u' v' : Value} {A : Around} {E : Value → Shared → Prop}
theorem tab_of (I : Inv X pins σ H s) (e : H a = some (dM X.w a kvs)) : TabM X.w s.heap a kvs := (show ObjOk X.prog X.w H s.heap a (dM X.w a kvs) from I.hok a _ e).1
theorem keysU (I : Inv X pins σ H s) : ∀ {kvs : List Row} {xs : List (NK × Value × Value)}, Prs kvs xs → KeysV X.K H kvs → ∀ x ∈ xs, NestedIs s.heap x.1 x.2.1 ∧ x.1.depth ≤ 8
  | _, _, .nil, _ => fun x hx => nomatch hx
  | p :: _, q :: _, .cons r t, ks => fun x hx => by
    rcases List.mem_cons.mp hx with e | hx
    · subst e
      obtain ⟨z1, z2⟩ := ks p List.mem_cons_self
      rw [← r.1]
      exact ⟨key_is I _ _ _ z1 r.2.1, z2⟩
    · exact keysU I t (fun y hy => ks y (List.mem_cons_of_mem _ hy)) x hx
theorem atM (I : Inv X pins σ H s) (e : H a = some (dM X.w a kvs)) (ks : KeysV X.K H kvs) : kvs.length ≤ sizeLine ∧ (a == sysModules) = false ∧ ∃ xs, Prs kvs xs ∧ At X.w s.heap a xs := by
  obtain ⟨z, y, xs, r, o, es, ep, h1, h2, h3, h4, h5⟩ := tab_of I e
  exact ⟨z, y, xs, r, o, es, ep, h1, h2, h3, h4, keysU I r ks, h5⟩
theorem nodup_of (I : Inv X pins σ H s) (e : H a = some (dM X.w a kvs)) : (kvs.map (·.1)).Nodup := by
  obtain ⟨z, y, xs, r, o, es, ep, h1, h2, h3, h4, h5⟩ := tab_of I e
  rw [prs_keys r]
  exact h5
theorem m_get {Q : Value → Shared → Prop} (hu : A.units + 64 < cLine) (I : Inv X pins σ H s) (e : H a = some (dM X.w a kvs)) (ks : KeysV X.K H kvs) (n : KeyV X.K H u k) (dk : k.depth ≤ 8) (ru : RelV u u') (g : look kvs k = some v) (h : ∀ w' s', Inv X pins σ H s' → RelV v w' → Q w' s') :
    wpAny (model X.prog X.w) A (getItem (.ref a) u') Q E s := by
  obtain ⟨_, _, xs, r, m⟩ := atM I e ks
  obtain ⟨w', hw, rw'⟩ := RelO.some_of (v := v) (o := look xs k) (by rw [← g]; exact prs_look r)
  exact getItem_md (by omega) m (key_is I _ _ _ n ru) dk hw (h w' _ (I.tok _) rw')
theorem m_getOr {d : V} {d' : Value} {Q : Value → Shared → Prop} (hu : A.units + 64 < cLine) (I : Inv X pins σ H s) (e : H a = some (dM X.w a kvs)) (ks : KeysV X.K H kvs) (n : KeyV X.K H u k) (dk : k.depth ≤ 8) (ru : RelV u u') (rd : RelV d d') (h : ∀ w' s', Inv X pins σ H s' → RelV ((look kvs k).getD d) w' → Q w' s') :
    wpAny (model X.prog X.w) A (call (.builtin "dict.get") [.ref a, u', d']) Q E s := by
  obtain ⟨_, hs, xs, r, m⟩ := atM I e ks
  refine getOr_md (by omega) hs m (key_is I _ _ _ n ru) dk (h _ _ (I.tok _) ?_)
  have q := prs_look (k := k) r
  cases e1 : look kvs k with
  | none =>
    rw [e1] at q
    rw [RelO.none_of q]
    exact rd
  | some y =>
    rw [e1] at q
    obtain ⟨w', hw, rw'⟩ := RelO.some_of q
    rw [hw]
    exact rw'
theorem m_set {Q : Unit → Shared → Prop} (hu : A.units + 64 < cLine) (I : Inv X pins σ H s) (e : H a = some (dM X.w a kvs)) (ks : KeysV X.K H kvs) (n : KeyV X.K H u k) (dk : k.depth ≤ 8) (ru : RelV u u') (rv : RelV v v') (l : kvs.length < sizeLine)
    (h : ∀ s', Inv X pins σ (upd H a (dM X.w a (put kvs k u v))) s' → Q () s') : wpAny (model X.prog X.w) A (setItem (.ref a) u' v') Q E s := by
  obtain ⟨z, hs, xs, r, m⟩ := atM I e ks
  refine setItem_md (by omega) m (key_is I _ _ _ n ru) dk (by rw [← prs_len r]; exact z) fun h' ⟨o, es, ep, h1, h2, h3, h4, h5⟩ sb => h _ ?_
  exact d_write I (by rw [e]; exact True.intro) sb ⟨o, h1⟩ (TabM.ok ⟨Nat.le_trans put_len l, hs, _, prs_put r ru rv, o, es, ep, h1, h2, h3, h4, h5.one⟩)
end
def tMGet (K : PySem.W.Frag) (w : World) (td ty : TE) : TE := fun σ H Q => td σ H fun x H1 => ty σ H1 fun y H2 => ∃ a k kvs v, x = .ref a ∧ H2 a = some (dM w a kvs) ∧ KeysV K H2 kvs ∧ KeyV K H2 y k ∧ k.depth ≤ 8 ∧ look kvs k = some v ∧ Q v H2
def tMGet2 (K : PySem.W.Frag) (w : World) (td ty tx : TE) : TE := fun σ H Q => td σ H fun x H1 => ∃ a, x = .ref a ∧ (∃ kv0, H1 a = some (dM w a kv0)) ∧ ty σ H1 fun y H2 => tx σ H2 fun z H3 => ∃ k kvs, H3 a = some (dM w a kvs) ∧ KeysV K H3 kvs ∧ KeyV K H3 y k ∧ k.depth ≤ 8 ∧ Q ((look kvs k).getD z) H3
def sMPut (K : PySem.W.Frag) (w : World) (td ty tv : TE) : TS := fun D σ H => tv σ H fun v H1 => td σ H1 fun x H2 => ty σ H2 fun y H3 => ∃ a k kvs, x = .ref a ∧ H3 a = some (dM w a kvs) ∧ KeysV K H3 kvs ∧ KeyV K H3 y k ∧ k.depth ≤ 8 ∧ kvs.length < sizeLine ∧ D.nx σ (upd H3 a (dM w a (put kvs k y v)))
def tMNew (w : World) : TE := fun _ H Q => ∀ p, H p = none → Q (.ref p) (upd H p (dM w p []))
section
variable {X : Cx} {o i e f value : Expr} {pos pos' apos cpos : Pos} {td ty tv tx : TE}
theorem pe_mnew : PE X (.Dict [] [] pos) (tMNew X.w) := ⟨fun pins s σ H Q I h =>
  wpAny_Dict_empty ⟨.ref s.heap.objs.size, _, I.laid (a := s.heap.objs.size) (o := dM X.w s.heap.objs.size []) (t' := s.toks) (fun _ _ q => Heap.get?_push_of_some _ q) (Nat.le_refl _)
    (TabM.ok ⟨Nat.zero_le _, beq_eq_false_iff_ne.mpr (Ne.symm (Nat.ne_of_lt I.big)), [], .nil, _, #[], 0, Heap.get?_push_size _ rfl, ⟨rfl, rfl, rfl⟩, rfl, rfl, List.nodup_nil⟩), rfl, h _ (I.hok.fresh (Nat.le_refl _))⟩⟩
theorem pe_mget (hu : X.A.units + 64 < cLine) (ho : PE X o td) (hi : PE X i ty) (hs : NoSl i) : PE X (.Subscript o i pos) (tMGet X.K X.w td ty) := by
  refine ⟨fun pins s σ H Q I h => ?_⟩
  refine subD_of PySem.F.slot_dict_getitem.lookup hs (thn (ho.run pins s σ H _ I h) fun u s1 ⟨x, H1, I1, rx, q1⟩ => thn (hi.run pins s1 σ H1 _ I1 q1) fun iv s2 ⟨y, H2, I2, ry, a, k, kvs, v, ex, ed, ks, n, dk, g, q2⟩ => ?_)
  subst ex
  obtain rfl : u = Value.ref a := rx
  obtain ⟨_, _, xs, _, m⟩ := atM I2 ed ks
  exact ⟨m.typeIs, m_get hu I2 ed ks n dk ry g fun w' s3 I3 rw' => ⟨v, H2, I3, rw', q2⟩⟩
theorem pe_mget2 (hu : X.A.units + 64 < cLine) (ho : PE X o td) (he : PE X e ty) (hf : PE X f tx) (m : M2 X o "get" apos e f cpos) : PE X (.Call (.Attribute o "get" apos) [e, f] [] cpos) (tMGet2 X.K X.w td ty tx) := by
  refine ⟨fun pins s σ H Q I h => ?_⟩
  refine wpAny_Call_method m.base m.few m.line PySem.F.plainAttrs_dict PySem.F.slot_dict_get PySem.F.type_dict_get (thn (ho.run pins s σ H _ I h) fun u s1 ⟨x, H1, I1, rx, a, ex, ⟨kv0, d⟩, q1⟩ => ?_)
  subst ex
  obtain rfl : u = Value.ref a := rx
  obtain ⟨_, _, _, _, o', es, ep, ho', hx', _⟩ := tab_of I1 d
  refine ⟨⟨o', ho', hx'.1⟩, fun c e => by cases e; exact ⟨o', ho', hx'.2.1⟩, ?_⟩
  rw [m.trees]
  refine Calls.callWith_builtin rfl (Calls.evalArgs_plain (Calls.spliced_cons (thn (he.run pins s1 σ H1 _ I1 q1) fun iv s2 ⟨y, H2, I2, ry, q2⟩ =>
    Calls.spliced_cons (thn (hf.run pins s2 σ H2 _ I2 q2) fun fv s3 ⟨z, H3, I3, rz, k, kvs, ed, ks, n, dk, q3⟩ => Calls.spliced_nil ?_))))
  exact m_getOr hu I3 ed ks n dk ry rz fun w' s4 I4 rw' => ⟨_, H3, I4, rw', q3⟩
theorem ps_mput (hu : X.A.units + 64 < cLine) (ho : PE X o td) (hi : PE X i ty) (hv : PE X value tv) (hs : swapsWith value (some (.Subscript o i pos')) pos.line X.env = pure false) :
    PS X (.Assign [.Subscript o i pos'] value pos) (sMPut X.K X.w td ty tv) := by
  refine ⟨fun pins s σ H D I h => ?_⟩
  refine wpAny_Assign_Subscript (thn (hv.run pins s σ H _ I h) fun r s1 ⟨v, H1, I1, rv, q1⟩ => thn (ho.run pins s1 σ H1 _ I1 q1) fun u s2 ⟨x, H2, I2, rx, q2⟩ => thn (hi.run pins s2 σ H2 _ I2 q2) fun iv s3 ⟨y, H3, I3, ry, a, k, kvs, ex, ed, ks, n, dk, l, q3⟩ => ?_) hs
  subst ex
  obtain rfl : u = Value.ref a := rx
  exact m_set hu (I3) ed ks n dk ry (rv) l fun s4 I4 => ⟨σ, _, I4, q3⟩
end
end MD
end
/-! ### MD3 -/
section
set_option Elab.async false
set_option linter.all false
set_option maxRecDepth 100000
set_option maxHeartbeats 4000000
/-! Such dicts walked (locked): items, keys. -/
namespace MD
open PySem PySem.Spec PyProof.Rows L2
section
variable {X : Cx} {pins : List (Addr × Obj)} {σ : L2.St} {H : Hp} {s : Shared} {d : Addr} {o : Obj} {kvs : List Row}
theorem frzM (I : Inv X pins σ H s) (h : H d = some (.frz o (dM X.w d kvs))) :
    (d == sysModules) = false ∧ s.heap.get? d = some o ∧ o.ExactDict ∧ ∃ (es : Array DictEntry) (ep : Nat) (xs : List (NK × Value × Value)), o.data = .dict es ep ∧ es.size = kvs.length ∧ Prs kvs xs ∧ es.toList = xs.map (ent X.w) ∧ s.heap.DictRaw d es ep := by
  obtain ⟨hd, hok⟩ := I.hok d _ h
  obtain ⟨z, hs, xs, rel, o', es, ep, ho, hx, hdt, he, hn⟩ := (show ObjOk X.prog X.w H s.heap d (dM X.w d kvs) from hok).1
  rw [hd] at ho
  cases ho
  exact ⟨hs, hd, hx, es, ep, xs, hdt, by rw [ent_size he, prs_len rel], rel, he, o, hd, hx, hdt⟩
end
def Itmi (w : World) (d : Addr) (o : Obj) (kvs : List Row) : It :=
  ⟨fun i H => H d = some (.frz o (dM w d kvs)) ∧ i < kvs.length, fun i H x H' => ∃ T p, kvs[i]? = some p ∧ x = .ref T ∧ H T = none ∧ H' = upd H T (.tup [p.2.1, p.2.2]), fun i H => H d = some (.frz o (dM w d kvs)) ∧ kvs.length ≤ i⟩
def Itmk (w : World) (d : Addr) (o : Obj) (kvs : List Row) : It :=
  ⟨fun i H => H d = some (.frz o (dM w d kvs)) ∧ i < kvs.length, fun i H x H' => H' = H ∧ ∃ p, kvs[i]? = some p ∧ x = p.2.1, fun i H => H d = some (.frz o (dM w d kvs)) ∧ kvs.length ≤ i⟩
section
variable {P : Program} {w : World} {K : PySem.W.Frag} {d : Addr} {o : Obj} {es : Array DictEntry} {ep : Nat} {kvs : List Row}
theorem turn_mitems {elts : List Expr} {kk : Nat} {tpos : Pos} (it : Addr) (hod : o.data = .dict es ep) :
    Turn P w K (.Tuple elts kk tpos) (Itmi w d o kvs) [it] it (fun i h => ∃ ok ov, IsItemIter h it d i kvs.length ep ok ov) where
  mem := by simp
  obj := fun i h st b hb => by
    have e : b = it := by simpa using hb
    subst e
    obtain ⟨ok, ov, e⟩ := st
    exact ⟨_, e, fun v z => nomatch z⟩
  keep := fun i h h' st k => let ⟨ok, ov, e⟩ := st; ⟨ok, ov, k it (by simp) _ e⟩
  item := by
    intro X hP hw hK hc i pins s σ H E I hf st hg
    subst hP hw hK
    obtain ⟨hd, hi⟩ := hg
    obtain ⟨hs, hgd, hx, es', ep', xs, hdt, hsz, rel, hes, hm⟩ := frzM I hd
    obtain ⟨rfl, rfl⟩ := dict_ep hod hdt
    obtain ⟨p, hp⟩ : ∃ p, kvs[i]? = some p := ⟨kvs[i], List.getElem?_eq_getElem hi⟩
    obtain ⟨q, hq, q1, q2, q3⟩ := prs_get rel hp
    obtain ⟨ok, ov, he⟩ := st
    have hlt : it < s.heap.objs.size := Heap.lt_size he
    rw [← hsz] at he hi
    have ee : es'[i] = ent X.w q := by
      have z := ent_at hes i
      rw [Array.getElem?_eq_getElem hi, hq, Option.map_some] at z
      exact Option.some.inj z
    refine wpAny_pyNext_items_item_raw he hm hi fun h' ho hT hz hk => ?_
    refine ⟨_, rfl, wpAny_letOwnedTupleGo_items (s := { s with heap := h' }) ho fun h'' he' sb => ?_⟩
    rw [ee] at hT he'
    have hT2 : h''.get? s.heap.objs.size = some { cls := .type "tuple", data := .seq #[q.2.1, q.2.2] } := (sb.2 _ (Nat.ne_of_gt hlt)).trans hT
    have new : ObjOk X.prog X.w (upd H s.heap.objs.size (.tup [p.2.1, p.2.2])) h'' s.heap.objs.size (.tup [p.2.1, p.2.2]) :=
      ⟨by show 2 ≤ sizeLine; decide, [q.2.1, q.2.2], .cons q2 (.cons q3 .nil), ⟨_, hT2, rfl, _, rfl⟩⟩
    have I1 : Inv X pins σ (upd H s.heap.objs.size (.tup [p.2.1, p.2.2])) { s with heap := h'' } :=
      I.turnedNew (t' := s.toks) (ch := [it]) (fun b ob hb e => (sb.2 b (by simpa using hb)).trans (hk b ob (by simpa using hb) e)) hf (Nat.le_refl _) new
    refine ⟨.ref s.heap.objs.size, _, I1, rfl, ⟨_, p, hp, rfl, I.hok.fresh (Nat.le_refl _), rfl⟩, ⟨_, _, by rw [hsz] at he'; exact he'⟩, fun b hb => ?_⟩
    have e : b = it := by simpa using hb
    rw [e, upd_ne (Nat.ne_of_lt hlt)]
    exact (hf it (by simp)).1
  done := by
    intro X hP hw hK hc i pins s σ H E I hf st hg
    subst hP hw hK
    obtain ⟨hd, hi⟩ := hg
    obtain ⟨f0, f1, f2, f3, f4, f5⟩ := hf it (by simp)
    obtain ⟨hs, hgd, hx, es', ep', xs, hdt, hsz, rel, hes, hm⟩ := frzM I hd
    obtain ⟨rfl, rfl⟩ := dict_ep hod hdt
    obtain ⟨ok, ov, he⟩ := st
    rw [← hsz] at he hi
    exact wpAny_pyNext_items_end_raw (I.ok.hd hc) he hm hi fun h' eb => ⟨rfl, I.turned (t' := s.toks) (fun b ob hb e => eb b ob hb e) f0 f1 f3 f4 f5⟩
  self := fun A i s Q E st h => let ⟨_, _, e⟩ := st; PySem.W.kcp_self e h
theorem turn_mkeys {x : Str} {pos : Pos} (it : Addr) (hod : o.data = .dict es ep) : Turn P w K (.Name x pos) (Itmk w d o kvs) [it] it (fun i h => h.IsKeyIter it d i kvs.length ep) where
  mem := by simp
  obj := fun i h st b hb => by
    have e : b = it := by simpa using hb
    subst e
    obtain ⟨oi, e, c, dd⟩ := st
    exact ⟨oi, e, fun v z => by rw [dd] at z; exact nomatch z⟩
  keep := fun i h h' st k => st.at fun oi e => k it (by simp) oi e
  item := by
    intro X hP hw hK hc i pins s σ H E I hf st hg
    subst hP hw hK
    obtain ⟨hd, hi⟩ := hg
    obtain ⟨f0, f1, f2, f3, f4, f5⟩ := hf it (by simp)
    obtain ⟨hs, hgd, hx, es', ep', xs, hdt, hsz, rel, hes, hm⟩ := frzM I hd
    obtain ⟨rfl, rfl⟩ := dict_ep hod hdt
    obtain ⟨p, hp⟩ : ∃ p, kvs[i]? = some p := ⟨kvs[i], List.getElem?_eq_getElem hi⟩
    obtain ⟨q, hq, q1, q2, q3⟩ := prs_get rel hp
    rw [← hsz] at st hi
    have ee : es'[i] = ent X.w q := by
      have z := ent_at hes i
      rw [Array.getElem?_eq_getElem hi, hq, Option.map_some] at z
      exact Option.some.inj z
    refine wpAny_pyNext_keys_item_raw st hm hi fun h' st' sb => ?_
    have I1 : Inv X pins σ H { s with heap := h' } := I.turned (t' := s.toks) (fun b ob hb e => (sb.2 b hb).trans e) f0 f1 f3 f4 f5
    obtain ⟨oi, e, c, dd⟩ := id st'
    rw [ee]
    refine ⟨q.2.1, rfl, go_of (s := { s with heap := h' }) e c dd (by decide) ⟨p.2.1, H, I1, q2, ⟨rfl, p, hp, rfl⟩, ?_, fun b hb => (hf b hb).1⟩⟩
    show h'.IsKeyIter it d (i + 1) kvs.length _
    rw [← hsz]
    exact st'
  done := by
    intro X hP hw hK hc i pins s σ H E I hf st hg
    subst hP hw hK
    obtain ⟨hd, hi⟩ := hg
    obtain ⟨f0, f1, f2, f3, f4, f5⟩ := hf it (by simp)
    obtain ⟨hs, hgd, hx, es', ep', xs, hdt, hsz, rel, hes, hm⟩ := frzM I hd
    obtain ⟨rfl, rfl⟩ := dict_ep hod hdt
    rw [← hsz] at st hi
    exact wpAny_pyNext_keys_end_raw (I.ok.hd hc) st hm hi fun h' eb => ⟨rfl, I.turned (t' := s.toks) (fun b ob hb e => eb b ob hb e) f0 f1 f3 f4 f5⟩
  self := fun A i s Q E st h => wpAny_pyIter_keyiter st h
end
def iMItems (w : World) (td : TE) : TI := fun σ H R => td σ H fun x H1 => ∃ d o kvs, x = .ref d ∧ H1 d = some (.frz o (dM w d kvs)) ∧ R (Itmi w d o kvs) H1
def iMKeys (w : World) (td : TE) : TI := fun σ H R => td σ H fun x H1 => ∃ d o kvs, x = .ref d ∧ H1 d = some (.frz o (dM w d kvs)) ∧ R (Itmk w d o kvs) H1
section
variable {X : Cx} {e : Expr} {td : TE} {apos cpos tpos pos : Pos} {elts : List Expr} {kk : Nat} {x : Str}
theorem pi_mitems (he : PE X e td) (hbase : attributeBase e "items" X.env (eval e X.env) = eval e X.env := by rfl) (hline : (apos.endLine == cpos.line) = true := by rfl) :
    PI X (.Tuple elts kk tpos) (.Call (.Attribute e "items" apos) [] [] cpos) (iMItems X.w td) := by
  refine ⟨fun pins s σ H R I h => ?_⟩
  refine wpAny_Call_method (T := "dict") (id := "dict.items") hbase rfl hline F.plainAttrs_dict F.slot_dict_items F.type_dict_items (thn (he.run pins s σ H _ I h) fun u s1 ⟨x, H1, I1, rx, d, o, kvs, ex, hd, q⟩ => ?_)
  subst ex
  obtain rfl : u = Value.ref d := rx
  obtain ⟨hs, hgd, hx, es, ep, xs, hdt, hsz, rel, hes, hm⟩ := frzM I1 hd
  refine ⟨hm.typeIs, fun c e => by cases e; exact ⟨o, hgd, hx.2.1⟩, ?_⟩
  have I2 : Inv X pins σ H1 { s1 with heap := s1.heap.push { cls := .type "dict_items", data := .fields #[.ref d] } } := I1.kept (t' := s1.toks) fun b ob q => Heap.get?_push_of_some _ q
  have fin : wpAny (model X.prog X.w) X.A (pyIter (.ref s1.heap.objs.size)) (PIE X pins σ (.Tuple elts kk tpos) R) X.xe { s1 with heap := s1.heap.push { cls := .type "dict_items", data := .fields #[.ref d] } } := by
    refine wpAny_pyIter_items_raw (d := d) ⟨_, Heap.get?_push_size _ rfl, rfl, rfl⟩ (hm.at fun o e => Heap.get?_push_of_some _ e) (pi_one (tk := s1.toks) I2 _ (turn_mitems _ hdt) ⟨.none, .none, ?_⟩ q)
    rw [← hsz]
    exact Heap.get?_push_size _ rfl
  show wpAny _ _ (callWith cpos (.builtin "dict.items") [.ref d] [] []) _ X.xe s1
  exact method_meetsIn F.slot_dict_items F.entry_dict_items rfl (PySem.evalArgs_none ⟨rfl, hm.typeIs, F.args_dict_items_1 _, _, meets_dict_items_raw d hs, ⟨⟨es, ep, hm⟩, fin⟩⟩)
theorem pi_mkeys (he : PE X e td) : PI X (.Name x pos) e (iMKeys X.w td) := by
  refine ⟨fun pins s σ H R I h => ?_⟩
  refine thn (he.run pins s σ H _ I h) fun u s1 ⟨x, H1, I1, rx, d, o, kvs, ex, hd, q⟩ => ?_
  subst ex
  obtain rfl : u = Value.ref d := rx
  obtain ⟨hs, hgd, hx, es, ep, xs, hdt, hsz, rel, hes, hm⟩ := frzM I1 hd
  refine wpAny_pyIter_dict_raw hs hm (pi_one (tk := s1.toks) I1 _ (turn_mkeys _ hdt) ⟨_, Heap.get?_push_size _ rfl, rfl, ?_⟩ q)
  rw [hsz]
  rfl
end
end MD
end
/-! ### MD4 -/
section
set_option Elab.async false
set_option linter.all false
set_option maxRecDepth 100000
set_option maxHeartbeats 4000000
/-! dict(pairs), dict(list(d.items())), list(d), isinstance of such dicts. -/
namespace MD
open PySem
section
variable {prog : Program} {w : World} {A : Around} {E : Value → Shared → Prop} {s : Shared} {d a : Addr} {xs : List (NK × Value × Value)}
theorem At.lt {h : Heap} (m : At w h d xs) : d < h.objs.size := let ⟨_, _, _, ho, _⟩ := m; Heap.lt_size ho
theorem Keyd.keep {h h' : Heap} (ks : Keyd h xs) (k : ∀ b o, h.get? b = some o → h'.get? b = some o) : Keyd h' xs :=
  ⟨fun x hx => ⟨NestedIs.at (fun b o _ _ e _ => k b o e) _ _ (ks.is x hx).1, (ks.is x hx).2⟩, ks.one⟩
theorem At.keep {h h' : Heap} (m : At w h d xs) (k : ∀ b o, h.get? b = some o → h'.get? b = some o) : At w h' d xs :=
  let ⟨o, es, ep, h1, h2, h3, h4, h5⟩ := m; ⟨o, es, ep, k _ _ h1, h2, h3, h4, h5.keep k⟩
theorem Keyd.take {h : Heap} (ks : Keyd h xs) (i : Nat) : Keyd h (xs.take i) :=
  ⟨fun x hx => ks.is x (List.mem_of_mem_take hx), by rw [List.map_take]; exact ks.one.sublist (List.take_sublist _ _)⟩
theorem put_new {α β : Type} {xs : List (NK × α × β)} {i : Nat} {x : NK × α × β} (nd : (xs.map (·.1)).Nodup) (hi : xs[i]? = some x) : put (xs.take i) x.1 x.2.1 x.2.2 = xs.take (i + 1) := by
  have nn : look (xs.take i) x.1 = none := look_none fun j y hj e => by
    have lt : j < i := by
      have := (List.getElem?_eq_some_iff.mp hj).1
      rw [List.length_take] at this
      omega
    have hj2 : xs[j]? = some y := by rw [← hj, List.getElem?_take_of_lt lt]
    have h1 : (xs.map (·.1))[j]? = some x.1 := by rw [List.getElem?_map, hj2, ← e]; rfl
    have h2 : (xs.map (·.1))[i]? = some x.1 := by rw [List.getElem?_map, hi]; rfl
    have := (List.getElem?_inj (List.getElem?_eq_some_iff.mp h1).1 nd).mp (h1.trans h2.symm)
    omega
  unfold put
  rw [nn, if_neg (by simp), List.take_add_one, hi]
  rfl
/-- dict(a list of pairs), no two keys alike -/
theorem call_dict_rows {items : Array Value} {Ts : Nat → Addr} (hh : A.handled = none) (hu : A.units + 32 < cLine) (ok : PlainSeq "list" s.heap a items ∧ PairItems s.heap items Ts (xs.map fun x => (x.2.1, x.2.2))) (ks : Keyd s.heap xs) (hz : xs.length ≤ sizeLine) {Q : Value → Shared → Prop}
    (q : ∀ h' tk, At w h' s.heap.objs.size xs → (∀ b o, s.heap.get? b = some o → h'.get? b = some o) → Q (.ref s.heap.objs.size) { s with heap := h', toks := tk }) : wpAny (model prog w) A (call (.type "dict") [.ref a]) Q E s := by
  have P := PairArg.list (prog := prog) (w := w) a items Ts (xs.map fun x => (x.2.1, x.2.2))
  refine call_dict_arg P ok fun s₁ e₁ far ok₁ => ?_
  have up : ∀ b o, s.heap.get? b = some o → s₁.heap.get? b = some o := fun b o e => by rw [e₁]; exact Heap.get?_push_of_some _ e
  have new : At w s₁.heap s.heap.objs.size [] := by
    rw [e₁]
    exact ⟨_, #[], 0, Heap.get?_push_size _ rfl, ⟨rfl, rfl, rfl⟩, rfl, rfl, fun _ hx => by simp at hx, List.nodup_nil⟩
  refine updateFrom_arg (A := A.in1) (Tab := fun i h => At w h s.heap.objs.size (xs.take i) ∧ ∀ b o, s.heap.get? b = some o → h.get? b = some o) P .none hh ok₁ far ⟨new, up⟩ (fun _ _ tb => tb.1.lt) ?_ ?_ ?_
  · intro i h h' wr' hd hw tb hk
    have k2 : ∀ b o, s.heap.get? b = some o → h'.get? b = some o := fun b o e => hk b o (fun m => by
      rcases hw b m with z | z
      · cases z
      · rw [up b o e] at z; cases z) (tb.2 b o e)
    obtain ⟨o, es, ep, h1, h2, h3, h4, h5⟩ := tb.1
    exact ⟨⟨o, es, ep, hk _ _ hd h1, h2, h3, h4, (ks.keep k2).take i⟩, k2⟩
  · intro i key v s' Q' E' hi hrel tb _ hQ
    have hrel : (xs.map fun x => (x.2.1, x.2.2))[i]? = some (key, v) := hrel
    rw [List.getElem?_map] at hrel
    obtain ⟨x, hx, ex⟩ := Option.map_eq_some_iff.mp hrel
    cases ex
    have kk := (ks.keep tb.2).at hx
    refine set_md (by show A.units + 1 + 1 + 8 < cLine; omega) tb.1 kk.1 kk.2 (by rw [List.length_take]; omega) fun h' m' sb => hQ h' _ ⟨?_, fun b o e => ?_⟩ sb
    · rw [put_new ks.one hx] at m'
      exact m'
    · exact sb.extBut b o (fun z => by rw [z] at e; exact absurd (Heap.lt_size e) (Nat.lt_irrefl _)) (tb.2 b o e)
  · intro h' tk tb hk
    have e : xs.take (xs.map fun x => (x.2.1, x.2.2)).length = xs := List.take_of_length_le (by rw [List.length_map]; exact Nat.le_refl _)
    rw [e] at tb
    refine ⟨rfl, ?_⟩
    have z := q h' tk tb.1 tb.2
    rw [e₁]
    exact z
end
end MD
end
/-! ### MD5 -/
section
set_option Elab.async false
set_option linter.all false
set_option maxRecDepth 100000
set_option maxHeartbeats 4000000
/-! The same in the layer: dict(list(d.items())), dict(list of pairs), list(d), tuple(d), isinstance. -/
namespace MD
open PySem PySem.Spec PyProof.Rows L2
/-- dict(list(d.items())): a copy -/
def tMCopy (K : PySem.W.Frag) (w : World) (te : TE) : TE := fun σ H Q => te σ H fun x H1 => ∃ a kvs, x = .ref a ∧ H1 a = some (dM w a kvs) ∧ KeysV K H1 kvs ∧ ∀ p, H1 p = none → Q (.ref p) (upd H1 p (dM w p kvs))
section
variable {X : Cx} {e : Expr} {te : TE} {apos cpos pos pos2 p p2 : Pos}
theorem pe_mcopy (hg : Gl X "dict") (hm : X.mg "dict" = none) (hg2 : Gl X "list") (hm2 : X.mg "list" = none) (he : PE X e te) (hc : X.calm = true) (hu : X.A.units + 64 < cLine)
    (hbase : attributeBase e "items" X.env (eval e X.env) = eval e X.env := by rfl) (hline : (apos.endLine == cpos.line) = true := by rfl)
    (hs : starEach [.Call (.Name "list" p2) [.Call (.Attribute e "items" apos) [] [] cpos] [] pos2] X.env = [(false, eval (.Call (.Name "list" p2) [.Call (.Attribute e "items" apos) [] [] cpos] [] pos2) X.env)] := by rfl)
    (hs2 : starEach [.Call (.Attribute e "items" apos) [] [] cpos] X.env = [(false, eval (.Call (.Attribute e "items" apos) [] [] cpos) X.env)] := by rfl) :
    PE X (.Call (.Name "dict" p) [.Call (.Name "list" p2) [.Call (.Attribute e "items" apos) [] [] cpos] [] pos2] [] pos) (tMCopy X.K X.w te) := by
  refine ⟨fun pins s σ H Q I h => ?_⟩
  refine wpAny_Call_Name_kw (ld_blt (u := .type "dict") I hg hm (by decide +kernel) ?_)
  refine PyProof.Rows.callWith_type1 (rest := []) ?_ hs (by rfl)
  rw [hs]
  refine Calls.spliced_cons (wpAny_Call_Name_kw (ld_blt (u := .type "list") I hg2 hm2 (by decide +kernel) ?_))
  refine PyProof.Rows.callWith_type1 (rest := []) ?_ hs2 (by rfl)
  rw [hs2]
  refine Calls.spliced_cons ?_
  refine wpAny_Call_method (T := "dict") (id := "dict.items") hbase rfl hline F.plainAttrs_dict F.slot_dict_items F.type_dict_items (thn (he.run pins s σ H _ I h) fun u s1 ⟨x, H1, I1, rx, a, kvs, ex, ed, ks, q⟩ => ?_)
  subst ex
  obtain rfl : u = Value.ref a := rx
  obtain ⟨hz, hsy, xs, rel, mm⟩ := atM I1 ed ks
  obtain ⟨o, es, ep, h1, h2, h3, h4, h5⟩ := id mm
  have hraw : s1.heap.DictRaw a es ep := ⟨o, h1, h2, h3⟩
  have nes : es.size ≤ sizeLine := by rw [ent_size h4, ← prs_len rel]; exact hz
  have hd := I1.ok.hd hc
  refine ⟨mm.typeIs, fun c e => by cases e; exact ⟨o, h1, h2.2.1⟩, ?_⟩
  have fin : ∀ g : Heap, (∀ b o, s1.heap.get? b = some o → g.get? b = some o) → g.get? s1.heap.objs.size = some { cls := .type "dict_items", data := .fields #[.ref a] } → g.objs.size = s1.heap.objs.size + 1 →
      wpAny (model X.prog X.w) X.A (spliced []) (fun r s' => wpAny (model X.prog X.w) X.A (call (.type "list") (Value.ref s1.heap.objs.size :: r)) (fun v s' => wpAny (model X.prog X.w) X.A (spliced []) (fun r s' => wpAny (model X.prog X.w) X.A (call (.type "dict") (v :: r)) (EP X pins σ Q) X.xe s') X.xe s') X.xe s') X.xe { s1 with heap := g } := fun g up hv hsz => by
    refine Calls.spliced_nil ?_
    refine PySem.W.dil_call (d := a) (es := es) (ep := ep) hd ⟨_, hv, rfl, rfl⟩ (hraw.at fun o e => up _ _ e) nes fun h' tk acc c as up2 hS hl G hacc => ?_
    refine Calls.spliced_nil ?_
    have up3 : ∀ b o, s1.heap.get? b = some o → h'.get? b = some o := fun b o e => up2 b o (up b o e)
    have len : as.length = xs.length := by rw [hl, ent_size h4]
    have ks2 : Keyd h' xs := h5.keep up3
    refine call_dict_rows (s := { s1 with heap := h', toks := tk }) (xs := xs) (items := acc) (Ts := fun j => as.getD j 0) hd (by omega) ⟨⟨_, _, hS, rfl, rfl, rfl⟩, ?_, ?_⟩ ks2 (by rw [← prs_len rel]; exact hz) fun h'' tk2 m2 up4 => ?_
    · rw [List.length_map, ← Array.length_toList, hacc, List.length_map, len]
    · intro j k v hj
      rw [List.getElem?_map] at hj
      obtain ⟨x, hx, ex⟩ := Option.map_eq_some_iff.mp hj
      cases ex
      have lt : j < as.length := by rw [len]; exact (List.getElem?_eq_some_iff.mp hx).1
      have haj : as[j]? = some (as.getD j 0) := by
        rw [List.getD_eq_getElem?_getD, List.getElem?_eq_getElem lt]
        rfl
      refine ⟨?_, .inl ?_⟩
      · rw [← Array.getElem?_toList, hacc, List.getElem?_map, haj]
        rfl
      · obtain ⟨hj2, e⟩ := G.pairs j _ haj
        have z := ent_at h4 j
        rw [Array.getElem?_eq_getElem hj2, hx, Option.map_some] at z
        have z2 := Option.some.inj z
        rw [z2] at e
        exact ⟨_, e, rfl, _, rfl⟩
    · have up5 : ∀ b o, s1.heap.get? b = some o → h''.get? b = some o := fun b o e => up4 b o (up3 b o e)
      have big : s1.heap.objs.size ≤ h'.objs.size := by
        have := Heap.lt_size (up2 _ _ hv)
        exact Nat.le_of_lt this
      have nS : H1 h'.objs.size = none := I1.hok.fresh big
      obtain ⟨o2, es2, ep2, g1, g2, g3, g4, g5⟩ := m2
      have I2 : Inv X pins σ H1 { s1 with heap := h'', toks := tk2 } := I1.kept up5
      refine ⟨.ref h'.objs.size, _, I2.take (h' := h'') (t' := tk2) (fun b ob _ e => e) (I1.fpOk big nS) (TabM.ok ⟨hz, ?_, xs, rel, o2, es2, ep2, g1, g2, g3, g4, g5.one⟩), rfl, q _ nS⟩
      exact beq_eq_false_iff_ne.mpr fun z => by
        have := I1.big
        rw [← z] at this
        exact absurd (Nat.lt_of_lt_of_le this big) (Nat.lt_irrefl _)
  show wpAny _ _ (callWith cpos (.builtin "dict.items") [.ref a] [] []) _ X.xe s1
  exact method_meetsIn F.slot_dict_items F.entry_dict_items rfl (PySem.evalArgs_none ⟨rfl, mm.typeIs, F.args_dict_items_1 _, _, meets_dict_items_raw a hsy, ⟨⟨es, ep, hraw⟩, fin _ (fun b o e => Heap.get?_push_of_some _ e) (Heap.get?_push_size _ rfl) (Heap.size_push ..)⟩⟩)
end
end MD
end
/-! ### MD6 -/
section
set_option Elab.async false
set_option linter.all false
set_option maxRecDepth 100000
set_option maxHeartbeats 4000000
/-! dict(list of pairs), list(d), tuple(d), isinstance. -/
namespace MD
open PySem PySem.Spec PyProof.Rows L2
/-- dict(pairs), no two keys alike -/
def rMDict (K : PySem.W.Frag) (w : World) : List V → Hp → VK → Prop := fun vs H Q => ∃ (a : Addr) (Ts : List Addr) (rows : List Row), vs = [.ref a] ∧ SqL K H a (Ts.map V.ref) ∧ Paired (fun T (r : Row) => SqT K H T [r.2.1, r.2.2]) Ts rows ∧ KeysV K H rows ∧ (rows.map (·.1)).Nodup ∧
  ∀ p, H p = none → Q (.ref p) (upd H p (dM w p rows))
def rMList (w : World) : List V → Hp → VK → Prop := fun vs H Q => ∃ (a : Addr) (kvs : List Row), vs = [.ref a] ∧ H a = some (dM w a kvs) ∧ ∀ p, H p = none → Q (.ref p) (upd H p (.lst (kvs.map (·.2.1))))
theorem rows_of {X : Cx} {pins : List (Addr × Obj)} {σ : L2.St} {H : Hp} {s : Shared} (I : Inv X pins σ H s) : ∀ {Ts : List Addr} {rows : List Row}, Paired (fun T (r : Row) => SqT X.K H T [r.2.1, r.2.2]) Ts rows →
    ∃ xs : List (NK × Value × Value), Prs rows xs ∧ Paired (fun T (x : NK × Value × Value) => s.heap.IsTuple T #[x.2.1, x.2.2]) Ts xs
  | _, _, .nil => ⟨[], .nil, .nil⟩
  | _, _, .cons (b := r) h t => by
    obtain ⟨xs, h1, h2⟩ := rows_of I t
    obtain ⟨its, rv, tp, _⟩ := I.tuple h
    obtain ⟨u1, u2, e, r1, r2⟩ := vals2 rv
    subst e
    exact ⟨(r.1, u1, u2) :: xs, .cons ⟨rfl, r1, r2⟩ h1, .cons tp h2⟩
theorem paired_len {α β : Type} {R : α → β → Prop} : ∀ {xs : List α} {ys : List β}, Paired R xs ys → xs.length = ys.length
  | _, _, .nil => rfl
  | _, _, .cons _ t => by rw [List.length_cons, List.length_cons, paired_len t]
theorem paired_get {α β : Type} {R : α → β → Prop} : ∀ {xs : List α} {ys : List β} {i : Nat} {y : β}, Paired R xs ys → ys[i]? = some y → ∃ x, xs[i]? = some x ∧ R x y
  | _, _, _, _, .nil, e => by simp at e
  | _, _, 0, _, .cons r _, e => by simp at e; subst e; exact ⟨_, rfl, r⟩
  | _, _, i + 1, y, .cons _ t, e => by
    obtain ⟨q, h1, h2⟩ := paired_get (i := i) (y := y) t (by simpa using e)
    exact ⟨q, by simpa using h1, h2⟩
section
variable {X : Cx}
theorem not_sys {X : Cx} {pins : List (Addr × Obj)} {σ : L2.St} {H : Hp} {s : Shared} (I : Inv X pins σ H s) {a : Addr} (h : s.heap.objs.size ≤ a) : (a == sysModules) = false := beq_eq_false_iff_ne.mpr fun z => by
  have := I.big
  rw [← z] at this
  exact absurd (Nat.lt_of_lt_of_le this h) (Nat.lt_irrefl _)
theorem call_mdict (hc : X.calm = true) (hu : X.A.units + 64 < cLine) : CallR X (.type "dict") (rMDict X.K X.w) := by
  intro pins s σ H vs us Q I r h
  obtain ⟨a, Ts, rows, rfl, hl, hp, ks, nd, q⟩ := h
  obtain ⟨u, rfl, ru⟩ := vals1 r
  obtain rfl : u = Value.ref a := ru
  obtain ⟨its, rv, pl, hz⟩ := I.list hl
  have its2 : its = Ts.map Value.ref := by
    have all : ∀ {Ts : List Addr} {its : List Value}, Vals (Ts.map V.ref) its → its = Ts.map Value.ref := by
      intro Ts
      induction Ts with
      | nil => intro its r; rw [List.map_nil] at r; cases r; rfl
      | cons c cs ih =>
        intro its r
        rw [List.map_cons] at r
        cases r with
        | cons h t => rw [ih t, List.map_cons]; congr 1
    exact all rv
  obtain ⟨xs, rel, tps⟩ := rows_of I hp
  obtain ⟨o, n, ho, hcl, hdi, hda⟩ := pl
  have len : Ts.length = xs.length := paired_len tps
  have lz : xs.length ≤ sizeLine := by rw [List.length_map] at hz; rw [← len]; exact hz
  refine call_dict_rows (xs := xs) (items := its.toArray) (Ts := fun j => Ts.getD j 0) (I.ok.hd hc) (by omega) ⟨⟨o, n, ho, hcl, hdi, hda⟩, ?_, ?_⟩ ⟨keysU I rel ks, by rw [← prs_keys rel]; exact nd⟩ lz fun h' tk m up => ?_
  · rw [List.size_toArray, its2, List.length_map, List.length_map, len]
  · intro j k v hj
    rw [List.getElem?_map] at hj
    obtain ⟨x, hx, ex⟩ := Option.map_eq_some_iff.mp hj
    cases ex
    obtain ⟨T, hT, ht⟩ := paired_get tps hx
    have e : Ts.getD j 0 = T := by rw [List.getD_eq_getElem?_getD, hT]; rfl
    dsimp only
    rw [e]
    refine ⟨?_, .inl ht⟩
    rw [List.getElem?_toArray, its2, List.getElem?_map, hT]
    rfl
  · obtain ⟨o2, es2, ep2, g1, g2, g3, g4, g5⟩ := m
    have nS : H s.heap.objs.size = none := I.hok.fresh (Nat.le_refl _)
    have I2 : Inv X pins σ H { s with heap := h', toks := tk } := I.kept up
    exact ⟨.ref s.heap.objs.size, _, I2.take (h' := h') (t' := tk) (fun b ob _ e => e) (I.fpOk (Nat.le_refl _) nS) (TabM.ok ⟨by rw [prs_len rel]; exact lz, not_sys I (Nat.le_refl _), xs, rel, o2, es2, ep2, g1, g2, g3, g4, g5.one⟩), rfl, q _ nS⟩
theorem call_mlist (hc : X.calm = true) : CallR X (.type "list") (rMList X.w) := by
  intro pins s σ H vs us Q I r h
  obtain ⟨a, kvs, rfl, ed, q⟩ := h
  obtain ⟨u, rfl, ru⟩ := vals1 r
  obtain rfl : u = Value.ref a := ru
  obtain ⟨hz, hsy, xs, rel, o, es, ep, h1, h2, h3, h4, h5⟩ := tab_of I ed
  have lz : es.size = kvs.length := by rw [ent_size h4, prs_len rel]
  refine PySem.W.kdl_call (KdlSrc.rawDict (prog := X.prog) (w := X.w) (es := es) (ep := ep) hsy) (I.ok.hd hc) ⟨o, h1, h2, h3⟩ (by rw [lz]; exact hz) fun h' tk acc c up hS hacc => ?_
  have nS : H s.heap.objs.size = none := I.hok.fresh (Nat.le_refl _)
  have I2 : Inv X pins σ H { s with heap := h', toks := tk } := I.kept up
  have vals : ∀ {kvs : List Row} {xs : List (NK × Value × Value)}, Prs kvs xs → Vals (kvs.map (·.2.1)) (xs.map (·.2.1)) := by
    intro kvs xs r
    induction r with
    | nil => exact .nil
    | cons r _ ih => exact .cons r.2.1 ih
  have eacc : acc.toList = xs.map (·.2.1) := by
    refine List.ext_getElem? fun j => ?_
    rw [Array.getElem?_toList, List.getElem?_map]
    cases hj : xs[j]? with
    | none =>
      have z := List.getElem?_eq_none_iff.mp hj
      have := hacc.1
      rw [Option.map_none, Array.getElem?_eq_none (by rw [this, ent_size h4]; exact z)]
    | some x =>
      have lt : j < acc.size := by rw [hacc.1, ent_size h4]; exact (List.getElem?_eq_some_iff.mp hj).1
      obtain ⟨hi, e⟩ := hacc.2 j _ (Array.getElem?_eq_getElem lt)
      have z := ent_at h4 j
      rw [Array.getElem?_eq_getElem hi, hj, Option.map_some] at z
      rw [Array.getElem?_eq_getElem lt, e, Option.some.inj z]
      rfl
  exact ⟨.ref s.heap.objs.size, _, I2.take (o := .lst (kvs.map (·.2.1))) (h' := h') (t' := tk) (fun b ob _ e => e) (I.fpOk (Nat.le_refl _) nS) ⟨by rw [List.length_map]; exact hz, acc.toList, c, by rw [eacc]; exact vals rel, hS⟩, rfl, q _ nS⟩
end
/-- isinstance(x, T): x such a dict, locked or not, or a value of another kind -/
def rIsiM (K : PySem.W.Frag) (w : World) : List V → Hp → VK → Prop := fun vs H Q => rIsi K vs H Q ∨ ∃ (a : Addr) (kvs : List Row) (n : String) (b : Bool), vs = [.ref a, .ty n] ∧ (H a = some (dM w a kvs) ∨ ∃ o, H a = some (.frz o (dM w a kvs))) ∧ PySem.W.kitOne K (.type "dict") (.type n) = some b ∧ Q (.bl b) H
theorem call_isiM {X : Cx} : CallR X (.builtin "isinstance") (rIsiM X.K X.w) := by
  intro pins s σ H vs us Q I r h
  rcases h with h | ⟨a, kvs, n, b, rfl, ha, e, q⟩
  · exact call_isi pins s σ H vs us Q I r h
  · obtain ⟨u1, u2, rfl, r1, r2⟩ := vals2 r
    obtain rfl : u1 = Value.ref a := r1
    obtain rfl : u2 = Value.type n := r2
    have ty : ∃ o, s.heap.get? a = some o ∧ o.cls = .type "dict" := by
      rcases ha with ha | ⟨o, ha⟩
      · obtain ⟨_, _, _, _, o, _, _, h1, h2, _⟩ := tab_of I ha
        exact ⟨o, h1, h2.1⟩
      · obtain ⟨_, h1, h2, _⟩ := frzM I ha
        exact ⟨o, h1, h2.1⟩
    exact PySem.W.kia_one PySem.W.kitx_dict I.kIn ty e (fun z => nomatch z) fun tk => ⟨.bl b, H, I.tok tk, rfl, q⟩
end MD
end
/-! ### SR0 -/
section
set_option Elab.async false
set_option linter.all false
set_option maxRecDepth 100000
set_option maxHeartbeats 4000000
/-! sorted(d, key=lambda pair: repr(pair)) of a dict of mixed keys. -/
namespace SR
open PySem PySem.Calls PyProof.Rows PySem.W
section
variable {P : Program} {w : World} {A : Around} {s : Shared} {f c' : Addr} {q : Str} {params : Arguments} {scope : Scope} {pm ctv : Value} {mg mb : Str → Option Value} {p1 p2 p3 : Pos}
abbrev sPair : Str := "pair"
abbrev sRepr : Str := "repr"
abbrev keyB (p1 p2 p3 : Pos) : Expr := .Call (.Name "repr" p1) [.Name "pair" p2] [] p3
/-- repr of data that is no dict -/
theorem repr_any {h₀ : Heap} {v : Value} {d : PyData} {as : List Addr} {Q : Value → Shared → Prop} {E : Value → Shared → Prop} (r : Reads h₀ v d as) (hk : ∀ b o, h₀.get? b = some o → s.heap.get? b = some o) (sh : d.showable = true) (nd : sysModules ∉ as) (gd : A.guards = some []) (hu : A.units + (d.depth + 1) < cLine) (hz : d.shown.length ≤ sizeLine)
    (q : ∀ h' u tk, (∀ b o, s.heap.get? b = some o → h'.get? b = some o) → Q (.str d.shown u) { s with heap := h', toks := tk }) : wpAny (model P w) A (call (.builtin "repr") [v]) Q E s := by
  cases r with
  | none => exact PySem.P.repr_of_none (by simpa [PyData.shown] using q s.heap _ _ fun _ _ e => e)
  | bool b => exact PySem.P.repr_of_bool (by simpa [PyData.shown] using q s.heap _ _ fun _ _ e => e)
  | int i t => exact PySem.P.repr_of_int (by simpa [PyData.showable] using sh) (by simpa [PyData.shown] using q s.heap _ _ fun _ _ e => e)
  | str x t => exact PySem.P.repr_of_str (by simpa [PyData.shown] using q s.heap _ _ fun _ _ e => e) (by simpa [PyData.shown] using hz)
  | list h1 h2 h3 h4 => exact repr_of_reads' (Reads.list h1 h2 h3 h4) sh (fun _ => nd) gd hu hk q hz
  | tuple h1 h2 h3 h4 => exact repr_of_reads' (Reads.tuple h1 h2 h3 h4) sh (fun _ => nd) gd hu hk q hz
  | dict h1 h2 h3 h4 h5 => exact repr_of_reads' (Reads.dict h1 h2 h3 h4 h5) sh (fun _ => nd) gd hu hk q hz
theorem key_code {h₀ : Heap} {v : Value} {d : PyData} {as : List Addr} (room : A.depth < recursionLimit) (hf : s.heap.get? f = some (kla_obj "<lambda>" q params (keyB p1 p2 p3) scope [] pm c' ctv)) (hc : s.heap.CodeRec (.ref c') q)
    (kind : scope.kind = .function) (co : scope.isCoroutine = false) (gen : scope.isGenerator = false) (loc : scope.names.lookup sPair = some NameKind.local) (gl : scope.names.lookup sRepr = some NameKind.globalImplicit)
    (hbind : ∀ v, bindArgs (kla_fn "<lambda>" q params (keyB p1 p2 p3) scope [] pm (.ref c') ctv) ⟨[v], []⟩ = pure [(sPair, v)]) (lim : s.heap.NoLimit) (ng : s.heap.Ns mainGlobals mg) (nb : s.heap.Ns builtinsNs mb) (hm : mg sRepr = none) (hb : mb sRepr = some (.builtin "repr"))
    (r : Reads h₀ v d as) (hk : ∀ b o, h₀.get? b = some o → s.heap.get? b = some o) (sh : d.showable = true) (nd : sysModules ∉ as) (gd : A.guards = some []) (hu : A.units + (d.depth + 80) < cLine) (hz : d.shown.length ≤ sizeLine) :
    codeAny (model P w) A (.call (.ref f) ⟨[v], []⟩) (fun r s' => ∃ v, r = .ok (.ret v) ∧ KeyPure (.str d.shown) s v s') s := by
  refine kla_callFunE room hf rfl co gen rfl hc ?_
  rw [hbind]
  refine wpAny_pure (wpAny_newFunctionEnv_cells kind (fun y hy => .inl ?_) fun env he s1 X => ?_)
  · rw [List.mem_singleton.mp hy]; exact loc
  subst he
  have N := X.toInCall
  obtain ⟨h1, tk, rfl, kp⟩ := X.done
  refine ⟨lim.keeps kp, kla_codeExpr ?_⟩
  have kO : ∀ env : Env, env.scope = scope → env.kindOf sPair = some .local := fun env e => by
    show env.scope.names.lookup sPair = _
    rw [e]; exact loc
  have ns := N.ns
  have name : ∀ {Q : Value → Shared → Prop} {E : Value → Shared → Prop} {B : Around} {tk' : Tok} {pos : Pos}, Q v { s with heap := h1, toks := tk' } →
      wpAny (model P w) B (eval (.Name sPair pos) (newEnv scope s.heap.objs.size mainGlobals (cellsFrom (s.heap.objs.size + 1) scope.names []) (q ++ ".<locals>.") (some f) (.ref c') none builtinsNs)) Q E { s with heap := h1, toks := tk' } := fun h =>
    wpAny_Name (wpAny_loadName_local kind (kO _ rfl) ns (by
      show bindL _ [(sPair, v)] (fun _ => none) sPair = _
      unfold bindL
      simp only [bindL, show (newEnv scope s.heap.objs.size mainGlobals (cellsFrom (s.heap.objs.size + 1) scope.names []) (q ++ ".<locals>.") (some f) (.ref c') none builtinsNs).kindOf sPair = some .local from kO _ rfl]
      simp) h) (by decide)
  refine wpAny_Call_Name_kw (Name_function_global kind (by exact gl) (loadGlobal_builtin (ng.keeps kp) hm (nb.keeps kp) hb ?_) (by decide))
  refine PyProof.Rows.callWith_builtin1 ?_ (by rfl) (by rfl)
  refine spliced_cons (name (spliced_nil ?_))
  refine repr_any (s := { s with heap := h1, toks := tk }) r (fun b o e => kp b o (hk b o e)) sh nd gd ?_ hz fun h' u tk2 up => ?_
  · show A.units + _ + (d.depth + 1) < cLine
    omega
  · exact ⟨_, rfl, h', tk2, rfl, fun b o e => up b o (kp b o e), .str _ _⟩
end
end SR
end
/-! ### NTb -/
section
set_option Elab.async false
set_option linter.all false
set_option maxRecDepth 100000
set_option maxHeartbeats 4000000
/-! Data outlives tables of code objects. -/
namespace K0
open PySem PySem.Spec PyProof.Rows L2 LamX
/-- the heap without its tables -/
def noTab (H : Hp) : Hp := fun b => match H b with
  | some (.tbl _) => none
  | o => o
theorem noTab_some {H : Hp} {b : Addr} {o : HO} (h : H b = some o) (n : ∀ ps, o ≠ .tbl ps) : noTab H b = some o := by
  unfold noTab
  rw [h]
  cases o with
  | tbl ps => exact absurd rfl (n ps)
  | _ => rfl
theorem noTab_of {H : Hp} {b : Addr} {o : HO} (h : noTab H b = some o) : H b = some o ∧ ∀ ps, o ≠ .tbl ps := by
  unfold noTab at h
  cases e : H b with
  | none => rw [e] at h; cases h
  | some u =>
    rw [e] at h
    cases u with
    | tbl ps => cases h
    | _ => cases h; exact ⟨rfl, fun ps z => by cases z⟩
theorem noTab_out {H : Hp} : Same (noTab H) H := fun b o h => (noTab_of h).1
theorem noTab_ext {H H1 : Hp} (e : ExtN H H1) : Same (noTab H) (noTab H1) := fun b o h => noTab_some (e b o (noTab_of h).1 (noTab_of h).2) (noTab_of h).2
theorem sql_noTab {K : PySem.W.Frag} {H : Hp} {a : Addr} {xs : List V} (h : SqL K H a xs) : SqL K (noTab H) a xs := by
  rcases h with (h | ⟨o, h⟩) | h
  · exact .inl (.inl (noTab_some h fun ps z => by cases z))
  · exact .inl (.inr ⟨o, noTab_some h fun ps z => by cases z⟩)
  · exact .inr h
theorem sqt_noTab {K : PySem.W.Frag} {H : Hp} {a : Addr} {xs : List V} (h : SqT K H a xs) : SqT K (noTab H) a xs := by
  rcases h with (h | ⟨o, h⟩) | h
  · exact .inl (.inl (noTab_some h fun ps z => by cases z))
  · exact .inl (.inr ⟨o, noTab_some h fun ps z => by cases z⟩)
  · exact .inr h
mutual
theorem Dv.noTab {K : PySem.W.Frag} {H : Hp} : ∀ (d : PyData) (v : V), Dv K H v d → Dv K (K0.noTab H) v d
  | .none, _, h => by cases h; exact .non
  | .bool b, _, h => by cases h; exact .bl b
  | .int i, _, h => by cases h; exact .int i
  | .str x, _, h => by cases h; exact .str x
  | .list ds, _, h => by cases h with | lst h1 h2 => exact .lst (sql_noTab h1) (DvAll.noTab ds _ h2)
  | .tuple ds, _, h => by cases h with | tup h1 h2 => exact .tup (sqt_noTab h1) (DvAll.noTab ds _ h2)
  | .dict ds, _, h => by cases h with | dic h1 h2 h3 => exact .dic (noTab_some h1 fun ps z => by cases z) h2 (DvAll.noTabKv ds _ h3)
theorem DvAll.noTab {K : PySem.W.Frag} {H : Hp} : ∀ (ds : List PyData) (vs : List V), DvAll K H vs ds → DvAll K (K0.noTab H) vs ds
  | [], _, h => by cases h; exact .nil
  | d :: ds, _, h => by cases h with | cons h1 h2 => exact .cons (Dv.noTab d _ h1) (DvAll.noTab ds _ h2)
theorem DvAll.noTabKv {K : PySem.W.Frag} {H : Hp} : ∀ (ds : List (PyData × PyData)) (vs : List V), DvAll K H vs (ds.map (·.2)) → DvAll K (K0.noTab H) vs (ds.map (·.2))
  | [], _, h => by cases h; exact .nil
  | (k, d) :: ds, _, h => by cases h with | cons h1 h2 => exact .cons (Dv.noTab d _ h1) (DvAll.noTabKv ds _ h2)
end
theorem Dv.extN {K : PySem.W.Frag} {H H1 : Hp} {v : V} {d : PyData} (h : Dv K H v d) (e : ExtN H H1) : Dv K H1 v d := Dv.same noTab_out d v (Dv.same (noTab_ext e) d v (Dv.noTab d v h))
end K0
end
/-! ### SR1 -/
section
set_option Elab.async false
set_option linter.all false
set_option maxRecDepth 100000
set_option maxHeartbeats 4000000
/-! The same in the layer. -/
namespace SR
open PySem PySem.Spec PyProof.Rows L2 LamX MD
open K0 (Dv Fit sysB)
/-- a row and its key as data -/
abbrev RowD := MD.Row × PyData
def tSortRepr (K : PySem.W.Frag) (w : World) (T : List (Addr × Str)) (te : TE) : TE := fun σ H Q => te σ H fun v H1 => ∃ (a : Addr) (rs : List RowD), v = .ref a ∧ H1 a = some (dM w a (rs.map (·.1))) ∧ (∀ r ∈ rs, Dv K H1 r.1.2.1 r.2 ∧ Fit r.2) ∧ Tabs T H1 ∧
  ∀ (H2 : Hp) (p : Addr) (ys : List RowD), ExtN H1 H2 → Tabs T H2 → ys.Perm rs → H2 p = none → Q (.ref p) (upd H2 p (.lst (ys.map (·.1.2.1))))
theorem each_vals {R : Value → RowD → Prop} (hR : ∀ v r, R v r → RelV r.1.2.1 v) : ∀ {out : List Value} {ys : List RowD}, PySem.W.EachIs R out ys → Vals (ys.map (·.1.2.1)) out
  | _, _, .nil => .nil
  | _, _, .cons h r => .cons (hR _ _ h) (each_vals hR r)
section
variable {X : Cx} {T : List (Addr × Str)} {c P : Addr} {e : Expr} {te : TE} {params : Arguments} {scope : Scope} {p p1 p2 p3 pos lpos kpos : Pos}
theorem pe_sortedRepr (hg : Gl X "sorted") (hm : X.mg "sorted" = none) (hl : X.mg "repr" = none) (he : PE X e te) (TB : TabB X.base X.mg c P) (hcode : X.env.code = .ref c) (hmT : (P, X.env.qual ++ "<lambda>") ∈ T) (hu : ∀ q ∈ T, q.1 = P → q.2 = X.env.qual ++ "<lambda>")
    (hr : Room 4 X.A) (hu2 : X.A.units + 200 < cLine) (gd : X.A.guards = some []) (b : sysB X.K = true) (hc : X.calm = true) (hdef : defaultsOf params X.env = ([], [])) (kind : scope.kind = .function) (co : scope.isCoroutine = false) (gen : scope.isGenerator = false) (hn : scope.names = [(sPair, NameKind.local), (sRepr, NameKind.globalImplicit)])
    (hbind : ∀ (q : Str) (pm cv ctv v : Value), bindArgs (PySem.W.kla_fn "<lambda>" q params (keyB p1 p2 p3) scope [] pm cv ctv) ⟨[v], []⟩ = pure [(sPair, v)])
    (hst : starEach [e] X.env = (false, eval e X.env) :: starEach [] X.env := by rfl) (hb1 : backTo pos (starEach [e] X.env) = (false, eval e X.env) :: backTo pos (starEach [] X.env) := by rfl) (hpl : (backTo pos (starEach [e] X.env)).any (·.1) = false := by rfl) :
    PE X (.Call (.Name "sorted" p) [e] [⟨some "key", .Lambda params (keyB p1 p2 p3) scope lpos, kpos⟩] pos) (tSortRepr X.K X.w T te) := by
  refine ⟨fun pins s σ H Q I h => ?_⟩
  refine wpAny_Call_Name_kw (ld_blt (u := .builtin "sorted") I hg hm (by decide +kernel) ?_)
  refine PyProof.Rows.callWith_kw (thn ((pa_cons he pa_nil hst).run pos pins s σ H (fun vs H1 => match vs with
    | [v] => ∃ (a : Addr) (rs : List RowD), v = .ref a ∧ H1 a = some (dM X.w a (rs.map (·.1))) ∧ (∀ r ∈ rs, Dv X.K H1 r.1.2.1 r.2 ∧ Fit r.2) ∧ Tabs T H1 ∧ ∀ (H2 : Hp) (p : Addr) (ys : List RowD), ExtN H1 H2 → Tabs T H2 → ys.Perm rs → H2 p = none → Q (.ref p) (upd H2 p (.lst (ys.map (·.1.2.1))))
    | _ => False) I h) fun us s1 ⟨vs, H1, I1, r1, q1⟩ => ?_) hb1 hpl (by rfl) (by rfl)
  match vs, q1, r1 with
  | [v], ⟨a, rs, ev, ha, hz, hT, q⟩, r1 =>
  subst ev
  obtain rfl := Vals.ref1 r1
  show wpAny _ _ (evalAll [do let v ← eval (.Lambda params (keyB p1 p2 p3) scope lpos) X.env; standAt pos; pure v]) _ _ _
  have hclo : cloFrom X.env.cells scope.names [] = [] := by rw [hn]; rfl
  refine wpAny_evalAll_cons (wpAny_bind (lam_make2 I1 TB hcode hmT hu hT hdef (fun y hy e => ?_) fun f c' pm ctv H2 s2 I2 eN T2 hf hfn hfr hco => wpAny_bind (wpAny_standAt (wpAny_pure (wpAny_evalAll_nil ?_)))))
  · rw [hn] at hy
    rcases List.mem_cons.mp hy with rfl | hy
    · cases e
    · rw [List.mem_singleton.mp hy] at e; cases e
  rw [hclo] at hf
  have ha2 : H2 a = some (dM X.w a (rs.map (·.1))) := eN a _ ha (fun ps e => nomatch e)
  show wpAny _ _ (call (.builtin "sorted") [.ref a] [("key", .ref f)]) _ _ _
  obtain ⟨hzl, hsy, xs, rel, o, es, ep, g1, g2, g3, g4, g5⟩ := tab_of I2 ha2
  obtain ⟨⟨oc, cvs, ct, hoc, hdc, hvc⟩, _, _⟩ := I2.hok c' _ hco
  obtain ⟨mb, hmb1, hmb2⟩ := I2.mod.blt
  have reads : ∀ (r : RowD) (v : Value), r ∈ rs → RelV r.1.2.1 v → ∃ as, Reads s2.heap v r.2 as ∧ sysModules ∉ as := fun r v m rv => Dv.reads I2 b r.2 _ _ ((hz r m).1.extN eN) rv
  have sz : es.size = rs.length := by rw [ent_size g4, ← prs_len rel, List.length_map]
  have rl : rs.length ≤ sizeLine := by rw [List.length_map] at hzl; exact hzl
  have each : ∀ (rs' : List RowD) (xs' : List (NK × Value × Value)), (∀ r ∈ rs', r ∈ rs) → Prs (rs'.map (·.1)) xs' → PySem.W.EachIs (fun v (r : RowD) => RelV r.1.2.1 v ∧ r ∈ rs) (xs'.map (·.2.1)) rs' := by
    intro rs'
    induction rs' with
    | nil => intro xs' _ h; cases h; exact .nil
    | cons r rs' ih =>
      intro xs' sub h
      rw [List.map_cons] at h
      cases h with
      | cons h1 h2 => exact .cons ⟨h1.2.1, sub r List.mem_cons_self⟩ (ih _ (fun y hy => sub y (List.mem_cons_of_mem _ hy)) h2)
  have ea := each rs xs (fun _ m => m) rel
  refine call_function_entry_kw kind_sorted plain_sorted entry_sorted (ksk_s1 _ _) ?_
  unfold Builtin.«sorted»
  refine wpAny_bind (m := checkCount "sorted" 1 1 _) (wpAny_pure ?_)
  refine wpAny_bind (PySem.W.kdu_collect (A := X.A.in1) (KdlSrc.rawDict (prog := X.prog) (w := X.w) (es := es) (ep := ep) hsy) (I2.ok.hd hc) ⟨o, g1, g2, g3⟩ (by rw [sz]; exact rl) fun h' tk acc hk hacc => ?_)
  have eacc : acc.toList = xs.map (·.2.1) := by
    refine List.ext_getElem? fun j => ?_
    rw [Array.getElem?_toList, List.getElem?_map]
    cases hj : xs[j]? with
    | none =>
      have z := List.getElem?_eq_none_iff.mp hj
      have := hacc.1
      rw [Option.map_none, Array.getElem?_eq_none (by rw [this, ent_size g4]; exact z)]
    | some x =>
      have lt : j < acc.size := by rw [hacc.1, ent_size g4]; exact (List.getElem?_eq_some_iff.mp hj).1
      obtain ⟨hi, e⟩ := hacc.2 j _ (Array.getElem?_eq_getElem lt)
      have z := ent_at g4 j
      rw [Array.getElem?_eq_getElem hi, hj, Option.map_some] at z
      rw [Array.getElem?_eq_getElem lt, e, Option.some.inj z]
      rfl
  have xl : xs.length = rs.length := by rw [← ent_size g4, sz]
  rw [eacc]
  refine wpAny_bind (wpAny_newList ?_ (by rw [List.length_map, xl]; exact rl))
  have hoL : (h'.push (seqObj "list" (xs.map (·.2.1)).toArray 0)).get? h'.objs.size = some (seqObj "list" (xs.map (·.2.1)).toArray 0) := Heap.get?_push_size _ rfl
  show wpAny _ _ _ _ _ { s2 with heap := h'.push (seqObj "list" (xs.map (·.2.1)).toArray 0), toks := tk }
  have up : ∀ {g : Heap}, PySem.W.KeepsBut h'.objs.size (h'.push (seqObj "list" (xs.map (·.2.1)).toArray 0)) g → ∀ b o, s2.heap.get? b = some o → g.get? b = some o := fun {g} kp b o q =>
    kp b o (Nat.ne_of_lt (Heap.lt_size (hk b o q))) (Heap.get?_push_of_some _ (hk b o q))
  refine wpAny_bind (wpAny_holding (wpAny_call_entry_kw slot_list_sort ⟨_, hoL, rfl⟩ entry_list_sort ?body (ksk_l1 _ _)))
  case body =>
    rw [ksk_t1]
    refine PySem.W.keyH_tree (s := { s2 with heap := h'.push (seqObj "list" (xs.map (·.2.1)).toArray 0), toks := tk }) (kz := rs.map fun r => PyData.str r.2.shown) hoL ?_ ?_ ?_ ?_ ?_ (PySem.W.keyH_turns (s := { s2 with heap := h'.push (seqObj "list" (xs.map (·.2.1)).toArray 0), toks := tk }) ea ?_) ?_
    · rw [List.length_map, List.length_map, xl]
    · rw [List.length_map, xl]; exact rl
    · intro d hd d' hd'
      obtain ⟨y, _, rfl⟩ := List.mem_map.mp hd
      obtain ⟨z, _, rfl⟩ := List.mem_map.mp hd'
      rfl
    · refine .inr fun d hd => ?_
      obtain ⟨y, _, rfl⟩ := List.mem_map.mp hd
      exact ⟨fun z => (nomatch z), fun xs z => (nomatch z)⟩
    · intro d hd
      obtain ⟨y, _, rfl⟩ := List.mem_map.mp hd
      show X.A.units + 1 + 1 + 0 < cLine
      omega
    · rintro v x ⟨rv, hx⟩ _ h tk2 kp
      obtain ⟨as, rd, nos⟩ := reads x v hx rv
      have ft := (hz x hx).2
      have dp := ft.depth
      have room : X.A.in1.in1.depth < recursionLimit := hr.depth
      refine wpAny_call (codeAny_mono (key_code (s := { s2 with heap := h, toks := tk2 }) (mg := X.mg) (mb := mb) room (up kp _ _ hf) ⟨c', oc, cvs, ct, rfl, up kp _ _ hoc, hdc, hvc⟩ kind co gen (by rw [hn]; rfl) (by rw [hn]; rfl) (fun v => hbind _ _ _ _ v) ?_ ?_ ?_ hl ?_ rd (fun b o e => up kp b o e) ft.able nos gd ?_ ft.size) fun r s' hq => ?_)
      · exact (I2.mod.nolimit.keeps I2.bk).keeps (fun b o e => up kp b o e)
      · exact (I2.mod.glob.keeps I2.bk).keeps (fun b o e => up kp b o e)
      · exact (hmb1.keeps I2.bk).keeps (fun b o e => up kp b o e)
      · exact (hmb2 _ (by decide)).trans (by decide +kernel)
      · show X.A.units + 1 + 1 + (x.2.depth + 80) < cLine
        omega
      · obtain ⟨v, rfl, hk2⟩ := hq
        exact hk2
    · intro h2 tk2 out cc kp hout ko
      have eo := PySem.W.keyedOut_each (fun r : RowD => PyData.str r.2.shown) ko ea
      have pm2 : (rs.mergeSort (PySem.W.dataLe false fun r : RowD => PyData.str r.2.shown)).Perm rs := List.mergeSort_perm _ _
      have so := each_vals (fun v r h => h.1) eo
      have hlen : ((rs.mergeSort (PySem.W.dataLe false fun r : RowD => PyData.str r.2.shown)).map (·.1.2.1)).length ≤ sizeLine := by
        rw [List.length_map, pm2.length_eq]
        exact rl
      have I3 : Inv X pins σ H2 { s2 with heap := h', toks := tk } := I2.kept hk
      have nS : H2 h'.objs.size = none := I3.hok.fresh (Nat.le_refl _)
      have I4 : Inv X pins σ (upd H2 h'.objs.size (.lst ((rs.mergeSort (PySem.W.dataLe false fun r : RowD => PyData.str r.2.shown)).map (·.1.2.1)))) { s2 with heap := h2, toks := tk2 } :=
        I3.laid (o := .lst ((rs.mergeSort (PySem.W.dataLe false fun r : RowD => PyData.str r.2.shown)).map (·.1.2.1))) (h' := h2) (t' := tk2) (fun b u e => kp b u (Nat.ne_of_lt (Heap.lt_size e)) (Heap.get?_push_of_some _ e)) (Nat.le_refl _) ⟨hlen, _, cc, so, hout⟩
      exact ⟨_, rfl, wpAny_pure ⟨_, rfl, .ref h'.objs.size, _, I4, rfl, q _ _ _ eN T2 pm2 nS⟩⟩
end
end SR
end
/-! ### O0 -/
section
set_option Elab.async false
set_option linter.all false
set_option maxRecDepth 100000
set_option maxHeartbeats 4000000
/-! Displays of data: what they evaluate to (Ev1, EvN), beside the dice at p; a text repeated; the drawn odd value. -/
namespace K0
open PySem PySem.Spec PyProof.Rows L2
def rep (z : Str) (n : Int) : Str := ⟨(List.replicate n.toNat z.cps).foldl (· ++ ·) #[]⟩
theorem fold_size {α : Type} (cs : Array α) : ∀ (k : Nat) (acc : Array α), ((List.replicate k cs).foldl (· ++ ·) acc).size = acc.size + k * cs.size
  | 0, acc => by simp
  | k + 1, acc => by
    rw [List.replicate_succ, List.foldl_cons, fold_size cs k, Array.size_append, Nat.succ_mul]
    omega
theorem rep_len (z : Str) (n : Int) : (rep z n).length = n.toNat * z.length := by
  show ((List.replicate n.toNat z.cps).foldl (· ++ ·) #[]).size = _
  rw [fold_size]
  show 0 + _ = _
  rw [Nat.zero_add]
  rfl
def rStrMul : R2 := fun x y H Q => ∃ (z : Str) (n : Int), x = .str z ∧ y = .int n ∧ 2 ≤ n ∧ n ≤ 10000 ∧ 1 ≤ z.length ∧ z.length ≤ 1000 ∧ Q (.str (rep z n)) H
theorem op_strMul {X : Cx} : OpR X (binaryOp .Mult) rStrMul := by
  intro pins s σ H x y v u Q I rx ry h
  obtain ⟨z, n, rfl, rfl, n2, n1, z1, z2, q⟩ := h
  obtain ⟨t, rfl⟩ := rx
  obtain ⟨t', rfl⟩ := ry
  have e2 : (2 : Int) ^ 63 = 9223372036854775808 := by decide
  have hn1 : (n == 1) = false := by simp; omega
  have hz0 : (z.length == 0) = false := by simp; omega
  have big : z.length * n.toNat ≤ 1000 * 10000 := Nat.mul_le_mul z2 (by omega)
  refine PySem.P.mul_str (by simp; omega) (fun _ _ => ?_) (fun _ _ => ?_) ?_
  · have h1 : (1000 : Int) ≤ (2 ^ 63 - 1) / n := (Int.le_ediv_iff_mul_le (by omega)).mpr (by omega)
    omega
  · unfold Builtin.Str.tooLong
    rw [sizeLine_eq]
    exact decide_eq_false (by omega)
  · rw [if_neg (by omega), if_neg (by rw [hn1, hz0]; simp)]
    have hl := rep_len z n
    refine ⟨by show (rep z n).length ≤ sizeLine; rw [hl, Nat.mul_comm, sizeLine_eq]; omega, ?_⟩
    exact ⟨.str (rep z n), H, I.tok _, ⟨_, rfl⟩, q⟩
/-- the heap without what stands at p -/
def hid (p : Addr) (H : Hp) : Hp := fun b => if b = p then none else H b
theorem hid_ne {p b : Addr} {H : Hp} (h : b ≠ p) : hid p H b = H b := if_neg h
theorem hid_same {p : Addr} {H H' : Hp} (h : ∀ b o, b ≠ p → H b = some o → H' b = some o) : Same (hid p H) (hid p H') := fun b o e => by
  by_cases hb : b = p
  · subst hb
    have z : (none : Option HO) = some o := (if_pos rfl).symm.trans e
    cases z
  · rw [hid_ne hb] at e ⊢
    exact h b o hb e
theorem hid_out {p : Addr} {H : Hp} : Same (hid p H) H := fun b o e => by
  by_cases hb : b = p
  · subst hb
    have z : (none : Option HO) = some o := (if_pos rfl).symm.trans e
    cases z
  · rw [hid_ne hb] at e
    exact e
theorem same_upd {H : Hp} {q : Addr} {o : HO} (h : H q = none) : Same H (upd H q o) := fun b u e => by
  rw [upd_ne (ne_of_none e h)]
  exact e
def Dice (p : Addr) (H : Hp) : Prop := ∃ a b c, H p = some (dk a b c)
theorem Dice.same {p : Addr} {H H' : Hp} (h : Dice p H) (e : Same H H') : Dice p H' := by
  obtain ⟨a, b, c, z⟩ := h
  exact ⟨a, b, c, e _ _ z⟩
theorem Dice.ne {p q : Addr} {H : Hp} (h : Dice p H) (n : H q = none) : q ≠ p := by
  obtain ⟨a, b, c, z⟩ := h
  exact (ne_of_none z n).symm
theorem DvAll.length {K : PySem.W.Frag} {H : Hp} : ∀ {xs : List V} {ds : List PyData}, DvAll K H xs ds → xs.length = ds.length
  | _, [], h => by cases h; rfl
  | _, d :: ds, h => by cases h with | cons h1 h2 => rw [List.length_cons, List.length_cons, DvAll.length h2]
theorem DvAll.get {K : PySem.W.Frag} {H : Hp} : ∀ {ds : List PyData} {xs : List V} {i : Nat} {x : V}, DvAll K H xs ds → xs[i]? = some x → ∃ d, ds[i]? = some d ∧ Dv K H x d
  | [], _, i, x, h, e => by cases h; simp at e
  | d :: ds, _, 0, x, h, e => by cases h with | cons h1 h2 => simp at e; subst e; exact ⟨d, rfl, h1⟩
  | d :: ds, _, i + 1, x, h, e => by cases h with | cons h1 h2 => exact DvAll.get (i := i) h2 (by simpa using e)
theorem DvAll.append {K : PySem.W.Frag} {H : Hp} : ∀ {ds es : List PyData} {xs ys : List V}, DvAll K H xs ds → DvAll K H ys es → DvAll K H (xs ++ ys) (ds ++ es)
  | [], _, _, _, h, g => by cases h; exact g
  | d :: ds, _, _, _, h, g => by cases h with | cons h1 h2 => exact .cons h1 (DvAll.append h2 g)
section
variable {K : PySem.W.Frag} {p : Addr} {σ : L2.St}
def Ev1 (K : PySem.W.Frag) (p : Addr) (σ : L2.St) (te : TE) (d : PyData) : Prop := ∀ H Q, Dice p H → (∀ x H', Same H H' → Dv K (hid p H') x d → Q x H') → te σ H Q
def EvN (K : PySem.W.Frag) (p : Addr) (σ : L2.St) (ta : TA) (ds : List PyData) : Prop := ∀ H Q, Dice p H → (∀ xs H', Same H H' → DvAll K (hid p H') xs ds → Q xs H') → ta σ H Q
theorem ev_non : Ev1 K p σ (tC .non) .none := fun H Q _ q => q _ H (Same.refl H) .non
theorem ev_bl {b : Bool} : Ev1 K p σ (tC (.bl b)) (.bool b) := fun H Q _ q => q _ H (Same.refl H) (.bl b)
theorem ev_int {i : Int} : Ev1 K p σ (tC (.int i)) (.int i) := fun H Q _ q => q _ H (Same.refl H) (.int i)
theorem ev_str {z : Str} : Ev1 K p σ (tC (.str z)) (.str z) := fun H Q _ q => q _ H (Same.refl H) (.str z)
theorem ev_neg {i : Int} : Ev1 K p σ (tUn (rU fun i => .int (-i)) (tC (.int i))) (.int (-i)) := fun H Q _ q => ⟨i, rfl, q _ H (Same.refl H) (.int _)⟩
theorem ev_pow {i j : Int} (h : PowBits i j) : Ev1 K p σ (tOp (rI PowBits fun i j => .int (i ^ j.toNat)) (tC (.int i)) (tC (.int j))) (.int (i ^ j.toNat)) := fun H Q _ q => ⟨i, j, rfl, rfl, h, q _ H (Same.refl H) (.int _)⟩
theorem ev_rep {z : Str} {n : Int} (h : 2 ≤ n ∧ n ≤ 10000 ∧ 1 ≤ z.length ∧ z.length ≤ 1000) : Ev1 K p σ (tOp rStrMul (tC (.str z)) (tC (.int n))) (.str (rep z n)) := fun H Q _ q => ⟨z, n, rfl, rfl, h.1, h.2.1, h.2.2.1, h.2.2.2, q _ H (Same.refl H) (.str _)⟩
theorem ev_nil : EvN K p σ tNil [] := fun H Q _ q => q _ H (Same.refl H) .nil
theorem ev_cons {te : TE} {ta : TA} {d : PyData} {ds : List PyData} (h : Ev1 K p σ te d) (g : EvN K p σ ta ds) : EvN K p σ (tCons te ta) (d :: ds) := fun H Q D q =>
  h H _ D fun x H1 e1 v1 => g H1 _ (D.same e1) fun xs H2 e2 v2 => q _ H2 (e1.trans e2) (.cons (v1.same (hid_same fun b o _ z => e2 b o z)) v2)
theorem ev_tup {ta : TA} {ds : List PyData} (g : EvN K p σ ta ds) (hl : ds.length ≤ 1000) : Ev1 K p σ (tTup ta) (.tuple ds) := fun H Q D q =>
  g H _ D fun xs H1 e1 v1 => ⟨by rw [v1.length]; exact Nat.le_of_lt (small1000 hl), fun a na => q _ _ (e1.trans (same_upd na)) (.tup (xs := xs) (.of (by rw [hid_ne ((D.same e1).ne na), upd_same])) (v1.same (hid_same fun b o _ z => same_upd na b o z)))⟩
theorem ev_lst {ta : TA} {ds : List PyData} (g : EvN K p σ ta ds) (hl : ds.length ≤ 1000) : Ev1 K p σ (tLst ta) (.list ds) := fun H Q D q =>
  g H _ D fun xs H1 e1 v1 => ⟨by rw [v1.length]; exact Nat.le_of_lt (small1000 hl), fun a na => q _ _ (e1.trans (same_upd na)) (.lst (xs := xs) (.of (by rw [hid_ne ((D.same e1).ne na), upd_same])) (v1.same (hid_same fun b o _ z => same_upd na b o z)))⟩
theorem ev_dict0 : Ev1 K p σ tDNewK (.dict []) := fun H Q D q => fun a na => q _ _ (same_upd na) (.dic (kvs := []) (by rw [hid_ne (D.ne na), upd_same]) rfl .nil)
theorem ev_dict1 {k : Str} {i : Int} : Ev1 K p σ (tDisp [(tC (.str k), tC (.int i))]) (.dict [(.str k, .int i)]) := fun H Q D q => fun a na => by
  refine ⟨upd_same, [(.inr k, .int i)], rfl, (by show 1 ≤ 15; decide), ?_⟩
  rw [upd_upd]
  exact q _ _ (same_upd na) (.dic (kvs := [(.inr k, .int i)]) (by rw [hid_ne (D.ne na), upd_same]; rfl) rfl (.cons (.int i) .nil))
end
end K0
end
/-! ### DC -/
section
set_option Elab.async false
set_option linter.all false
set_option maxRecDepth 100000
set_option maxHeartbeats 4000000
/-! {k: v for target in iter}: a new dict of mixed keys. -/
namespace MD
open PySem PySem.Spec PyProof.Rows L2
/-- reading: one for, no test; U: what holds by the turn and a measure -/
def tMDc (K : PySem.W.Frag) (w : World) (wi : TI) (g : TG) (tk tv : TE) (vs : List Nat) : TE := fun σ H Q => wi σ H fun J Ha => ∀ D, Ha D = none → ∃ U : Nat → Nat → Hp → Prop, (∃ m, U 0 m (upd Ha D (dM w D []))) ∧ ∀ i m Hi, U i m Hi →
  (J.stop i Hi ∧ Q (.ref D) Hi) ∨ (J.go i Hi ∧ ∃ Nx : Hp → Prop, (∀ Hn, Nx Hn → ∃ m', m' < m ∧ U (i + 1) m' Hn) ∧ ∀ x Hx, J.yld i Hi x Hx → g x (wipe σ vs) Hx fun σt Ht => wipe σt vs = wipe σ vs ∧
    tk σt Ht fun y Hy => tv σt Hy fun z Hz => ∃ kvs k, Hz D = some (dM w D kvs) ∧ KeysV K Hz kvs ∧ KeyV K Hz y k ∧ k.depth ≤ 8 ∧ kvs.length < sizeLine ∧ Nx (upd Hz D (dM w D (put kvs k y z))))
/-- one entry more -/
theorem m_dictSet {X : Cx} {pins : List (Addr × Obj)} {σ : L2.St} {H : Hp} {s : Shared} {a : Addr} {k : NK} {kvs : List MD.Row} {u v : V} {u' v' : Value} {E : Value → Shared → Prop} {Q : Unit → Shared → Prop} (hu : X.A.units + 64 < cLine) (I : Inv X pins σ H s) (e : H a = some (dM X.w a kvs)) (ks : KeysV X.K H kvs) (n : KeyV X.K H u k) (dk : k.depth ≤ 8)
    (ru : RelV u u') (rv : RelV v v') (l : kvs.length < sizeLine) (h : ∀ s', Inv X pins σ (upd H a (dM X.w a (put kvs k u v))) s' → Q () s') : wpAny (model X.prog X.w) X.A (dictSet a u' v') Q E s := by
  obtain ⟨z, hs, xs, r, m⟩ := atM I e ks
  refine set_md (by omega) m (key_is I _ _ _ n ru) dk (by rw [← prs_len r]; exact z) fun h' ⟨o, es, ep, h1, h2, h3, h4, h5⟩ sb => h _ ?_
  exact d_write I (by rw [e]; exact True.intro) sb ⟨o, h1⟩ (TabM.ok ⟨Nat.le_trans put_len l, hs, _, prs_put r ru rv, o, es, ep, h1, h2, h3, h4, h5.one⟩)
theorem pe_mdc {X : Cx} {kx vx tg iter : Expr} {scope : Scope} {own : List (Str × Nat)} {pos : Pos} {wi : TI} {g : TG} {tk tv : TE} (calm : X.calm = true) (nod : X.N.Nodup) (hu : X.A.units + 64 < cLine) (walk : PI X tg iter wi) (blk : BlkOk X.N X.env.scope scope own)
    (tgt : ∀ (s : Shared) (H : Hp) (C : Addr) (cl : List (Str × Addr)) (fp : List Addr), PG (X.blk s H scope (compEnvC scope cl C X.env) fp) tg g)
    (key : ∀ (s : Shared) (H : Hp) (C : Addr) (cl : List (Str × Addr)) (fp : List Addr), PE (X.blk s H scope (compEnvC scope cl C X.env) fp) kx tk)
    (val : ∀ (s : Shared) (H : Hp) (C : Addr) (cl : List (Str × Addr)) (fp : List Addr), PE (X.blk s H scope (compEnvC scope cl C X.env) fp) vx tv) (fold : ∀ x, foldedSetIterable iter X.env x = pure x := by intro _; rfl) :
    PE X (.DictComp kx vx [⟨tg, iter, [], 0⟩] scope pos) (tMDc X.K X.w wi g tk tv (own.map (·.2))) := by
  refine ⟨fun pins s σ H Q inv rd => ?_⟩
  rw [arm_eval_DictComp]
  have cellsThere : ∀ y ∈ scope.names, y.2 = .free → ∃ c, X.env.cells.lookup y.1 = some c := fun y hy z => (blk.free y hy z).elim (fun q => inv.ok.has _ (.inl q)) fun q => inv.ok.has _ (.inr q)
  refine wpAny_comprehension_free (use := none) rfl fold (closure_ok cellsThere) blk.kind (fun y hy z => by rw [blk.uniq y hy, z]) (thn (walk.run pins s σ H _ inv rd) fun itv sa ha => thn ha fun u sb hb => ?_)
  obtain ⟨I, fp, tn, J, Hb, rfl, ib, T, at0, far, q⟩ := hb
  refine wpAny_newObj_type (newEnv_comp ?_)
  generalize eD : sb.heap.objs.size = D
  have noD : Hb D = none := ib.hok.fresh (Nat.le_of_eq eD)
  obtain ⟨U, ⟨m₀, u₀⟩, turn⟩ := q D noD
  generalize esc : ({ sb with heap := sb.heap.push { cls := .type "dict", data := .dict #[] } } : Shared) = sc
  have hpc : sc.heap = sb.heap.push { cls := .type "dict", data := .dict #[] } := by rw [← esc]
  have ic : Inv X pins σ (upd Hb D (dM X.w D [])) sc := by
    rw [← esc]
    refine ib.laid (o := dM X.w D []) (t' := sb.toks) (fun b o z => Heap.get?_push_of_some _ z) (Nat.le_of_eq eD) (TabM.ok ?_)
    rw [← eD]
    exact ⟨Nat.zero_le _, beq_eq_false_iff_ne.mpr (Ne.symm (Nat.ne_of_lt ib.big)), [], .nil, _, #[], 0, Heap.get?_push_size _ rfl, ⟨rfl, rfl, rfl⟩, rfl, rfl, List.nodup_nil⟩
  have young : ∀ b ∈ fp, b < sb.heap.objs.size := fun b hb => let ⟨_, z, _⟩ := T.obj _ _ at0 b hb; Heap.lt_size z
  have farc : ∀ b ∈ fp, FpOk X pins (upd Hb D (dM X.w D [])) b ∧ b < sc.heap.objs.size := fun b hb => by
    have lt := young b hb
    have ne : b ≠ D := by rw [← eD]; exact Nat.ne_of_lt lt
    exact ⟨⟨by rw [upd_ne ne]; exact (far b hb).1, (far b hb).2⟩, by rw [hpc, Heap.size_push]; exact Nat.lt_succ_of_lt lt⟩
  have at1 : tn 0 sc.heap := T.keep _ _ _ at0 fun b _ o z => by rw [hpc]; exact Heap.get?_push_of_some _ z
  have ie := block_start ic blk nod farc
  have ptg := tgt sc (upd Hb D (dM X.w D [])) sc.heap.objs.size (cellsFrom (sc.heap.objs.size + 1) scope.names (cloFrom X.env.cells scope.names [])) fp
  have pky := key sc (upd Hb D (dM X.w D [])) sc.heap.objs.size (cellsFrom (sc.heap.objs.size + 1) scope.names (cloFrom X.env.cells scope.names [])) fp
  have pvl := val sc (upd Hb D (dM X.w D [])) sc.heap.objs.size (cellsFrom (sc.heap.objs.size + 1) scope.names (cloFrom X.env.cells scope.names [])) fp
  show codeAny _ _ (.compStart (.DictComp kx vx [⟨tg, iter, [], 0⟩] scope pos) 0 (.ref I) (.ref D) (compEnvC scope (cellsFrom (sc.heap.objs.size + 1) scope.names (cloFrom X.env.cells scope.names [])) sc.heap.objs.size X.env)) _ { sc with heap := pushCells (sc.heap.push { cls := .type "dict", data := .dict #[] }) scope.names }
  generalize hce : compEnvC scope (cellsFrom (sc.heap.objs.size + 1) scope.names (cloFrom X.env.cells scope.names [])) sc.heap.objs.size X.env = en at ie ptg pky pvl ⊢
  have loc : en.locals = sc.heap.objs.size := by subst hce; rfl
  have free₀ : ∀ b ∈ fp, (upd Hb D (dM X.w D [])) b = none := fun b hb => (farc b hb).1.1
  generalize eHc : upd Hb D (dM X.w D []) = Hc at ic ie ptg pky pvl u₀ free₀ farc
  generalize esd : ({ sc with heap := pushCells (sc.heap.push { cls := .type "dict", data := .dict #[] }) scope.names } : Shared) = sd at ie ⊢
  have at2 : tn 0 sd.heap := T.keep _ _ _ at1 fun b _ o z => by rw [← esd]; exact pushCells_keeps _ _ _ _ (Heap.get?_push_of_some _ z)
  have apart : ∀ {σx : L2.St} {Hx : Hp} {sx : Shared}, Inv (X.blk sc Hc scope en fp) [] σx Hx sx → (∀ b ∈ fp, Hx b = none) → ∀ b ∈ fp, FpOk (X.blk sc Hc scope en fp) [] Hx b := fun {σx Hx sx} ix nx b hb =>
    ⟨nx b hb, (ix.ok.exf b hb).1, ix.ok.exfs b hb, .inl hb, fun y c z => (ix.ok.exf b hb).2 y c z, fun p hp => absurd (show p ∈ ([] : List (Addr × Obj)) ++ [] from hp) (by simp)⟩
  have run : codeAny (model X.prog X.w) X.A (.compLoop (.DictComp kx vx [⟨tg, iter, [], 0⟩] scope pos) 0 (.ref I) (.ref D) en) (compPost (model X.prog X.w) X.A X.xe none (EP X pins σ Q) (.ref D) sc.heap.objs.size) sd := by
    refine compLoop_anyD (fun m sx => ∃ i Hx, Inv (X.blk sc Hc scope en fp) [] (wipe σ (own.map (·.2))) Hx sx ∧ tn i sx.heap ∧ (∀ b ∈ fp, Hx b = none) ∧ U i m Hx) ?_ m₀ ⟨0, Hc, ie, at2, free₀, u₀⟩
    rintro m sx ⟨i, Hx, ix, atx, nx, ux⟩
    rcases turn i m Hx ux with ⟨stop, qend⟩ | ⟨go, Nx, hNx, step⟩
    · refine thnF (T.done (X.blk sc Hc scope en fp) rfl rfl rfl calm i [] sx _ Hx (fun _ _ => False) ix (apart ix nx) atx stop) fun r sy ⟨hr, iy⟩ => ?_
      subst hr
      have iz : Inv X pins σ Hx sy := ic.call' (ch := fp) iy.os iy.base iy.hok iy.bare fun b hb => ⟨(farc b hb).1.2.2.2.1, (farc b hb).1.2.1, (farc b hb).1.2.2.2.2.1, (farc b hb).1.2.2.2.2.2⟩
      have freeL : Hx sc.heap.objs.size = none := loc ▸ (show Hx en.locals = none from iy.free)
      obtain ⟨mm, ns, _⟩ := iy.loc
      have ns : sy.heap.Ns en.locals mm := ns
      rw [loc] at ns
      obtain ⟨f0, f1, f2, f3, f4, f5⟩ := ic.fpOk (Nat.le_refl _) freeL
      exact ⟨mm, ns, fun hz bz => ⟨.ref D, Hx, iz.turned (t' := sy.toks) (fun b o hb z => (bz.2 b hb).trans z) f0 f1 f3 f4 f5, rfl, qend⟩⟩
    · refine thnF (T.item (X.blk sc Hc scope en fp) rfl rfl rfl calm i [] sx _ Hx (fun _ _ => False) ix (apart ix nx) atx go) fun r sy ⟨u, hr, hy⟩ => ?_
      subst hr
      refine thnF hy fun _ sz ⟨x, Hy, iy, ry, yy, aty, ny⟩ => ?_
      refine thnF (ptg.run _ sz _ Hy x u _ (iy.pinned (apart iy ny) (T.obj _ _ aty)) ry (step x Hy yy)) fun _ s1 ⟨σ1, H1, i1, hw, q1⟩ => ?_
      refine thnF ((pts_nil (X := X.blk sc Hc scope en fp)).run _ s1 σ1 H1 (fun b Hq => b = true ∧ Hq = H1) i1 ⟨rfl, rfl⟩) fun b s2 ⟨H2, i2, eb, eH⟩ => ?_
      subst eb
      subst eH
      simp only [if_true]
      refine thnF (pky.run _ s2 σ1 H2 _ i2 q1) fun ku s3 ⟨yk, H3, i3, r3, q3⟩ => ?_
      refine thnF (pvl.run _ s3 σ1 H3 _ i3 q3) fun vu s4 ⟨yv, H4, i4, r4, kvs, k, hD4, ks4, n4, d4, l4, nx4⟩ => ?_
      refine m_dictSet (X := X.blk sc Hc scope en fp) hu i4 hD4 ks4 n4 d4 r3 r4 l4 fun s5 i5 => ?_
      obtain ⟨m', lt, u'⟩ := hNx _ nx4
      have pin : ∀ b ∈ fp, ∀ o, sz.heap.get? b = some o → s5.heap.get? b = some o ∧ (upd H4 D (dM X.w D (put kvs k yk yv))) b = none := fun b hb o z =>
        let w := i5.pin (b, o) (List.mem_append_right _ (List.mem_append_right _ (mem_pinsAt hb z)))
        ⟨w.1, w.2.1⟩
      refine ⟨m', lt, i + 1, _, (i5.unpinned (pins := [])).weak (by rw [← hw, wipe_length]) (fun j v z => ?_), T.keep _ _ _ aty fun b hb o z => (pin b hb o z).1, fun b hb => ?_, u'⟩
      · rw [← hw] at z
        exact (wipe_some z).1
      · obtain ⟨o, z, _⟩ := T.obj _ _ aty b hb
        exact (pin b hb o z).2
  exact codeAny_compStart_dict run (T.self X.A 0 _ _ _ at2 run)
end MD
end
/-! ### IO -/
section
set_option Elab.async false
set_option linter.all false
set_option maxRecDepth 100000
set_option maxHeartbeats 4000000
/-! in_order. -/
namespace K0
open PySem PySem.Spec PyProof.Rows L2 LamX
open MD (dM KeysV KeyV tMDc)
open SR (RowD)
/-- a walk's turns for such a comprehension -/
theorem mdturns {J : It} {n : Nat} {G : Hp → Prop} {Y : Nat → Hp → V → Hp → Prop} (wk : Walk J n G Y) {K : PySem.W.Frag} {w : World} {g : TG} {tk tv : TE} {vs : List Nat} {σ : L2.St} {H0 : Hp} {D : Addr} {Qd : Hp → Prop} (I : Nat → Hp → Prop) (start : I 0 H0) (good : ∀ i H, i ≤ n → I i H → G H)
    (one : ∀ i x H H1, i < n → I i H → Y i H x H1 → g x (wipe σ vs) H1 fun σ2 H2 => wipe σ2 vs = wipe σ vs ∧ tk σ2 H2 fun y H4 => tv σ2 H4 fun z H5 => ∃ kvs k, H5 D = some (dM w D kvs) ∧ KeysV K H5 kvs ∧ KeyV K H5 y k ∧ k.depth ≤ 8 ∧ kvs.length < sizeLine ∧ I (i + 1) (upd H5 D (dM w D (MD.put kvs k y z)))) (done : ∀ H, I n H → Qd H) :
    ∃ U : Nat → Nat → Hp → Prop, (∃ m, U 0 m H0) ∧ ∀ i m H, U i m H →
      (J.stop i H ∧ Qd H) ∨ (J.go i H ∧ ∃ Nx : Hp → Prop, (∀ H', Nx H' → ∃ m', m' < m ∧ U (i + 1) m' H') ∧ ∀ x H', J.yld i H x H' → g x (wipe σ vs) H' fun σ2 H2 => wipe σ2 vs = wipe σ vs ∧
        tk σ2 H2 fun y H4 => tv σ2 H4 fun z H5 => ∃ kvs k, H5 D = some (dM w D kvs) ∧ KeysV K H5 kvs ∧ KeyV K H5 y k ∧ k.depth ≤ 8 ∧ kvs.length < sizeLine ∧ Nx (upd H5 D (dM w D (MD.put kvs k y z)))) := by
  refine ⟨fun i m H => (i ≤ n ∧ m = n - i) ∧ I i H, ⟨n, ⟨Nat.zero_le _, by simp⟩, start⟩, fun i m H hW => ?_⟩
  obtain ⟨⟨hi, rfl⟩, inv⟩ := hW
  have gd := good i H hi inv
  rcases Nat.lt_or_ge i n with lt | ge
  · exact .inr ⟨wk.goes i H lt gd, I (i + 1), fun H' inv' => ⟨n - (i + 1), by omega, ⟨lt, rfl⟩, inv'⟩, fun x H' y => one i x H H' lt inv (wk.yields i H x H' lt gd y)⟩
  · obtain rfl : i = n := by omega
    exact .inl ⟨wk.stops H gd, done H inv⟩
theorem pe_mgetK {X : Cx} {K : PySem.W.Frag} {w : World} {o i : Expr} {pos : Pos} {td ty : TE} (eK : X.K = K) (ew : X.w = w) (hu : X.A.units + 64 < cLine) (ho : PE X o td) (hi : PE X i ty) (hs : NoSl i) : PE X (.Subscript o i pos) (MD.tMGet K w td ty) := by
  subst eK ew
  exact MD.pe_mget hu ho hi hs
theorem room200 {k : Nat} {A : Around} (h : Room k A) : A.units + 200 < cLine := by have := h.un; omega
mutual
theorem KeyV.noTab {K : PySem.W.Frag} {H : Hp} : ∀ (k : MD.NK) (v : V), KeyV K H v k → KeyV K (K0.noTab H) v k
  | .tup ks, _, h => by
    cases h with
    | atom q => exact .atom q
    | tup h1 h2 => exact .tup (sqt_noTab h1) (KeyVs.noTab ks _ h2)
  | .none, _, h => by cases h with | atom q => exact .atom q
  | .num _, _, h => by cases h with | atom q => exact .atom q
  | .text _, _, h => by cases h with | atom q => exact .atom q
theorem KeyVs.noTab {K : PySem.W.Frag} {H : Hp} : ∀ (ks : List MD.NK) (vs : List V), MD.KeyVs K H vs ks → MD.KeyVs K (K0.noTab H) vs ks
  | [], _, h => by cases h; exact .nil
  | k :: ks, _, h => by cases h with | cons h1 h2 => exact .cons (KeyV.noTab k _ h1) (KeyVs.noTab ks _ h2)
end
theorem KeyV.extN {K : PySem.W.Frag} {H H1 : Hp} {v : V} {k : MD.NK} (h : KeyV K H v k) (e : ExtN H H1) : KeyV K H1 v k := MD.KeyV.same noTab_out k v (MD.KeyV.same (noTab_ext e) k v (KeyV.noTab k v h))
theorem KeysV.extN {K : PySem.W.Frag} {H H1 : Hp} {kvs : List MD.Row} (h : KeysV K H kvs) (e : ExtN H H1) : KeysV K H1 kvs := fun p m => ⟨KeyV.extN (h p m).1 e, (h p m).2⟩
abbrev ioN : List Str := ["moves", "key"]
theorem scInOrder : FnScope ioN ["moves"] (defScope (top iInOrder)) := ⟨rfl, rfl, rfl, by decide +kernel, rfl, by decide +kernel, by decide +kernel⟩
abbrev ioQ : Str := "in_order.<locals>.<lambda>"
def spInOrder (K : PySem.W.Frag) (w : World) (P : Addr) : Sp := fun vs H Q _ => ∃ (a : Addr) (rs : List RowD), vs = [.ref a] ∧ H a = some (dM w a (rs.map (·.1))) ∧ KeysV K H (rs.map (·.1)) ∧ ((rs.map (·.1)).map (·.1)).Nodup ∧ rs.length ≤ 1000 ∧ (∀ r ∈ rs, Dv K H r.1.2.1 r.2 ∧ Fit r.2) ∧ Tabs [(P, ioQ)] H ∧
  ∀ (H' : Hp) (b : Addr) (ys : List RowD), ExtN H H' → Tabs [(P, ioQ)] H' → ys.Perm rs → (∀ c o, (∀ ps, o ≠ .tbl ps) → H c = some o → c ≠ b) → H' b = some (dM w b (ys.map (·.1))) → Q (.ref b) H'
section
variable {P : Program} {w : World} {K : PySem.W.Frag} {mg : Str → Option Value} {base : Heap} {f ct PT : Addr} {fd : FuncData}
theorem ok_inOrder {k : Nat} (F : FnP K "in_order" iInOrder f fd) (msorted : mg "sorted" = none) (mrepr : mg "repr" = none) (b : sysB K = true) (hcode : fd.code = .ref ct) (TB : TabB base mg ct PT) : FnG P w K mg base CX0 (k + 5) f fd ["moves"] (spInOrder K w PT) := by
  refine fnG_ofC F scInOrder (fun vs H Q E h => ?_) (fun cdv hcd A outer s H vs Q E gd hr h => ?_)
  · obtain ⟨a, rs, rfl, _⟩ := h
    rfl
  · obtain ⟨a, rs, rfl, ha, ks, nd, few, dat, tabs, q⟩ := h
    obtain rfl : cdv = .ref ct := hcd.symm.trans hcode
    refine ⟨_, PSs.nox (pss_one (ps_ret (MD.pe_mdc (own := [("key", 1)]) (g := gName 1) (tk := tVar 1) rfl scInOrder.nd (hr.units) (pi_list (SR.pe_sortedRepr (T := [(PT, ioQ)]) (by rfl) msorted mrepr (pv 0) TB rfl (List.mem_singleton.mpr rfl) (fun x hx _ => by rw [List.mem_singleton.mp hx]; rfl) (Room.mono hr (by omega)) (room200 hr) gd b rfl (by rfl) rfl rfl rfl rfl (fun _ _ _ _ _ => by rfl)))
      (blkOk_by (N := ioN) (sc := defScope (top iInOrder)) (by decide +kernel)) (fun _ _ _ _ _ => pg_name (i := 1) scInOrder.nd rfl (Or.inl rfl)) (fun _ _ _ _ _ => pv 1) (fun _ _ _ _ _ => pe_mgetK (K := K) (w := w) rfl rfl hr.units (pv 0) (pv 1) (fun _ _ => rfl))))), ?_⟩
    refine ⟨_, rfl, a, rs, rfl, ha, dat, tabs, fun H2 p ys eN T2 pm np => ?_⟩
    have rn : ((ys.map (·.1)).map (·.1)).Nodup := ((pm.map (·.1)).map (·.1)).nodup_iff.mpr nd
    have a2 : H2 a = some (dM w a (rs.map (·.1))) := eN a _ ha (fun ps z => nomatch z)
    have pa : p ≠ a := fun z => by rw [z, a2] at np; cases np
    refine ⟨p, rfl, ⟨_, SqL.of upd_same⟩, fun D nD => mdturns (walk_list (a := p) (xs := ys.map (·.1.2.1))) (fun i H' => Same (upd H2 p (.lst (ys.map (·.1.2.1)))) H' ∧ H' D = some (dM w D ((ys.map (·.1)).take i))) ⟨same_upd nD, upd_same⟩ (fun i H' _ z => SqL.of (z.1 _ _ upd_same)) (fun i x H' H'' lt z y => ?_) (fun H' z => ?_)⟩
    · obtain ⟨s1, d1⟩ := z
      obtain ⟨rfl, hx⟩ := y
      rw [List.getElem?_map] at hx
      obtain ⟨r, hr2, rfl⟩ := Option.map_eq_some_iff.mp hx
      have up : Same H2 H'' := (same_upd np).trans s1
      have mr : r ∈ rs := pm.mem_iff.mp (List.mem_of_getElem? hr2)
      have mr1 : r.1 ∈ rs.map (·.1) := List.mem_map.mpr ⟨r, mr, rfl⟩
      obtain ⟨j, hj⟩ := List.mem_iff_getElem?.mp mr1
      have ks2 : KeysV K H'' (rs.map (·.1)) := (KeysV.extN ks eN).same up
      obtain ⟨kv, kd⟩ := ks2 r.1 mr1
      have lk : MD.look (rs.map (·.1)) r.1.1 = some r.1.2.2 := MD.look_some nd nd hj
      have hyr : (ys.map (·.1))[i]? = some r.1 := by rw [List.getElem?_map, hr2]; rfl
      refine ⟨rfl, _, rfl, _, rfl, _, rfl, a, r.1.1, _, r.1.2.2, rfl, up _ _ a2, ks2, kv, kd, lk, _, r.1.1, d1, fun q hq => ?_, kv, kd, ?_, fun c o e => ?_, ?_⟩
      · have hq2 : q ∈ rs.map (·.1) := (pm.map (·.1)).mem_iff.mp (List.mem_of_mem_take hq)
        exact ks2 q hq2
      · rw [List.length_take, List.length_map, pm.length_eq, sizeLine_eq]
        omega
      · rw [upd_ne (ne_of_none e nD)]
        exact s1 c o e
      · rw [MD.put_new rn hyr]
        exact upd_same
    · obtain ⟨s1, d1⟩ := z
      have up : Same H2 H' := (same_upd np).trans s1
      rw [List.length_map, List.take_of_length_le (by rw [List.length_map]; exact Nat.le_refl _)] at d1
      refine q H' D ys (eN.trans (ExtN.of up)) (T2.ext up) pm (fun c o n e z => ?_) d1
      rw [z] at e
      have e2 : upd H2 p (.lst (ys.map (·.1.2.1))) D = some o := same_upd np _ _ (eN D o e n)
      rw [nD] at e2
      cases e2
end
end K0
end
/-! ### ET -/
section
set_option Elab.async false
set_option linter.all false
set_option maxRecDepth 100000
set_option maxHeartbeats 4000000
/-! enumerate(t) of a tuple. -/
namespace ET
open PySem PySem.Spec PyProof.Rows L2
theorem new_enum {v : Value} {o : Obj} {S : Heap → Prop} (B : Begins v o S) :
    Meets (Builtin.«enumerate.__new__» ⟨[.type "enumerate", v], []⟩) (fun _ R s => S s.heap ∧ R (.ok (.ret (.ref (s.heap.push o).objs.size))) { s with heap := (s.heap.push o).push { cls := .type "enumerate", data := .fields #[.none, .bool false, .ref s.heap.objs.size, rawInt 0, .none, .none] } }) :=
  .of_wp fun prog w A R s z => by
    obtain ⟨hp, gs, dr, tk, os⟩ := s
    obtain ⟨z1, z2⟩ := z
    have hsub := sub_enumerate
    have it1 : ∀ {A' : Around} {E : Value → Shared → Prop} {Q : Value → Shared → Prop}, Q (.ref hp.objs.size) ⟨hp.push o, gs, dr, tk, os⟩ → wpAny (model prog w) A' (pyIter v) Q E ⟨hp, gs, dr, tk, os⟩ := fun q => B.iter prog w _ _ ⟨hp, gs, dr, tk, os⟩ _ z1 q
    wp_walk
    refine wpAny_stack_any fun st => wpAny_pure ?_
    split
    · rename_i c _ _ _ _ _
      cases (c == Value.type "enumerate")
      · wp_walk using it1
        exact ⟨_, rfl, z2⟩
      · wp_walk using it1
        exact ⟨_, rfl, z2⟩
    · wp_walk using it1
      exact ⟨_, rfl, z2⟩
theorem call_enumT {prog : Program} {w : World} {A : Around} {E : Value → Shared → Prop} {s : Shared} {t : Addr} {items : Array Value} {Q : Value → Shared → Prop} (ht : s.heap.IsTuple t items)
    (h : ∀ g, IsEnum g (s.heap.objs.size + 1) s.heap.objs.size 0 .none → g.IsTupleIter s.heap.objs.size t 0 → (∀ b o, s.heap.get? b = some o → g.get? b = some o) → Q (.ref (s.heap.objs.size + 1)) { s with heap := g }) :
    wpAny (model prog w) A (call (.type "enumerate") [.ref t]) Q E s := by
  refine callType_new F.called_enumerate (by decide) (F.typeCall_enumerate_1 _) (F.newCall_enumerate_1 _) (fun obj => F.args_object_init_2 obj _) F.entry_enumerate_new (new_enum (begins_tuple t items)) ⟨ht, ?_⟩
  have one : (s.heap.push { cls := .type "tuple_iterator", data := .fields #[.ref t, .int 0 0] }).objs.size = s.heap.objs.size + 1 := Heap.size_push ..
  have top := Heap.get?_push_size (s.heap.push { cls := .type "tuple_iterator", data := .fields #[.ref t, .int 0 0] }) (o := { cls := .type "enumerate", data := .fields #[.none, .bool false, .ref s.heap.objs.size, rawInt 0, .none, .none] }) rfl
  show _ ∧ _
  rw [one] at top ⊢
  exact ⟨⟨_, top, rfl⟩, h _ top ⟨_, Heap.get?_push_of_some _ (Heap.get?_push_size _ rfl), rfl, rfl⟩ fun b o x => Heap.get?_push_of_some _ (Heap.get?_push_of_some _ x)⟩
/-- pairs of the place and the item, each a new tuple -/
def Itet (K : PySem.W.Frag) (a : Addr) (n : Nat) : It :=
  ⟨fun i H => ∃ xs, SqT K H a xs ∧ xs.length = n ∧ i < xs.length, fun i H x H' => ∃ T y, x = .ref T ∧ H T = none ∧ H' = upd H T (.tup [.int (i : Nat), y]) ∧ ∀ xs, SqT K H a xs → xs[i]? = some y, fun i H => ∃ xs, SqT K H a xs ∧ xs.length = n ∧ xs.length ≤ i⟩
theorem turn_enumT {P : Program} {w : World} {K : PySem.W.Frag} {elts : List Expr} {kk : Nat} {tpos : Pos} (a e it : Addr) (n : Nat) :
    Turn P w K (.Tuple elts kk tpos) (Itet K a n) [e, it] e (fun i h => (∃ old, IsEnum h e it ((i : Nat) : Int) old) ∧ h.IsTupleIter it a i ∧ e ≠ it ∧ i ≤ n) where
  mem := by simp
  obj := fun i h st b hb => by
    obtain ⟨⟨old, he⟩, ⟨o, ho, hc, hd⟩, _⟩ := st
    rcases (show b = e ∨ b = it by simpa using hb) with z | z
    · rw [z]; exact ⟨_, he, fun v q => nomatch q⟩
    · rw [z]; exact ⟨o, ho, fun v q => by rw [hd] at q; exact nomatch q⟩
  keep := fun i h h' st k => let ⟨⟨old, he⟩, hi, ne⟩ := st; ⟨⟨old, k e (by simp) _ he⟩, hi.at fun o q => k it (by simp) o q, ne.1, ne.2⟩
  item := by
    intro X hP hw hK calm i pins s σ H E I far st go
    subst hP hw hK
    obtain ⟨⟨old, he⟩, hit, ne, lei⟩ := st
    obtain ⟨xs, hq, en, lt⟩ := go
    obtain ⟨x, hx⟩ : ∃ x, xs[i]? = some x := ⟨_, List.getElem?_eq_getElem lt⟩
    obtain ⟨its, rv, tp, hz⟩ := I.tuple hq
    obtain ⟨u, hu, ru⟩ := rv.get hx
    have hel : e < s.heap.objs.size := Heap.lt_size he
    have hil : it < s.heap.objs.size := by obtain ⟨_, q, _⟩ := hit; exact Heap.lt_size q
    have ta : a ≠ it := fun z => by
      obtain ⟨o1, e1, c1, d1⟩ := hit
      obtain ⟨o2, e2, c2, n2, d2⟩ := tp
      rw [z, e1] at e2
      cases e2
      rw [d1] at d2
      cases d2
    have ae : a ≠ e := fun z => by
      obtain ⟨o2, e2, c2, n2, d2⟩ := tp
      rw [z, he] at e2
      cases e2
      cases d2
    have D := Draws.tuple (prog := X.prog) (w := X.w) (A := X.A.in1) (I.ok.hd calm) it a ta its.toArray
    have lti : i < its.toArray.size := by rw [List.size_toArray]; exact (List.getElem?_eq_some_iff.mp hu).1
    refine wpAny_pyNext_enum_itemD D he ⟨hit, tp⟩ lti ne (by simp [ne, Ne.symm ae]) fun y h' tk py ho hst hT hsz hk => ?_
    have ey : y = u := by
      have py : its.toArray[i]? = some y := py
      rw [List.getElem?_toArray, hu] at py
      exact (Option.some.inj py).symm
    subst ey
    refine ⟨_, rfl, wpAny_letOwnedTupleGo_enum (s := { s with heap := h', toks := tk + 1 }) ho fun h'' he' sb => ?_⟩
    have hT2 : h''.get? s.heap.objs.size = some { cls := .type "tuple", data := .seq #[.int i tk, y] } := (sb.2 _ (Nat.ne_of_gt hel)).trans hT
    have new : ObjOk X.prog X.w (upd H s.heap.objs.size (.tup [.int (i : Nat), x])) h'' s.heap.objs.size (.tup [.int (i : Nat), x]) :=
      ⟨by show 2 ≤ sizeLine; decide, [.int i tk, y], .cons ⟨_, rfl⟩ (.cons ru .nil), ⟨_, hT2, rfl, _, rfl⟩⟩
    have I1 : Inv X pins σ (upd H s.heap.objs.size (.tup [.int (i : Nat), x])) { s with heap := h'', toks := tk + 1 } :=
      I.turnedNew (t' := tk + 1) (ch := [e, it]) (fun b ob hb q => (sb.2 b (fun z => hb (by simp [z]))).trans (hk b ob (fun z => hb (by simp [z])) (fun z => hb (by simp [z])) q)) far (Nat.le_refl _) new
    refine ⟨.ref s.heap.objs.size, _, I1, rfl, ⟨_, x, rfl, I.hok.fresh (Nat.le_refl _), rfl, fun ys hy => ?_⟩, ⟨⟨_, by rw [show ((i + 1 : Nat) : Int) = (i : Int) + 1 by omega]; exact he'⟩, hst.1.at fun o q => (sb.2 it (Ne.symm ne)).trans q, ne, by omega⟩, fun b hb => ?_⟩
    · rw [I.tuple_inj hy hq]; exact hx
    · have lb : b < s.heap.objs.size := by
        rcases (show b = e ∨ b = it by simpa using hb) with z | z
        · rw [z]; exact hel
        · rw [z]; exact hil
      rw [upd_ne (Nat.ne_of_lt lb)]
      exact (far b hb).1
  done := by
    intro X hP hw hK calm i pins s σ H E I far st stop
    subst hP hw hK
    obtain ⟨⟨old, he⟩, hit, ne, lei⟩ := st
    obtain ⟨xs, hq, en, hx⟩ := stop
    obtain ⟨its, rv, tp, hz⟩ := I.tuple hq
    obtain ⟨f0, f1, f2, f3, f4, f5⟩ := far it (by simp)
    have ll := rv.length
    have ta : a ≠ it := fun z => by
      obtain ⟨o1, e1, c1, d1⟩ := hit
      obtain ⟨o2, e2, c2, n2, d2⟩ := tp
      rw [z, e1] at e2
      cases e2
      rw [d1] at d2
      cases d2
    have D := Draws.tuple (prog := X.prog) (w := X.w) (A := X.A.in1) (I.ok.hd calm) it a ta its.toArray
    have ei : i = its.toArray.size := by rw [List.size_toArray]; omega
    exact wpAny_pyNext_enum_endD D he (by rw [← ei]; exact ⟨hit, tp⟩) fun h' eb => ⟨rfl, I.turned (t' := s.toks) (fun b o hb q => eb b o hb q) f0 f1 f3 f4 f5⟩
  self := fun A i s Q E st h => let ⟨⟨_, he⟩, _⟩ := st; wpAny_pyIter_enum he h
def iEnumT (K : PySem.W.Frag) (ta : TA) : TI := fun σ H R => ta σ H fun vs H1 => ∃ a xs, vs = [.ref a] ∧ SqT K H1 a xs ∧ R (Itet K a xs.length) H1
theorem pi_enumT {X : Cx} {e : Expr} {ta : TA} {p pos tpos : Pos} {elts : List Expr} {kk : Nat} (hg : Gl X "enumerate") (hm : X.mg "enumerate" = none) (ha : PA X [e] ta) (hs : starEach [e] X.env = [(false, eval e X.env)] := by rfl) :
    PI X (.Tuple elts kk tpos) (.Call (.Name "enumerate" p) [e] [] pos) (iEnumT X.K ta) := by
  refine ⟨fun pins s σ H R I h => ?_⟩
  refine wpAny_Call_Name_kw (ld_blt I hg hm boot_enumerate (PyProof.Rows.callWith_type1 (thn (ha.run pos pins s σ H _ I h) fun us s1 ⟨vs, H1, I1, r1, a, xs, ex, hq, q⟩ => ?_) hs rfl))
  subst ex
  obtain ⟨u, rfl, ru⟩ := vals1 r1
  obtain rfl : u = Value.ref a := ru
  obtain ⟨its, rv, tp, hz⟩ := I1.tuple hq
  refine call_enumT tp fun g he hit up => wpAny_pyIter_enum he ?_
  have I2 : Inv X pins σ H1 { s1 with heap := g } := I1.kept (t' := s1.toks) up
  refine ⟨s1.heap.objs.size + 1, [s1.heap.objs.size + 1, s1.heap.objs.size], _, _, H1, rfl, I2, turn_enumT a (s1.heap.objs.size + 1) s1.heap.objs.size xs.length, ⟨⟨.none, he⟩, hit, Nat.succ_ne_self _, Nat.zero_le _⟩, fun b hb => ?_, q⟩
  have big : s1.heap.objs.size ≤ b := by
    rcases (show b = s1.heap.objs.size + 1 ∨ b = s1.heap.objs.size by simpa using hb) with z | z
    · rw [z]; exact Nat.le_succ _
    · rw [z]; exact Nat.le_refl _
  exact I1.fpOk big (I1.hok.fresh big)
theorem walk_enumT {K : PySem.W.Frag} {a : Addr} {xs : List V} : Walk (Itet K a xs.length) xs.length (fun H => SqT K H a xs) (fun i H x H' => ∃ T y, x = .ref T ∧ H T = none ∧ H' = upd H T (.tup [.int (i : Nat), y]) ∧ xs[i]? = some y) :=
  ⟨fun i _ hi q => ⟨xs, q, rfl, hi⟩, fun _ q => ⟨xs, q, rfl, Nat.le_refl _⟩, fun _ _ _ _ _ q y => by
    obtain ⟨T, z, h1, h2, h3, h4⟩ := y
    exact ⟨T, z, h1, h2, h3, h4 xs q⟩⟩
end ET
end
/-! ### MD7 -/
section
set_option Elab.async false
set_option linter.all false
set_option maxRecDepth 100000
set_option maxHeartbeats 4000000
/-! d.setdefault(k, x). -/
namespace MD
open PySem
section
variable {prog : Program} {w : World} {A : Around} {E : Value → Shared → Prop} {s : Shared} {d : Addr} {xs : List (NK × Value × Value)} {k : NK} {u x : Value}
theorem setd_md (hu : A.units + 8 < cLine) (m : At w s.heap d xs) (hk : NestedIs s.heap k u) (dk : k.depth ≤ 8) (hz : xs.length ≤ sizeLine) {Q : Value → Shared → Prop} (old : ∀ v, look xs k = some v → Q v { s with toks := s.toks + k.draws })
    (new : look xs k = none → ∀ h', At w h' d (xs ++ [(k, u, x)]) → Heap.SameBut d s.heap h' → Q x { s with heap := h', toks := s.toks + k.draws }) : wpAny (model prog w) A (dictSetDefault d u x) Q E s := by
  obtain ⟨o, es, ep, ho, hx, hd, he, ks⟩ := m
  unfold dictSetDefault
  try with_reducible refine wpAny_holding ?_
  refine wpAny_bind (pyHash_key k u A s _ hk (by omega) (wpAny_bind (find (s := { s with toks := s.toks + k.draws }) hu ho hd he ks hk dk (fun hno => ?_) fun i y hi e => ?_)))
  · have nn : look xs k = none := look_none hno
    refine wpAny_bind (wpAny_rule (wpAny_bind (wpAny_updateDictKeys (hz := by have e := ent_size he; omega) (s := { s with toks := s.toks + k.draws }) ho hd (wpAny_pure (new nn _ ⟨_, _, ep + 1, Heap.get?_update_self _ ho (Obj.isFreed_of_dict (Obj.data_mapDictKeys hd _)), hx.mapDictKeys _, Obj.data_mapDictKeys hd _, ?_, ?_⟩ (Heap.SameBut.update ..))))))
    · simp [he, ent]
    · refine ⟨fun y hy => ?_, ?_⟩
      · rcases List.mem_append.mp hy with z | z
        · exact (ks.but ho hd (Heap.SameBut.update ..)).is y z
        · rw [List.mem_singleton.mp z]
          exact ⟨is_but hk ho hd (Heap.SameBut.update ..), dk⟩
      · have z := put_nodup (k := k) u x ks.one
        unfold put at z
        rw [nn] at z
        simpa using z
  · refine wpAny_bind (wpAny_dictEntries (s := { s with toks := s.toks + k.draws }) ho hd ?_)
    rw [ent_at he i, hi]
    have lk : look xs k = some y.2.2 := by rw [← e]; exact look_some ks.one ks.one hi
    exact wpAny_bind (wpAny_rule (wpAny_pure (old _ lk)))
theorem call_setd (hu : A.units + 16 < cLine) (hs : (d == sysModules) = false) (m : At w s.heap d xs) (hk : NestedIs s.heap k u) (dk : k.depth ≤ 8) (hz : xs.length ≤ sizeLine) {Q : Value → Shared → Prop} (old : ∀ v, look xs k = some v → Q v { s with toks := s.toks + k.draws })
    (new : look xs k = none → ∀ h', At w h' d (xs ++ [(k, u, x)]) → Heap.SameBut d s.heap h' → Q x { s with heap := h', toks := s.toks + k.draws }) : wpAny (model prog w) A (call (.builtin "dict.setdefault") [.ref d, u, x]) Q E s := by
  refine call_meetsIn F.slot_dict_setdefault m.typeIs F.entry_dict_setdefault (F.args_dict_setdefault_3 _ _ _) (S := fun A' R s' => A' = A ∧ s' = s ∧ (∀ v, look xs k = some v → R (.ok (.ret v)) { s with toks := s.toks + k.draws }) ∧ (look xs k = none → ∀ h', At w h' d (xs ++ [(k, u, x)]) → Heap.SameBut d s.heap h' → R (.ok (.ret x)) { s with heap := h', toks := s.toks + k.draws })) (fun A' R s' hS => ?_) ⟨rfl, rfl, old, new⟩
  obtain ⟨rfl, rfl, h1, h2⟩ := hS
  have ty := m.typeIs
  unfold Builtin.«dict.setdefault»
  refine wpAny_bind ?_
  unfold Builtin.Dict.keyAndDefault
  refine wpAny_bind (wpAny_notOrdered_dict ty ?_)
  show wpAny _ _ (pure (d, u, some x)) _ _ s'
  refine wpAny_pure ?_
  show wpAny _ _ (if (d == sysModules) = true then _ else (dictSetDefault d u x >>= _)) _ _ s'
  rw [if_neg (by rw [hs]; exact Bool.false_ne_true)]
  exact wpAny_bind (setd_md (by show A'.units + _ + 8 < _; omega) m hk dk hz (fun v hv => wpAny_pure (h1 v hv)) fun hn h' m' sb => wpAny_pure (h2 hn h' m' sb))
end
end MD
namespace MD
open PySem PySem.Spec PyProof.Rows L2
/-- d.setdefault(key, x) -/
def tMSetd (K : PySem.W.Frag) (w : World) (td ty tx : TE) : TE := fun σ H Q => td σ H fun x H1 => ∃ a, x = .ref a ∧ (∃ kv0, H1 a = some (dM w a kv0)) ∧ ty σ H1 fun y H2 => tx σ H2 fun z H3 => ∃ k kvs, H3 a = some (dM w a kvs) ∧ KeysV K H3 kvs ∧ KeyV K H3 y k ∧ k.depth ≤ 8 ∧ kvs.length < sizeLine ∧
  (∀ v, look kvs k = some v → Q v H3) ∧ (look kvs k = none → Q z (upd H3 a (dM w a (kvs ++ [(k, y, z)]))))
theorem pe_msetd {X : Cx} {o e f : Expr} {apos cpos : Pos} {td ty tx : TE} (hu : X.A.units + 64 < cLine) (ho : PE X o td) (he : PE X e ty) (hf : PE X f tx) (m : M2 X o "setdefault" apos e f cpos) : PE X (.Call (.Attribute o "setdefault" apos) [e, f] [] cpos) (tMSetd X.K X.w td ty tx) := by
  refine ⟨fun pins s σ H Q I h => ?_⟩
  refine wpAny_Call_method m.base m.few m.line PySem.F.plainAttrs_dict PySem.F.slot_dict_setdefault PySem.F.type_dict_setdefault (thn (ho.run pins s σ H _ I h) fun u s1 ⟨x, H1, I1, rx, a, ex, ⟨kv0, d⟩, q1⟩ => ?_)
  subst ex
  obtain rfl : u = Value.ref a := rx
  obtain ⟨_, _, _, _, o', es, ep, ho', hx', _⟩ := tab_of I1 d
  refine ⟨⟨o', ho', hx'.1⟩, fun c e => by cases e; exact ⟨o', ho', hx'.2.1⟩, ?_⟩
  rw [m.trees]
  refine Calls.callWith_builtin rfl (Calls.evalArgs_plain (Calls.spliced_cons (thn (he.run pins s1 σ H1 _ I1 q1) fun iv s2 ⟨y, H2, I2, ry, q2⟩ =>
    Calls.spliced_cons (thn (hf.run pins s2 σ H2 _ I2 q2) fun fv s3 ⟨z, H3, I3, rz, k, kvs, ed, ks, n, dk, lz, qo, qn⟩ => Calls.spliced_nil ?_))))
  obtain ⟨zl, hs, xs, r, mm⟩ := atM I3 ed ks
  have rl := prs_look (k := k) r
  refine call_setd (by omega) hs mm (key_is I3 _ _ _ n ry) dk (by rw [← prs_len r]; exact zl) (fun v hv => ?_) fun hn h' ⟨o2, es2, ep2, g1, g2, g3, g4, g5⟩ sb => ?_
  · cases e1 : look kvs k with
    | none => rw [e1] at rl; rw [RelO.none_of rl] at hv; cases hv
    | some y2 =>
      rw [e1] at rl
      obtain ⟨w', hw, rw'⟩ := RelO.some_of rl
      rw [hv] at hw
      cases hw
      exact ⟨y2, H3, I3.tok _, rw', qo y2 e1⟩
  · cases e1 : look kvs k with
    | some y2 =>
      rw [e1] at rl
      obtain ⟨w', hw, _⟩ := RelO.some_of rl
      rw [hn] at hw
      cases hw
    | none =>
      exact ⟨z, _, d_write I3 (by rw [ed]; exact True.intro) sb ⟨o2, g1⟩ (TabM.ok ⟨by rw [List.length_append]; exact lz, hs, _, prs_snoc ⟨rfl, ry, rz⟩ r, o2, es2, ep2, g1, g2, g3, g4, g5.one⟩), rz, qn e1⟩
end MD
end
/-! ### A1 -/
section
set_option Elab.async false
set_option linter.all false
set_option maxRecDepth 100000
set_option maxHeartbeats 4000000
/-! Values by their data: types, signs, texts, numbers; strip of a set of signs leaves nothing just of texts of them. -/
namespace K0
open PySem PySem.Spec PyProof.Rows L2
def dty : PyData → String
  | .none => "NoneType"
  | .bool _ => "bool"
  | .int _ => "int"
  | .str _ => "str"
  | .list _ => "list"
  | .tuple _ => "tuple"
  | .dict _ => "dict"
theorem Dv.ty {K : PySem.W.Frag} {H : Hp} {v : V} {d : PyData} (h : Dv K H v d) : TyX K H v (.type (dty d)) := by
  cases h with
  | non => exact .base .non
  | bl b => exact .base (.bl b)
  | int i => exact .base (.int i)
  | str x => exact .base (.str x)
  | lst h1 h2 =>
    rcases h1 with (h1 | ⟨o, h1⟩) | ⟨o, its, n, h1, c, _⟩
    · exact .base (.lst h1)
    · exact .base (.frz h1)
    · exact .kList h1 c
  | tup h1 h2 =>
    rcases h1 with (h1 | ⟨o, h1⟩) | ⟨o, its, n, h1, c, _⟩
    · exact .base (.tup h1)
    · exact .fTuple h1
    · exact .kTuple h1 c
  | dic h1 h2 h3 => exact .base (.dK h1)
def isStrD : PyData → Bool
  | .str _ => true
  | _ => false
def isIntD : PyData → Bool
  | .int _ => true
  | .bool _ => true
  | _ => false
def isBoolD : PyData → Bool
  | .bool _ => true
  | _ => false
def isTupD : PyData → Bool
  | .tuple _ => true
  | _ => false
section
variable {K : PySem.W.Frag}
theorem kit_str (d : PyData) : PySem.W.kitOne K (.type (dty d)) (.type "str") = some (isStrD d) := by cases d <;> (dsimp only [dty, isStrD, isIntD, isBoolD, isTupD]; exact kit_ty (by decide +kernel))
theorem kit_int (d : PyData) : PySem.W.kitOne K (.type (dty d)) (.type "int") = some (isIntD d) := by cases d <;> (dsimp only [dty, isStrD, isIntD, isBoolD, isTupD]; exact kit_ty (by decide +kernel))
theorem kit_bool (d : PyData) : PySem.W.kitOne K (.type (dty d)) (.type "bool") = some (isBoolD d) := by cases d <;> (dsimp only [dty, isStrD, isIntD, isBoolD, isTupD]; exact kit_ty (by decide +kernel))
theorem kit_tup (d : PyData) : PySem.W.kitOne K (.type (dty d)) (.type "tuple") = some (isTupD d) := by cases d <;> (dsimp only [dty, isStrD, isIntD, isBoolD, isTupD]; exact kit_ty (by decide +kernel))
/-- isinstance(v, T) of a value that is data -/
theorem rd_isi {H : Hp} {Q : VK} {v : V} {d : PyData} {n : String} {b : Bool} (h : Dv K H v d) (k : PySem.W.kitOne K (.type (dty d)) (.type n) = some b) (q : Q (.bl b) H) : rIsi K [v, .ty n] H Q := ⟨v, .ty n, _, _, b, rfl, .ty n, h.ty, k, q⟩
end
/-! ### strip -/
theorem takeWhile_all {g : Nat → Bool} : ∀ {l : List Nat}, l.all g = true → l.takeWhile g = l
  | [], _ => rfl
  | c :: l, h => by
    rw [List.all_cons, Bool.and_eq_true] at h
    rw [List.takeWhile_cons_of_pos h.1, takeWhile_all h.2]
theorem takeWhile_len {g : Nat → Bool} : ∀ (l : List Nat), (l.takeWhile g).length ≤ l.length
  | [] => Nat.le_refl _
  | c :: l => by
    by_cases h : g c = true
    · rw [List.takeWhile_cons_of_pos h]
      exact Nat.succ_le_succ (takeWhile_len l)
    · rw [List.takeWhile_cons_of_neg h]
      exact Nat.zero_le _
theorem takeWhile_full {g : Nat → Bool} : ∀ {l : List Nat}, (l.takeWhile g).length = l.length → l.all g = true
  | [], _ => rfl
  | c :: l, h => by
    by_cases z : g c = true
    · rw [List.takeWhile_cons_of_pos z, List.length_cons, List.length_cons] at h
      rw [List.all_cons, z, Bool.true_and]
      exact takeWhile_full (by omega)
    · rw [List.takeWhile_cons_of_neg z] at h
      simp at h
theorem drop_takeWhile {g : Nat → Bool} : ∀ (l : List Nat), l.drop (l.takeWhile g).length = [] ∨ ∃ c r, l.drop (l.takeWhile g).length = c :: r ∧ g c = false
  | [] => .inl rfl
  | c :: l => by
    by_cases h : g c = true
    · rw [List.takeWhile_cons_of_pos h]
      exact drop_takeWhile l
    · rw [List.takeWhile_cons_of_neg h]
      exact .inr ⟨c, l, rfl, by simpa using h⟩
theorem strSub_len (x : Str) (i j : Nat) : (Builtin.Str.strSub x i j).length = min j x.length - i := by
  show (x.cps.extract i j).size = _
  rw [Array.size_extract]
  rfl
theorem str_nil {x : Str} : x = ("" : Str) ↔ x.length = 0 := by
  constructor
  · rintro rfl
    rfl
  · intro h
    obtain ⟨a⟩ := x
    have z : a = #[] := Array.eq_empty_of_size_eq_zero h
    rw [z]
    rfl
theorem strip_len (x y : Str) : (Txt.stripChars x y).length = 0 ↔ x.cps.toList.all (fun c => y.cps.contains c) = true := by
  have e : Txt.stripChars x y = PySem.W.stripped (fun c => y.cps.contains c) true true x := by
    rw [Txt.stripChars, stripBy_eq]
    rfl
  rw [e]
  unfold PySem.W.stripped
  simp only [if_true]
  rw [strSub_len]
  generalize hg : (fun c => y.cps.contains c) = g
  have hl : x.length = x.cps.toList.length := by
    show x.cps.size = _
    simp
  have h1 := takeWhile_len (g := g) x.cps.toList
  have h2 := takeWhile_len (g := g) (x.cps.toList.drop (x.cps.toList.takeWhile g).length).reverse
  rw [List.length_reverse, List.length_drop] at h2
  constructor
  · intro h
    refine takeWhile_full (g := g) ?_
    rcases drop_takeWhile (g := g) x.cps.toList with z | ⟨c, r, z, hc⟩
    · have z2 := congrArg List.length z
      rw [List.length_drop, List.length_nil] at z2
      omega
    · have z3 : (((x.cps.toList.drop (x.cps.toList.takeWhile g).length).reverse).takeWhile g).length < (x.cps.toList.drop (x.cps.toList.takeWhile g).length).length := by
        refine Nat.lt_of_le_of_ne (by rw [List.length_drop]; exact h2) fun w => ?_
        have w2 := takeWhile_full (g := g) (l := (x.cps.toList.drop (x.cps.toList.takeWhile g).length).reverse) (by rw [List.length_reverse]; exact w)
        rw [z, List.reverse_cons, List.all_append, Bool.and_eq_true] at w2
        have w3 := w2.2
        rw [List.all_cons, hc] at w3
        cases w3
      rw [List.length_drop] at z3
      omega
  · intro h
    rw [takeWhile_all h, List.drop_length]
    simp [hl]
end K0
end
/-! ### OG -/
section
set_option Elab.async false
set_option linter.all false
set_option maxRecDepth 100000
set_option maxHeartbeats 4000000
/-! origins_of. -/
namespace K0
open PySem PySem.Spec PyProof.Rows L2 LamX
open MD (dM KeysV KeyV)
abbrev ogN : List Str := ["look", "origins", "view", "moves", "other", "sign"]
theorem scOrigins : FnScope ogN ["look"] (defScope (top iOrigins)) := ⟨rfl, rfl, rfl, by decide +kernel, rfl, by decide +kernel, by decide +kernel⟩
/-- a row of a look -/
def LookAt (K : PySem.W.Frag) (w : World) (H : Hp) (v : V) : Prop := ∃ (T d : Addr) (o : Int) (rows : List MD.Row), v = .ref T ∧ SqT K H T [.ref d, .int o] ∧ H d = some (dM w d rows) ∧ KeysV K H rows ∧ ∀ r ∈ rows, ∃ n : Int, r.2.2 = .int n
def spOrigins (K : PySem.W.Frag) (w : World) : Sp := fun vs H Q _ => ∃ (p : Addr) (xs : List V), vs = [.ref p] ∧ SqT K H p xs ∧ xs.length ≤ 3 ∧ (∀ x ∈ xs, LookAt K w H x) ∧ ∀ H' q, Same H H' → Q (.ref q) H'
mutual
theorem KeyV.off {K : PySem.W.Frag} {H : Hp} {l : Addr} {u : HO} (h1 : ∀ xs, H l ≠ some (.tup xs)) (h2 : ∀ o xs, H l ≠ some (.frz o (.tup xs))) : ∀ (k : MD.NK) (v : V), KeyV K H v k → KeyV K (upd H l u) v k
  | .tup ks, _, h => by
    cases h with
    | atom q => exact .atom q
    | tup s hs =>
      refine .tup ?_ (KeyVs.off h1 h2 ks _ hs)
      rcases s with (s | ⟨o, s⟩) | s
      · exact .inl (.inl (by rw [upd_ne (fun z => h1 _ (z ▸ s))]; exact s))
      · exact .inl (.inr ⟨o, by rw [upd_ne (fun z => h2 _ _ (z ▸ s))]; exact s⟩)
      · exact .inr s
  | .none, _, h => by cases h with | atom q => exact .atom q
  | .num _, _, h => by cases h with | atom q => exact .atom q
  | .text _, _, h => by cases h with | atom q => exact .atom q
theorem KeyVs.off {K : PySem.W.Frag} {H : Hp} {l : Addr} {u : HO} (h1 : ∀ xs, H l ≠ some (.tup xs)) (h2 : ∀ o xs, H l ≠ some (.frz o (.tup xs))) : ∀ (ks : List MD.NK) (vs : List V), MD.KeyVs K H vs ks → MD.KeyVs K (upd H l u) vs ks
  | [], _, h => by cases h; exact .nil
  | k :: ks, _, h => by cases h with | cons q r => exact .cons (KeyV.off h1 h2 k _ q) (KeyVs.off h1 h2 ks _ r)
end
theorem KeysV.off {K : PySem.W.Frag} {H : Hp} {l : Addr} {u : HO} {kvs : List MD.Row} (h : KeysV K H kvs) (h1 : ∀ xs, H l ≠ some (.tup xs)) (h2 : ∀ o xs, H l ≠ some (.frz o (.tup xs))) : KeysV K (upd H l u) kvs := fun p m => ⟨KeyV.off h1 h2 _ _ (h p m).1, (h p m).2⟩
/-- the lists of places that are gathered -/
def Gath (K : PySem.W.Frag) (w : World) (H0 H : Hp) (D : Addr) (n : Nat) : Prop := Same H0 H ∧ H0 D = none ∧ ∃ kvs : List MD.Row, H D = some (dM w D kvs) ∧ kvs.length ≤ n ∧ KeysV K H kvs ∧ ∀ r ∈ kvs, ∃ (l : Addr) (ys : List V), r.2.2 = .ref l ∧ H0 l = none ∧ H l = some (.lst ys) ∧ ys.length ≤ n
theorem back_none {H H' : Hp} {a : Addr} (s : Same H H') (n : H' a = none) : H a = none := by
  cases z : H a with
  | none => rfl
  | some o => rw [s _ _ z] at n; cases n
theorem Gath.ext {K : PySem.W.Frag} {w : World} {H0 H H' : Hp} {D : Addr} {n m : Nat} (g : Gath K w H0 H D n) (s : Same H H') (le : n ≤ m) : Gath K w H0 H' D m := by
  obtain ⟨a, b, kvs, c, d, e, f⟩ := g
  refine ⟨a.trans s, b, kvs, s _ _ c, Nat.le_trans d le, e.same s, fun r hr => ?_⟩
  obtain ⟨l, ys, h1, h2, h3, h4⟩ := f r hr
  exact ⟨l, ys, h1, h2, s _ _ h3, Nat.le_trans h4 le⟩
theorem Gath.app {K : PySem.W.Frag} {w : World} {H0 H : Hp} {D l : Addr} {n : Nat} {ys : List V} {x : V} (g : Gath K w H0 H D n) (nl : H0 l = none) (hl : H l = some (.lst ys)) (le : ys.length ≤ n) : Gath K w H0 (upd H l (.lst (ys ++ [x]))) D (n + 1) := by
  obtain ⟨a, b, kvs, c, d, e, f⟩ := g
  have ne : D ≠ l := fun z => by rw [z, hl] at c; cases c
  refine ⟨fun q o z => by rw [upd_ne (ne_of_none z nl)]; exact a q o z, b, kvs, by rw [upd_ne ne]; exact c, Nat.le_succ_of_le d, KeysV.off e (fun xs z => by rw [hl] at z; cases z) (fun o xs z => by rw [hl] at z; cases z), fun r hr => ?_⟩
  obtain ⟨m, zs, h1, h2, h3, h4⟩ := f r hr
  by_cases q : m = l
  · subst q
    refine ⟨m, ys ++ [x], h1, h2, upd_same, ?_⟩
    rw [List.length_append]
    exact Nat.succ_le_succ le
  · exact ⟨m, zs, h1, h2, by rw [upd_ne q]; exact h3, Nat.le_succ_of_le h4⟩
theorem Gath.new {K : PySem.W.Frag} {w : World} {H0 H : Hp} {D l q : Addr} {n : Nat} {k : MD.NK} {kvs : List MD.Row} (g : Same H0 H ∧ H0 D = none) (c : H D = some (dM w D kvs)) (d : kvs.length ≤ n) (e : KeysV K H kvs) (f : ∀ r ∈ kvs, ∃ (l : Addr) (ys : List V), r.2.2 = .ref l ∧ H0 l = none ∧ H l = some (.lst ys) ∧ ys.length ≤ n)
    (kq : KeyV K H (.ref q) k) (dk : k.depth ≤ 8) (nl : H0 l = none) (hl : H l = some (.lst [])) : Gath K w H0 (upd H D (dM w D (kvs ++ [(k, .ref q, .ref l)]))) D (n + 1) := by
  have n1 : ∀ xs, H D ≠ some (.tup xs) := fun xs z => by rw [c] at z; cases z
  have n2 : ∀ o xs, H D ≠ some (.frz o (.tup xs)) := fun o xs z => by rw [c] at z; cases z
  refine ⟨fun b o z => by rw [upd_ne (ne_of_none z g.2)]; exact g.1 b o z, g.2, _, upd_same, by rw [List.length_append]; exact Nat.succ_le_succ d, fun r hr => ?_, fun r hr => ?_⟩
  · rcases List.mem_append.mp hr with z | z
    · exact KeysV.off e n1 n2 r z
    · rw [List.mem_singleton.mp z]
      exact ⟨KeyV.off n1 n2 _ _ kq, dk⟩
  · have off : ∀ {m : Addr} {zs : List V}, H m = some (.lst zs) → (upd H D (dM w D (kvs ++ [(k, .ref q, .ref l)]))) m = some (.lst zs) := fun {m zs} z => by
      rw [upd_ne (fun y => by rw [y, c] at z; cases z)]; exact z
    rcases List.mem_append.mp hr with z | z
    · obtain ⟨m, zs, h1, h2, h3, h4⟩ := f r z
      exact ⟨m, zs, h1, h2, off h3, Nat.le_succ_of_le h4⟩
    · rw [List.mem_singleton.mp z]
      exact ⟨l, [], rfl, nl, off hl, Nat.zero_le _⟩
theorem look_any {rows : List MD.Row} {k : MD.NK} {P : V → Prop} {d : V} (h : ∀ r ∈ rows, P r.2.2) (hd : P d) : P ((MD.look rows k).getD d) := by
  unfold MD.look
  cases e : rows.find? (fun x => decide (x.1 = k)) with
  | none => exact hd
  | some r => exact h r (List.mem_of_find?_eq_some e)
section
variable {P : Program} {w : World} {K : PySem.W.Frag} {mg : Str → Option Value} {base : Heap} {f : Addr} {fd : FuncData}
theorem ok_origins {k : Nat} (F : FnP K "origins_of" iOrigins f fd) (menum : mg "enumerate" = none) (ms : ∃ t, mg "SIGNS" = some (.str allSigns t)) : FnOk P w K mg base CX0 (k + 1) f fd ["look"] (spOrigins K w) := by
  refine F.ok scOrigins (fun vs H Q E h => ?_) (fun cdv A outer s H vs Q E hr h => ?_)
  · obtain ⟨p, xs, rfl, _⟩ := h
    rfl
  · obtain ⟨p, xs, rfl, hT, l3, ats, q⟩ := h
    obtain ⟨tk, ms⟩ := ms
    refine ⟨_, PSs.nox (pss_cons (ps_set (i := 1) scOrigins.nd rfl (.inl rfl) MD.pe_mnew)
      (C8.pss_cut (ps_for PassesOwn.never rfl (ET.pi_enumT (by rfl) menum (pa_cons (pv 0) pa_nil)) (pg_tup rfl (pgs_cons (pg_name (i := 2) scOrigins.nd rfl (.inl rfl)) (pgs_cons (pg_tup rfl (pgs_cons (pg_name (i := 3) scOrigins.nd rfl (.inl rfl)) (pgs_cons (pg_name (i := 4) scOrigins.nd rfl (.inl rfl)) pgs_nil))) pgs_nil)))
        (pss_one (ps_for PassesOwn.never rfl (pi_str (pe_glob (v := .str allSigns) (by rfl) ms ⟨tk, rfl⟩)) (pg_name (i := 5) scOrigins.nd rfl (.inl rfl))
          (pss_one (ps_expr (pe_bm PySem.F.plainAttrs_list PySem.F.slot_list_append PySem.F.type_list_append mt_append
            (MD.pe_msetd hr.units (pv 1) (pe_tup (pa_cons (pv 5) (pa_cons (MD.pe_mget2 hr.units (pv 3) (pv 5) (pv 4) ⟨rfl, rfl, rfl, rfl⟩) pa_nil))) (pe_lst pa_nil) ⟨rfl, rfl, rfl, rfl⟩) (pa_cons (pv 2) pa_nil)))))))
      (pss_one (ps_ret (pv 1))))), ?_⟩
    refine fun D nD => ?_
    refine ⟨fun σ' H' => ∃ x2 x3 x4 x5, σ' = [some (.ref p), some (.ref D), x2, x3, x4, x5] ∧ ∃ n, Gath K w H H' D n, ?_, ?_⟩
    · refine ⟨_, rfl, p, xs, rfl, ?_, for_it ET.walk_enumT (fun i σ' H' => ∃ x2 x3 x4 x5, σ' = [some (.ref p), some (.ref D), x2, x3, x4, x5] ∧ Gath K w H H' D (30 * i)) ⟨none, none, none, none, rfl, same_upd nD, nD, [], upd_same, Nat.zero_le _, fun _ m => absurd m List.not_mem_nil, fun _ m => absurd m List.not_mem_nil⟩ (fun i σ' H' _ z => ?_) (fun i x σ' H' H'' lt' z y => ?_) (fun σ' H' z => ?_)⟩
      · exact same_tup (same_upd nD) hT
      · obtain ⟨_, _, _, _, _, g⟩ := z
        exact same_tup g.1 hT
      · obtain ⟨x2, x3, x4, x5, rfl, g⟩ := z
        obtain ⟨T, y, rfl, nT, rfl, hx⟩ := y
        obtain ⟨T2, d, o, rows, rfl, hT2, hd, hks, hn⟩ := ats y (List.mem_of_getElem? hx)
        have g1 : Gath K w H (upd H' T (.tup [.int (i : Nat), .ref T2])) D (30 * i) := by
          obtain ⟨s1, nD1, kvs, e1, l1, ks1, v1⟩ := g
          have up := same_upd (o := .tup [.int (i : Nat), .ref T2]) nT
          refine ⟨s1.trans up, nD1, kvs, up _ _ e1, l1, ks1.same up, fun r m => ?_⟩
          obtain ⟨l, ys, a1, a2, a3, a4⟩ := v1 r m
          exact ⟨l, ys, a1, a2, up _ _ a3, a4⟩
        have s0 := g.1
        have s1 := g1.1
        refine ⟨T, _, rfl, .inl (.inl upd_same), rfl, _, _, rfl, _, _, rfl, T2, _, rfl, same_tup s1 hT2, rfl, _, _, rfl, _, _, rfl, rfl, rfl, ?_⟩
        refine ⟨allSigns, rfl, for_it walk_str (fun j σ' H' => ∃ x5, σ' = [some (.ref p), some (.ref D), some (.int (i : Nat)), some (.ref d), some (.int o), x5] ∧ Gath K w H H' D (30 * i + 2 * j)) ⟨x5, rfl, g1⟩ (fun _ _ _ _ _ => True.intro) (fun j x σ' H' H'' lt z y => ?_) (fun σ' H' z => ?_)⟩
        · obtain ⟨x5, rfl, s2, nD2, kvs, e2, l2, ks2, v2⟩ := z
          obtain ⟨rfl, c, hc, rfl⟩ := y
          have i3 : i < 3 := Nat.lt_of_lt_of_le lt' l3
          have j15 : j < 15 := by
            have : j < allSigns.cps.size := lt
            exact this
          have sl : sizeLine = 16777216 := sizeLine_eq
          refine ⟨_, rfl, D, rfl, ⟨kvs, e2⟩, ?_⟩
          obtain ⟨m, hm⟩ : ∃ m : Int, (MD.look rows (.text ⟨#[c]⟩)).getD (.int o) = .int m := look_any (P := fun v => ∃ m : Int, v = .int m) hn ⟨o, rfl⟩
          refine ⟨_, rfl, _, rfl, d, rfl, ⟨rows, s2 _ _ hd⟩, _, rfl, _, rfl, .text ⟨#[c]⟩, rows, s2 _ _ hd, hks.same s2, .atom rfl, (by show 0 ≤ 8; decide), ?_⟩
          rw [hm]
          refine ⟨by show 2 ≤ sizeLine; omega, fun q nq => ?_⟩
          refine ⟨by show 0 ≤ sizeLine; omega, fun l nl => ?_⟩
          have u1 : Same H'' (upd H'' q (.tup [.str ⟨#[c]⟩, .int m])) := same_upd nq
          have u2 : Same (upd H'' q (.tup [.str ⟨#[c]⟩, .int m])) (upd (upd H'' q (.tup [.str ⟨#[c]⟩, .int m])) l (.lst [])) := same_upd nl
          have u3 := u1.trans u2
          refine ⟨.tup [.text ⟨#[c]⟩, .num m], kvs, u3 _ _ e2, ks2.same u3, .tup (.inl (.inl (u2 _ _ upd_same))) (.cons (.atom rfl) (.cons (.atom rfl) .nil)), (by show 1 ≤ 8; decide), by omega, fun v hv => ?_, fun hv => ?_⟩
          · have g3 : Gath K w H (upd (upd H'' q (.tup [.str ⟨#[c]⟩, .int m])) l (.lst [])) D (30 * i + 2 * j) := Gath.ext ⟨s2, nD2, kvs, e2, l2, ks2, v2⟩ u3 (Nat.le_refl _)
            unfold MD.look at hv
            obtain ⟨r, hr2, rfl⟩ := Option.map_eq_some_iff.mp hv
            obtain ⟨l', ys, a1, a2, a3, a4⟩ := v2 r (List.mem_of_find?_eq_some hr2)
            rw [a1]
            refine ⟨.inl ⟨rfl, _, SqL.of (u3 _ _ a3)⟩, _, rfl, l', ys, .int (i : Nat), rfl, rfl, u3 _ _ a3, by omega, ⟨_, rfl, ?_⟩⟩
            exact (g3.app a2 (u3 _ _ a3) a4).ext (fun _ _ z => z) (by omega)
          · have nl0 : H l = none := back_none (s2.trans u1) nl
            have hl : (upd (upd H'' q (.tup [.str ⟨#[c]⟩, .int m])) l (.lst [])) l = some (.lst []) := upd_same
            have g4 := Gath.new (k := .tup [.text ⟨#[c]⟩, .num m]) (q := q) ⟨s2.trans u3, nD2⟩ (u3 _ _ e2) l2 (ks2.same u3) (fun r hr => by
              obtain ⟨l', ys, a1, a2, a3, a4⟩ := v2 r hr
              exact ⟨l', ys, a1, a2, u3 _ _ a3, a4⟩) (.tup (.inl (.inl (u2 _ _ upd_same))) (.cons (.atom rfl) (.cons (.atom rfl) .nil))) (by show 1 ≤ 8; decide) nl0 hl
            have lD : l ≠ D := fun z => by
              have := (s2.trans u1)
              rw [z] at nl
              rw [u1 _ _ e2] at nl
              cases nl
            have hl2 : (upd (upd (upd H'' q (.tup [.str ⟨#[c]⟩, .int m])) l (.lst [])) D (dM w D (kvs ++ [(.tup [.text ⟨#[c]⟩, .num m], .ref q, .ref l)]))) l = some (.lst []) := by rw [upd_ne lD]; exact hl
            refine ⟨.inl ⟨rfl, _, SqL.of hl2⟩, _, rfl, l, [], .int (i : Nat), rfl, rfl, hl2, by show 0 < sizeLine; omega, ⟨_, rfl, ?_⟩⟩
            exact (g4.app nl0 hl2 (Nat.zero_le _)).ext (fun _ _ z => z) (by omega)
        · obtain ⟨x5, rfl, g2⟩ := z
          exact ⟨_, _, _, _, rfl, g2.ext (fun _ _ z => z) (by
            have : allSigns.cps.size = 15 := rfl
            omega)⟩
      · obtain ⟨x2, x3, x4, x5, rfl, g⟩ := z
        exact ⟨_, _, _, _, rfl, _, g⟩
    · rintro σ' H' ⟨x2, x3, x4, x5, rfl, n, g⟩
      exact ⟨_, rfl, q H' D g.1⟩
end
end K0
end
/-! ### A2 -/
section
set_option Elab.async false
set_option linter.all false
set_option maxRecDepth 100000
set_option maxHeartbeats 4000000
/-! is_number, is_sign, is_text, and the same told sign by sign. -/
namespace K0
open PySem PySem.Spec PyProof.Rows L2
def sgAll (z : Str) : Bool := z.cps.toList.all fun c => allSigns.cps.contains c
def isTextD : PyData → Bool
  | .str z => sgAll z
  | _ => false
def isSignD : PyData → Bool
  | .str z => decide (z.length = 1) && sgAll z
  | _ => false
def isNumD (lo hi : Int) : PyData → Bool
  | .int i => decide (lo ≤ i) && decide (i ≤ hi)
  | _ => false
theorem sg_mem (c : Nat) : allSigns.cps.contains c = decide (c ∈ allSigns.cps.toList) := by
  rw [Array.contains_eq_mem]
  exact decide_eq_decide.mpr Array.mem_toList_iff.symm
theorem one_cp {z : Str} (h : z.length = 1) : ∃ c, z = ⟨#[c]⟩ := by
  obtain ⟨⟨l⟩⟩ := z
  match l, h with
  | [c], _ => exact ⟨c, rfl⟩
theorem not_str {d : PyData} (h : ¬ isStrD d = true) : isTextD d = false ∧ isSignD d = false := by
  cases d <;> first | exact ⟨rfl, rfl⟩ | exact absurd rfl h
theorem is_str {K : PySem.W.Frag} {H : Hp} {v : V} {d : PyData} (hd : Dv K H v d) (h : isStrD d = true) : ∃ z, v = .str z ∧ d = .str z := by
  cases hd <;> first | exact ⟨_, rfl, rfl⟩ | cases h
theorem scText : FnScope ["value"] ["value"] (defScope (top iIsText)) := ⟨rfl, rfl, rfl, by decide +kernel, rfl, by decide +kernel, by decide +kernel⟩
def spNum (K : PySem.W.Frag) : Sp := fun vs H Q _ => ∃ (v : V) (d : PyData) (lo hi : Int), vs = [v, .int lo, .int hi] ∧ Dv K H v d ∧ Q (.bl (isNumD lo hi d)) H
/-- a bool that hangs on the value's data; what is told is that f of it; texts are short enough -/
def spD (K : PySem.W.Frag) (f : PyData → Bool) : Sp := fun vs H Q _ => ∃ (v : V) (d : PyData), vs = [v] ∧ Dv K H v d ∧ d.bulk ≤ 100000 ∧ ∀ H', Same H H' → Q (.bl (f d)) H'
theorem small5 {n : Nat} (h : n ≤ 100000) : n < sizeLine := by rw [sizeLine_eq]; omega
section
variable {P : Program} {w : World} {K : PySem.W.Frag} {mg : Str → Option Value} {base : Heap} {f : Addr} {fd : FuncData}
theorem ok_text {k : Nat} (F : FnP K "is_text" iIsText f fd) (misi : mg "isinstance" = none) (mstr : mg "str" = none) (ms : ∃ t, mg "SIGNS" = some (.str allSigns t)) : FnOk P w K mg base CX0 (k + 1) f fd ["value"] (spD K isTextD) := by
  refine F.ok scText (fun vs H Q E h => ?_) (fun cdv A outer s H vs Q E hr h => ?_)
  · obtain ⟨v, d, rfl, _⟩ := h
    rfl
  · obtain ⟨v, d, rfl, hd, sz, q⟩ := h
    obtain ⟨t, ms⟩ := ms
    refine ⟨_, PSs.nox (pss_one (ps_ret (pe_and (pe_callB call_isi (by rfl) misi boot_isinstance (pa_cons (pv 0) (pa_cons (pe_bltn (v := .ty "str") (by rfl) mstr (by decide +kernel) rfl) pa_nil)))
      (pe_one (pe_cmpR op_eq (pe_bm PySem.F.plainAttrs_str PySem.F.slot_str_strip PySem.F.type_str_strip mt_stripChars (pv 0) (pa_cons (pe_glob (v := .str allSigns) (by rfl) ms ⟨t, rfl⟩) pa_nil)) pe_str (nomark _)))))), ?_⟩
    refine ⟨_, rfl, v, _, _, _, _, rfl, .ty _, hd.ty, kit_str d, _, rfl, ite2 (fun e => ?_) (fun e => ?_)⟩
    · obtain ⟨z, rfl, rfl⟩ := is_str hd e
      refine ⟨_, rfl, rfl, z, allSigns, rfl, rfl, Nat.le_of_lt (small5 sz), rfl, ?_⟩
      have y : isTextD (.str z) = decide (V.str (Txt.stripChars z allSigns) = V.str ("" : Str)) := by
        have x := (strip_len z allSigns)
        by_cases u : (Txt.stripChars z allSigns).length = 0
        · rw [decide_eq_true (by rw [str_nil.mpr u])]
          exact x.mp u
        · rw [decide_eq_false (fun w => u (by injection w with w; exact str_nil.mp w))]
          exact Bool.eq_false_iff.mpr fun w => u (x.mpr w)
      have q2 := q H (Same.refl H)
      rw [y] at q2
      exact q2
    · have q2 := q H (Same.refl H)
      rw [(not_str e).1] at q2
      exact q2
end
end K0
end
/-! ### A2b -/
section
set_option Elab.async false
set_option linter.all false
set_option maxRecDepth 100000
set_option maxHeartbeats 4000000
/-! is_number, is_sign (k01's, other places of the top). -/
namespace K0
open PySem PySem.Spec PyProof.Rows L2
theorem scNum : FnScope ["value", "low", "high"] ["value", "low", "high"] (defScope (top iNum)) := ⟨rfl, rfl, rfl, by decide +kernel, rfl, by decide +kernel, by decide +kernel⟩
theorem scSign : FnScope ["value"] ["value"] (defScope (top iSign)) := ⟨rfl, rfl, rfl, by decide +kernel, rfl, by decide +kernel, by decide +kernel⟩
section
variable {P : Program} {w : World} {K : PySem.W.Frag} {mg : Str → Option Value} {base : Heap} {f : Addr} {fd : FuncData}
theorem ok_num {k : Nat} (F : FnP K "is_number" iNum f fd) (misi : mg "isinstance" = none) (mint : mg "int" = none) (mbool : mg "bool" = none) : FnOk P w K mg base CX0 (k + 1) f fd ["value", "low", "high"] (spNum K) := by
  refine F.ok scNum (fun vs H Q E h => ?_) (fun cdv A outer s H vs Q E hr h => ?_)
  · obtain ⟨v, d, lo, hi, rfl, _⟩ := h
    rfl
  · obtain ⟨v, d, lo, hi, rfl, hd, q⟩ := h
    refine ⟨_, PSs.nox (pss_one (ps_ret (pe_and (pe_callB call_isi (by rfl) misi boot_isinstance (pa_cons (pv 0) (pa_cons (pe_bltn (v := .ty "int") (by rfl) mint (by decide +kernel) rfl) pa_nil))) (pe_and (pe_not (pe_callB call_isi (by rfl) misi boot_isinstance (pa_cons (pv 0) (pa_cons (pe_bltn (v := .ty "bool") (by rfl) mbool (by decide +kernel) rfl) pa_nil))))
      (pe_one (pe_chain op_le op_le (pv 1) (pv 0) (pv 2))))))), ?_⟩
    refine ⟨_, rfl, v, _, _, _, _, rfl, .ty _, hd.ty, kit_int d, _, rfl, ite2 (fun e => ?_) (fun e => ?_)⟩
    · refine ⟨_, rfl, v, _, _, _, _, rfl, .ty _, hd.ty, kit_bool d, _, rfl, _, rfl, ite2 (fun e2 => ?_) (fun e2 => ?_)⟩
      · cases hd with
        | int i =>
          refine ⟨_, rfl, _, rfl, _, _, rfl, rfl, _, rfl, ite2 (fun e3 => ?_) (fun e3 => ?_)⟩
          · refine ⟨_, rfl, _, _, rfl, rfl, ?_⟩
            have y : isNumD lo hi (.int i) = decide (i ≤ hi) := by
              show (decide (lo ≤ i) && decide (i ≤ hi)) = _
              rw [e3, Bool.true_and]
            rw [y] at q
            exact q
          · have y : isNumD lo hi (.int i) = false := by
              show (decide (lo ≤ i) && decide (i ≤ hi)) = _
              rw [Bool.eq_false_iff.mpr e3, Bool.false_and]
            rw [y] at q
            exact q
        | bl b => exact absurd (show (false = true) from e2) Bool.false_ne_true
        | _ => cases e
      · cases hd with
        | bl b => exact q
        | _ => first | exact absurd rfl e2 | cases e
    · cases hd with
      | int i => exact absurd rfl e
      | _ => exact q
theorem ok_sign {k : Nat} (F : FnP K "is_sign" iSign f fd) (misi : mg "isinstance" = none) (mstr : mg "str" = none) (mlen : mg "len" = none) (ms : ∃ t, mg "SIGNS" = some (.str allSigns t)) : FnOk P w K mg base CX0 (k + 1) f fd ["value"] (spD K isSignD) := by
  refine F.ok scSign (fun vs H Q E h => ?_) (fun cdv A outer s H vs Q E hr h => ?_)
  · obtain ⟨v, d, rfl, _⟩ := h
    rfl
  · obtain ⟨v, d, rfl, hd, sz, q⟩ := h
    obtain ⟨t, ms⟩ := ms
    refine ⟨_, PSs.nox (pss_one (ps_ret (pe_and (pe_callB call_isi (by rfl) misi boot_isinstance (pa_cons (pv 0) (pa_cons (pe_bltn (v := .ty "str") (by rfl) mstr (by decide +kernel) rfl) pa_nil))) (pe_and (pe_cmpR op_eq (pe_callB call_len (by rfl) mlen PySem.boot_len (pa_cons (pv 0) pa_nil)) pe_int (nomark _))
      (pe_one (pe_cmpR op_inS (pv 0) (pe_glob (v := .str allSigns) (by rfl) ms ⟨t, rfl⟩) (by rfl))))))), ?_⟩
    refine ⟨_, rfl, v, _, _, _, _, rfl, .ty _, hd.ty, kit_str d, _, rfl, ite2 (fun e => ?_) (fun e => ?_)⟩
    · obtain ⟨z, rfl, rfl⟩ := is_str hd e
      refine ⟨_, rfl, _, z.length, rfl, ⟨Nat.le_of_lt (small5 sz), rfl⟩, rfl, _, rfl, ite2 (fun e2 => ?_) (fun e2 => ?_)⟩
      · have z1 : z.length = 1 := by
          have y := of_decide_eq_true e2
          injection y with y
          omega
        obtain ⟨c, rfl⟩ := one_cp z1
        refine ⟨_, rfl, c, allSigns, rfl, rfl, ?_⟩
        have y : isSignD (.str ⟨#[c]⟩) = decide (c ∈ allSigns.cps.toList) := by
          show (decide ((1 : Nat) = 1) && ([c].all fun c => allSigns.cps.contains c)) = _
          rw [← sg_mem]
          simp
        rw [← y]
        exact q H (Same.refl H)
      · have y : isSignD (.str z) = false := by
          have z1 : z.length ≠ 1 := fun x => e2 (decide_eq_true (by rw [x]; rfl))
          show (decide (z.length = 1) && sgAll z) = false
          rw [decide_eq_false z1, Bool.false_and]
        have q2 := q H (Same.refl H)
        rw [y] at q2
        exact q2
    · have q2 := q H (Same.refl H)
      rw [(not_str e).2] at q2
      exact q2
end
end K0
end
/-! ### A5 -/
section
set_option Elab.async false
set_option linter.all false
set_option maxRecDepth 100000
set_option maxHeartbeats 4000000
/-! list(text); items in a drawn order. -/
namespace K0
open PySem PySem.Spec PyProof.Rows L2
def signsV (z : Str) : List V := z.cps.toList.map fun c => V.str ⟨#[c]⟩
theorem signs_vals {z : Str} {acc : Array Value} (h : ItemsOf (SignAt z) acc z.cps.size) : Vals (signsV z) acc.toList := by
  obtain ⟨h1, h2⟩ := h
  have go : ∀ (l : List Nat) (us : List Value), us.length = l.length → (∀ (j : Nat) (v : Value), us[j]? = some v → ∃ (c : Nat) (u : Tok), l[j]? = some c ∧ v = Value.str ⟨#[c]⟩ u) → Vals (l.map fun c => V.str ⟨#[c]⟩) us := by
    intro l
    induction l with
    | nil =>
      intro us e _
      rw [List.eq_nil_of_length_eq_zero e]
      exact .nil
    | cons c l ih =>
      intro us e f
      cases us with
      | nil => cases e
      | cons u us =>
        obtain ⟨c', t, e1, e2⟩ := f 0 u rfl
        cases e1
        refine .cons ⟨t, e2⟩ (ih us (by simpa using e) fun j v z => ?_)
        exact f (j + 1) v z
  refine go _ _ (by simpa using h1) fun j v e => ?_
  obtain ⟨c, u, e1, e2⟩ := h2 j v (by simpa using e)
  exact ⟨c, u, by simpa using e1, e2⟩
section
variable {X : Cx}
theorem call_list_txt (hc : X.calm = true) : CallR X (.type "list") (fun xs H Q => ∃ z, xs = [.str z] ∧ z.length ≤ sizeLine ∧ ∀ l, H l = none → Q (.ref l) (upd H l (.lst (signsV z)))) := by
  intro pins s σ H xs us Q I r h
  obtain ⟨z, rfl, hz, q⟩ := h
  obtain ⟨u, rfl, t, rfl⟩ := vals1 r
  refine call_list_str (I.ok.hd hc) z t (fun h' tk acc c kp e it => ?_) hz
  refine ⟨.ref s.heap.objs.size, _, I.laid (t' := tk) kp (Nat.le_refl _) (show ObjOk X.prog X.w _ h' _ (.lst (signsV z)) from ⟨?_, acc.toList, c, signs_vals it, e⟩), rfl, q _ (I.hok.fresh (Nat.le_refl _))⟩
  show (signsV z).length ≤ sizeLine
  unfold signsV
  rw [List.length_map]
  exact hz
end
theorem mr_popAt {X : Cx} : MtR X "list.pop" rPopAt := mt_popAt
def rLenS (K : PySem.W.Frag) : List V → Hp → VK → Prop := fun xs H Q => ∃ p ys, xs = [.ref p] ∧ (SqL K H p ys ∨ SqT K H p ys) ∧ Q (.int ys.length) H
/-- within a comprehension, where the written part must be named -/
theorem call_lenK {X : Cx} (K : PySem.W.Frag) (e : X.K = K) : CallR X (.builtin "len") (rLenS K) := by
  subst e
  exact call_len_seq
theorem pe_asK {X : Cx} {e : Expr} {T : String} {r : V → List V → Hp → VK → Prop} {to : TE} {t : TA} (K : PySem.W.Frag) (hK : X.K = K) (h : PE X e (tBM X.K T r to t)) : PE X e (tBM K T r to t) := hK ▸ h
theorem taken_perm {α : Type} : ∀ {l : List α} {i : Nat} {y : α}, l[i]? = some y → (y :: l.eraseIdx i).Perm l
  | x :: l, 0, y, h => by
    cases h
    exact List.Perm.refl _
  | x :: l, i + 1, y, h => by
    have z := taken_perm (l := l) (i := i) (y := y) (by simpa using h)
    exact (List.Perm.swap x y _).trans (z.cons x)
theorem scMixed : FnScope ["dice", "items", "left", "turn"] ["dice", "items"] (defScope (top iMixed)) := ⟨rfl, rfl, rfl, by decide +kernel, rfl, by decide +kernel, by decide +kernel⟩
def spMixed (K : PySem.W.Frag) : Sp := fun vs H Q _ => ∃ (p : Addr) (a b c : Int) (q : Addr) (xs : List V), vs = [.ref p, .ref q] ∧ H p = some (dk a b c) ∧ SqL K H q xs ∧ xs.length ≤ 1000 ∧ ∀ H' l ys, Keep p H H' → ys.Perm xs → H' l = some (.lst ys) → l ≠ p → Q (.ref l) H'
section
variable {P : Program} {w : World} {K : PySem.W.Frag} {mg : Str → Option Value} {base : Heap} {f fR : Addr} {fd fdR : FuncData}
theorem ok_mixed {k : Nat} (F : FnP K "_law_mixed" iMixed f fd) (mlist : mg "list" = none) (mlen : mg "len" = none) (mrange : mg "range" = none)
    (FR : FnOk P w K mg base CX0 (k + 1) fR fdR ["dice", "total"] spRoll) (gR : mg "_law_roll" = some (.ref fR)) (kR : PySem.W.keepIn K (.ref fR) = true) (bR : Binds K fdR ["dice", "total"] []) : FnOk P w K mg base CX0 (k + 2) f fd ["dice", "items"] (spMixed K) := by
  refine F.ok scMixed (fun vs H Q E h => ?_) (fun cdv A outer s H vs Q E hr h => ?_)
  · obtain ⟨p, a, b, c, q, xs, rfl, _⟩ := h
    rfl
  · obtain ⟨p, a, b, c, ad, xs, rfl, hp, hS, hz, q⟩ := h
    refine ⟨_, PSs.nox (pss_cons (ps_set (i := 2) scMixed.nd rfl (.inr rfl) (pe_callTy call_list_of (by rfl) mlist (by decide +kernel) (pa_cons (pv 1) pa_nil)))
      (pss_one (ps_ret (pe_lc (own := [("turn", 3)]) (g := gName 3) (tt := tYes) rfl scMixed.nd (pi_range1 (by rfl) mrange (pa_cons (pe_callB call_len_seq (by rfl) mlen PySem.boot_len (pa_cons (pv 1) pa_nil)) pa_nil)) (blkOk_by (N := ["dice", "items", "left", "turn"]) (sc := defScope (top iMixed)) (by decide +kernel))
        (fun _ _ _ _ _ => pg_name (i := 3) scMixed.nd rfl (Or.inl rfl)) (fun _ _ _ _ _ => pts_nil) (fun _ _ _ _ _ => pe_asK K rfl (pe_bm PySem.F.plainAttrs_list PySem.F.slot_list_pop PySem.F.type_list_pop mr_popAt (pv 2) (pa_cons (pe_call FR hr (by rfl) gR kR bR .nil pass0 (pa_cons (pv 0) (pa_cons (pe_callB (call_lenK K rfl) (by rfl) mlen PySem.boot_len (pa_cons (pv 2) pa_nil)) pa_nil))) pa_nil))))))), ?_⟩
    refine ⟨_, rfl, ad, xs, rfl, .inl hS, fun L nL => ?_⟩
    have k1 : Keep p H (upd H L (.lst xs)) := .new hp nL
    have s1 : Same H (upd H L (.lst xs)) := same_upd nL
    have nLp : L ≠ p := (ne_of_none hp nL).symm
    have e62 : (2 : Int) ^ 62 = 4611686018427387904 := by decide
    refine ⟨_, rfl, ad, xs, rfl, .inl (s1.seq hS), _, rfl, by omega, by omega, fun D nD => lc_range (lo := 0) (n := xs.length) (fun m H' => Keep p H H' ∧ D ≠ L ∧ D ≠ p ∧ ∃ rest got, H' L = some (.lst rest) ∧ H' D = some (.lst got) ∧ got.length = m ∧ (got ++ rest).Perm xs) ⟨k1.new2 nD, fun z => ?_, fun z => ?_, xs, [], ?_, upd_same, rfl, .refl _⟩ (fun m H' hm hP => ?_) (fun H' hP => ?_)⟩
    · rw [z, upd_same] at nD
      cases nD
    · rw [z, upd_ne nLp.symm, hp] at nD
      cases nD
    · exact same_upd nD _ _ upd_same
    · obtain ⟨kk, nDL, nDp, rest, got, hL, hD, hg, pm⟩ := hP
      obtain ⟨a1, b1, c1, hp1⟩ := kk.2
      have len := pm.length_eq
      rw [List.length_append] at len
      have r0 : 0 < rest.length := by omega
      refine ⟨rfl, _, rfl, .inl ⟨rfl, _, .of hL⟩, _, rfl, _, rfl, L, rest, rfl, .inl (.of hL), p, a1, b1, c1, rest.length, rfl, hp1, len_div r0 (Nat.le_of_lt (small1000 (by omega))), fun a2 b2 c2 r h0 h1 => ?_⟩
      · have hr2 : r.toNat < rest.length := by omega
        have hy : rest[r.toNat]? = some rest[r.toNat] := List.getElem?_eq_getElem hr2
        have e63 : (2 : Int) ^ 63 = 9223372036854775808 := by decide
        have hL2 : upd H' p (dk a2 b2 c2) L = some (.lst rest) := by rw [upd_ne nLp]; exact hL
        refine ⟨L, rest, r, r.toNat, _, rfl, rfl, hL2, by omega, by omega, seqIndex_of h0 h1, hy, got, ?_, by rw [hg]; exact small1000 (by omega), ?_, nDL, nDp, rest.eraseIdx r.toNat, got ++ [rest[r.toNat]], ?_, upd_same, ?_, ?_⟩
        · rw [upd_ne nDL, upd_ne nDp]
          exact hD
        · refine ⟨fun y o n z => ?_, a2, b2, c2, ?_⟩
          · rw [upd_ne (ne_of_none (k1.1 y o n (by exact z)) nD), upd_ne (ne_of_none z nL), upd_ne n]
            exact kk.1 y o n z
          · rw [upd_ne nDp.symm, upd_ne nLp.symm, upd_same]
        · rw [upd_ne nDL.symm, upd_same]
        · rw [List.length_append, hg]
          rfl
        · rw [List.append_assoc]
          exact ((taken_perm hy).append_left got).trans pm
    · obtain ⟨kk, nDL, nDp, rest, got, hL, hD, hg, pm⟩ := hP
      have len := pm.length_eq
      rw [List.length_append] at len
      have e0 : rest = [] := List.eq_nil_of_length_eq_zero (by omega)
      rw [e0, List.append_nil] at pm
      exact q H' D got kk pm hD nDp
end
end K0
end
/-! ### A5b -/
section
set_option Elab.async false
set_option linter.all false
set_option maxRecDepth 100000
set_option maxHeartbeats 4000000
/-! Tuples that are known to stand as they were made: tuple(list), displays. -/
namespace K0
open PySem PySem.Spec PyProof.Rows L2
/-- a tuple that stands as it was made -/
def FrT (H : Hp) (t : Addr) (xs : List V) : Prop := ∃ o : Obj, H t = some (.frz o (.tup xs)) ∧ o.cls = .type "tuple" ∧ o.dict = none
theorem FrT.sq {K : PySem.W.Frag} {H : Hp} {t : Addr} {xs : List V} (h : FrT H t xs) : SqT K H t xs := let ⟨o, e, _⟩ := h; .inl (.inr ⟨o, e⟩)
theorem FrT.same {H H' : Hp} {t : Addr} {xs : List V} (h : FrT H t xs) (s : Same H H') : FrT H' t xs := let ⟨o, e, z⟩ := h; ⟨o, s _ _ e, z⟩
/-- what a fresh address holds behind a tuple's making -/
def frzT (us : List Value) (xs : List V) : HO := .frz { cls := .type "tuple", data := .seq us.toArray } (.tup xs)
theorem frzT_at {H : Hp} {t : Addr} {us : List Value} {xs : List V} : FrT (upd H t (frzT us xs)) t xs := ⟨_, upd_same, rfl, rfl⟩
section
variable {X : Cx}
theorem call_tuple_frz : CallR X (.type "tuple") (fun xs H Q => ∃ p ys, xs = [.ref p] ∧ SqL X.K H p ys ∧ ∀ t us, H t = none → Q (.ref t) (upd H t (frzT us ys))) := by
  intro pins s σ H xs us Q I r h
  obtain ⟨p, ys, rfl, hq, q⟩ := h
  obtain ⟨u, rfl, rx⟩ := vals1 r
  cases rx
  obtain ⟨its, r', pl, hz⟩ := I.list hq
  have size := r'.length
  refine call_tuple_list pl.isList (fun h' kp => ?_) (by simp only [List.size_toArray] <;> omega)
  have J : Inv X pins σ H { s with heap := h' } := I.kept (t' := s.toks) kp
  refine ⟨.ref h'.objs.size, _, J.laid (t' := s.toks) (fun b o e => Heap.get?_push_of_some _ e) (Nat.le_refl _) (show ObjOk X.prog X.w _ _ _ (frzT its ys) from ⟨Heap.get?_push_size _ rfl, hz, its, r', IsTup.new _ _⟩), rfl, q _ its (J.hok.fresh (Nat.le_refl _))⟩
def tTupF (t : TA) : TE := fun σ H Q => t σ H fun xs H1 => xs.length ≤ sizeLine ∧ ∀ a us, H1 a = none → Q (.ref a) (upd H1 a (frzT us xs))
theorem pe_tupF {es : List Expr} {k : Nat} {pos : Pos} {t : TA} (h : PA X es t) : PE X (.Tuple es k pos) (tTupF t) := by
  refine ⟨fun pins s σ H Q I hq => wpAny_Tuple_spliced (thn (h.run pos pins s σ H _ I hq) fun us s1 ⟨xs, H1, J, r, z, q⟩ => ⟨by rw [← r.length]; exact z, ?_⟩)⟩
  refine ⟨.ref s1.heap.objs.size, _, J.laid (t' := s1.toks) (fun b u e => Heap.get?_push_of_some _ e) (Nat.le_refl _) (show ObjOk X.prog X.w _ _ _ (frzT us xs) from ⟨Heap.get?_push_size _ rfl, z, us, r, ⟨_, Heap.get?_push_size _ rfl, rfl, _, rfl⟩⟩), rfl, q _ us (J.hok.fresh (Nat.le_refl _))⟩
end
end K0
end
/-! ### DW -/
section
set_option Elab.async false
set_option linter.all false
set_option maxRecDepth 100000
set_option maxHeartbeats 4000000
/-! The parts of a cleaner by their data: states, rows of moves, what is a good part. -/
namespace K0
open PySem PySem.Spec PyProof.Rows L2
open MD (dM KeysV KeyV rIsiM call_isiM)
/-- isinstance(v, n) is b -/
def Ist (K : PySem.W.Frag) (w : World) (H : Hp) (v : V) (n : String) (b : Bool) : Prop :=
  (∃ d, Dv K H v d ∧ PySem.W.kitOne K (.type (dty d)) (.type n) = some b) ∨ (∃ a rows, v = .ref a ∧ H a = some (dM w a rows) ∧ PySem.W.kitOne K (.type "dict") (.type n) = some b) ∨
  (∃ a xs, v = .ref a ∧ SqT K H a xs ∧ PySem.W.kitOne K (.type "tuple") (.type n) = some b) ∨ (∃ a xs, v = .ref a ∧ SqL K H a xs ∧ PySem.W.kitOne K (.type "list") (.type n) = some b)
section
variable {K : PySem.W.Frag} {w : World} {H H' : Hp} {v : V} {n : String} {b : Bool}
theorem Ist.same (h : Ist K w H v n b) (e : Same H H') : Ist K w H' v n b := by
  rcases h with ⟨d, h, k⟩ | ⟨a, rows, rfl, h, k⟩ | ⟨a, xs, rfl, h, k⟩ | ⟨a, xs, rfl, h, k⟩
  · exact .inl ⟨d, h.same' e, k⟩
  · exact .inr (.inl ⟨a, rows, rfl, e _ _ h, k⟩)
  · exact .inr (.inr (.inl ⟨a, xs, rfl, same_tup e h, k⟩))
  · exact .inr (.inr (.inr ⟨a, xs, rfl, e.seq h, k⟩))
theorem sqt_ty {a : Addr} {xs : List V} (h1 : SqT K H a xs) : TyX K H (.ref a) (.type "tuple") := by
  rcases h1 with (h1 | ⟨o, h1⟩) | ⟨o, its, n, h1, c, _⟩
  · exact .base (.tup h1)
  · exact .fTuple h1
  · exact .kTuple h1 c
theorem sql_ty {a : Addr} {xs : List V} (h1 : SqL K H a xs) : TyX K H (.ref a) (.type "list") := by
  rcases h1 with (h1 | ⟨o, h1⟩) | ⟨o, its, n, h1, c, _⟩
  · exact .base (.lst h1)
  · exact .base (.frz h1)
  · exact .kList h1 c
theorem Ist.rd {Q : VK} (h : Ist K w H v n b) (q : Q (.bl b) H) : rIsiM K w [v, .ty n] H Q := by
  rcases h with ⟨d, h, k⟩ | ⟨a, rows, rfl, h, k⟩ | ⟨a, xs, rfl, h, k⟩ | ⟨a, xs, rfl, h, k⟩
  · exact .inl ⟨v, .ty n, _, _, b, rfl, .ty n, h.ty, k, q⟩
  · exact .inr ⟨a, rows, n, b, rfl, .inl h, k, q⟩
  · exact .inl ⟨_, .ty n, _, _, b, rfl, .ty n, sqt_ty h, k, q⟩
  · exact .inl ⟨_, .ty n, _, _, b, rfl, .ty n, sql_ty h, k, q⟩
theorem ist_dv {d : PyData} (h : Dv K H v d) (k : PySem.W.kitOne K (.type (dty d)) (.type n) = some b) : Ist K w H v n b := .inl ⟨d, h, k⟩
theorem ist_tup {a : Addr} {xs : List V} (h : SqT K H a xs) : Ist K w H (.ref a) "tuple" true := .inr (.inr (.inl ⟨a, xs, rfl, h, kit_ty (by decide +kernel)⟩))
theorem ist_tupd {a : Addr} {xs : List V} (h : SqT K H a xs) : Ist K w H (.ref a) "dict" false := .inr (.inr (.inl ⟨a, xs, rfl, h, kit_ty (by decide +kernel)⟩))
theorem ist_lst {a : Addr} {xs : List V} (h : SqL K H a xs) : Ist K w H (.ref a) "tuple" false := .inr (.inr (.inr ⟨a, xs, rfl, h, kit_ty (by decide +kernel)⟩))
theorem ist_lstd {a : Addr} {xs : List V} (h : SqL K H a xs) : Ist K w H (.ref a) "dict" false := .inr (.inr (.inr ⟨a, xs, rfl, h, kit_ty (by decide +kernel)⟩))
theorem ist_md {a : Addr} {rows : List MD.Row} (h : H a = some (dM w a rows)) : Ist K w H (.ref a) "dict" true := .inr (.inl ⟨a, rows, rfl, h, kit_ty (by decide +kernel)⟩)
theorem ist_mdt {a : Addr} {rows : List MD.Row} (h : H a = some (dM w a rows)) : Ist K w H (.ref a) "tuple" false := .inr (.inl ⟨a, rows, rfl, h, kit_ty (by decide +kernel)⟩)
end
/-- a row of moves with the data of its key and its value -/
abbrev RX := MD.Row × PyData × PyData
structure RowsX (K : PySem.W.Frag) (H : Hp) (rs : List RX) : Prop where
  ks : KeysV K H (rs.map (·.1))
  nd : ((rs.map (·.1)).map (·.1)).Nodup
  few : rs.length ≤ 1000
  dat : ∀ r ∈ rs, Dv K H r.1.2.1 r.2.1 ∧ Dv K H r.1.2.2 r.2.2
  small : ∀ r ∈ rs, r.2.1.bulk ≤ 1000 ∧ r.2.2.bulk ≤ 10000 ∧ Fit r.2.1
theorem RowsX.same {K : PySem.W.Frag} {H H' : Hp} {rs : List RX} (h : RowsX K H rs) (e : Same H H') : RowsX K H' rs :=
  ⟨h.ks.same e, h.nd, h.few, fun r m => ⟨(h.dat r m).1.same' e, (h.dat r m).2.same' e⟩, h.small⟩
inductive StD
  | bad
  | good (rs : List RX) (ys : List V) (ds : List PyData)
def StX (K : PySem.W.Frag) (w : World) (H : Hp) (n : Nat) (v : V) : StD → Prop
  | .bad => Ist K w H v "tuple" false ∨ ∃ a xs, v = .ref a ∧ SqT K H a xs ∧ (xs.length ≠ n ∨ ∃ x r, xs = x :: r ∧ Ist K w H x "dict" false)
  | .good rs ys ds => ∃ a m, v = .ref a ∧ SqT K H a (.ref m :: ys) ∧ DvAll K H ys ds ∧ ds.length + 1 = n ∧ H m = some (dM w m (rs.map (·.1))) ∧ RowsX K H rs ∧ ∀ d ∈ ds, d.bulk ≤ 1000
theorem StX.same {K : PySem.W.Frag} {w : World} {H H' : Hp} {n : Nat} {v : V} : ∀ {d : StD}, StX K w H n v d → Same H H' → StX K w H' n v d
  | .bad, h, e => by
    rcases h with h | ⟨a, xs, rfl, h, z | ⟨x, r, z, h2⟩⟩
    · exact .inl (h.same e)
    · exact .inr ⟨a, xs, rfl, same_tup e h, .inl z⟩
    · exact .inr ⟨a, xs, rfl, same_tup e h, .inr ⟨x, r, z, h2.same e⟩⟩
  | .good rs ys ds, h, e => by
    obtain ⟨a, m, rfl, h1, h2, h3, h4, h5, h6⟩ := h
    exact ⟨a, m, rfl, same_tup e h1, DvAll.same e _ _ h2, h3, e _ _ h4, h5.same e, h6⟩
inductive WhD
  | bad
  | sts (ss : List StD)
def WhX (K : PySem.W.Frag) (w : World) (H : Hp) (n : Nat) (v : V) : WhD → Prop
  | .bad => Ist K w H v "tuple" false
  | .sts ss => ∃ a xs, v = .ref a ∧ SqT K H a xs ∧ Paired (StX K w H n) xs ss ∧ xs.length ≤ 1000
theorem pairedI2 {α β : Type} {R S : α → β → Prop} (f : ∀ a b, R a b → S a b) : ∀ {xs : List α} {ys : List β}, Paired R xs ys → Paired S xs ys
  | _, _, .nil => .nil
  | _, _, .cons h t => .cons (f _ _ h) (pairedI2 f t)
theorem WhX.same {K : PySem.W.Frag} {w : World} {H H' : Hp} {n : Nat} {v : V} : ∀ {d : WhD}, WhX K w H n v d → Same H H' → WhX K w H' n v d
  | .bad, h, e => Ist.same h e
  | .sts ss, h, e => by
    obtain ⟨a, xs, rfl, h1, h2, h3⟩ := h
    exact ⟨a, xs, rfl, same_tup e h1, pairedI2 (fun _ _ z => z.same e) h2, h3⟩
/-! ### good parts -/
def isWrittenD : PyData → Bool
  | .str z => sgAll z && decide (z.length ≤ 2)
  | _ => false
def isViewD (n : Int) : PyData → Bool
  | .none => true
  | d => isNumD 0 (n - 1) d
def isSeenD (n : Int) : PyData → Bool
  | .tuple [s, v] => isSignD s && isViewD n v
  | _ => false
def isMoveD (m : Int) : PyData → Bool
  | .tuple [t, s] => isWrittenD t && isNumD 0 (m - 1) s
  | _ => false
def wStD (many views : Int) : StD → Bool
  | .good rs _ [o, l] => isNumD 0 (many - 1) o && isWrittenD l && rs.all fun r => isSeenD views r.2.1 && isMoveD many r.2.2
  | _ => false
def lStD (many : Int) : StD → Bool
  | .good rs _ [o] => isNumD 0 (many - 1) o && rs.all fun r => isSignD r.2.1 && isNumD 0 (many - 1) r.2.2
  | _ => false
def writerD (views : Int) : WhD → Bool
  | .sts ss => decide (0 < ss.length) && decide (ss.length ≤ 4) && ss.all (wStD ss.length views)
  | _ => false
def lookD : WhD → Bool
  | .sts ss => decide (0 < ss.length) && decide (ss.length ≤ 3) && ss.all (lStD ss.length)
  | _ => false
def firstsD (views many : Int) : PyData → Bool
  | .tuple ds => decide ((ds.length : Int) = views) && ds.all (isViewD many)
  | _ => false
def lenD : WhD → Int
  | .sts ss => ss.length
  | _ => 0
def partsD (wr lk : WhD) (fi : PyData) : Bool := lookD lk && writerD (lenD lk) wr && firstsD (lenD lk) (lenD wr) fi
end K0
end
/-! ### DP1 -/
section
set_option Elab.async false
set_option linter.all false
set_option maxRecDepth 100000
set_option maxHeartbeats 4000000
/-! is_written, is_seen_sign, is_move. -/
namespace K0
open PySem PySem.Spec PyProof.Rows L2
def Lim (K : PySem.W.Frag) (H : Hp) (L : Addr) : Prop := SqT K H L [.int 3, .int 4, .int 2]
theorem cF {b : Bool} (h : ¬ b = true) : b = false := by cases b <;> first | rfl | exact absurd rfl h
theorem nF {b : Bool} (h : (!b) = true) : b = false := by cases b <;> first | rfl | cases h
theorem nT {b : Bool} (h : ¬ (!b) = true) : b = true := by cases b <;> first | rfl | exact absurd rfl h
theorem is_tup {K : PySem.W.Frag} {H : Hp} {v : V} {d : PyData} (hd : Dv K H v d) (h : isTupD d = true) : ∃ a xs ds, v = .ref a ∧ d = .tuple ds ∧ SqT K H a xs ∧ DvAll K H xs ds := by
  cases hd with
  | tup h1 h2 => exact ⟨_, _, _, rfl, rfl, h1, h2⟩
  | _ => cases h
theorem two {α : Type} {ds : List α} (h : ds.length = 2) : ∃ s l, ds = [s, l] := by
  match ds, h with
  | [s, l], _ => exact ⟨s, l, rfl⟩
theorem not_two {ds : List PyData} {n m : Int} (h : ds.length ≠ 2) : isSeenD n (.tuple ds) = false ∧ isMoveD m (.tuple ds) = false := by
  match ds, h with
  | [], _ => exact ⟨rfl, rfl⟩
  | [_], _ => exact ⟨rfl, rfl⟩
  | [_, _], h => exact absurd rfl h
  | _ :: _ :: _ :: _, _ => exact ⟨rfl, rfl⟩
theorem not_tupD {d : PyData} {n m : Int} (h : isTupD d = false) : isSeenD n d = false ∧ isMoveD m d = false := by
  cases d <;> first | exact ⟨rfl, rfl⟩ | cases h
theorem int_ne {n m : Nat} (h : (!decide (V.int (n : Int) = V.int (m : Int))) = true) : n ≠ m := by
  rintro rfl
  simp at h
theorem int_eq {n m : Nat} (h : ¬ (!decide (V.int (n : Int) = V.int (m : Int))) = true) : n = m := by
  by_cases z : n = m
  · exact z
  · refine absurd ?_ h
    have z2 : ¬ (V.int (n : Int) = V.int (m : Int)) := fun y => by
      injection y with y
      omega
    rw [decide_eq_false z2]
    rfl
theorem isView_nn {d : PyData} {n : Int} {K : PySem.W.Frag} {H : Hp} {v : V} (h : Dv K H v d) (hv : v ≠ .non) : isViewD n d = isNumD 0 (n - 1) d := by
  cases h <;> first | rfl | exact absurd rfl hv
theorem scWritten : FnScope ["value", "limits"] ["value", "limits"] (defScope (top iWritten)) := ⟨rfl, rfl, rfl, by decide +kernel, rfl, by decide +kernel, by decide +kernel⟩
theorem scSeen : FnScope ["value", "views", "sign", "view"] ["value", "views"] (defScope (top iSeen)) := ⟨rfl, rfl, rfl, by decide +kernel, rfl, by decide +kernel, by decide +kernel⟩
theorem scMove : FnScope ["value", "many", "limits", "text", "state"] ["value", "many", "limits"] (defScope (top iIsMove)) := ⟨rfl, rfl, rfl, by decide +kernel, rfl, by decide +kernel, by decide +kernel⟩
def spWritten (K : PySem.W.Frag) : Sp := fun vs H Q _ => ∃ (v : V) (d : PyData) (L : Addr), vs = [v, .ref L] ∧ Lim K H L ∧ Dv K H v d ∧ d.bulk ≤ 100000 ∧ ∀ H', Same H H' → Q (.bl (isWrittenD d)) H'
def spSeen (K : PySem.W.Frag) : Sp := fun vs H Q _ => ∃ (v : V) (d : PyData) (n : Int), vs = [v, .int n] ∧ Dv K H v d ∧ d.bulk ≤ 100000 ∧ ∀ H', Same H H' → Q (.bl (isSeenD n d)) H'
def spMove (K : PySem.W.Frag) : Sp := fun vs H Q _ => ∃ (v : V) (d : PyData) (m : Int) (L : Addr), vs = [v, .int m, .ref L] ∧ Lim K H L ∧ Dv K H v d ∧ d.bulk ≤ 100000 ∧ ∀ H', Same H H' → Q (.bl (isMoveD m d)) H'
section
variable {P : Program} {w : World} {K : PySem.W.Frag} {mg : Str → Option Value} {base : Heap} {f fT fS fN fW : Addr} {fd fdT fdS fdN fdW : FuncData}
theorem ok_written {k : Nat} (F : FnP K "is_written" iWritten f fd) (mlen : mg "len" = none)
    (FT : FnOk P w K mg base CX0 (k + 1) fT fdT ["value"] (spD K isTextD)) (gT : mg "is_text" = some (.ref fT)) (kT : PySem.W.keepIn K (.ref fT) = true) (bT : Binds K fdT ["value"] []) :
    FnOk P w K mg base CX0 (k + 2) f fd ["value", "limits"] (spWritten K) := by
  refine F.ok scWritten (fun vs H Q E h => ?_) (fun cdv A outer s H vs Q E hr h => ?_)
  · obtain ⟨v, d, L, rfl, _⟩ := h
    rfl
  · obtain ⟨v, d, L, rfl, hL, hd, sz, q⟩ := h
    refine ⟨_, PSs.nox (pss_one (ps_ret (pe_and (pe_call FT hr (by rfl) gT kT bT .nil pass0 (pa_cons (pv 0) pa_nil)) (pe_one (pe_or (pe_cmp (pc_isN (pv 1)) rfl)
      (pe_one (pe_cmpR op_le (pe_callB call_len (by rfl) mlen PySem.boot_len (pa_cons (pv 0) pa_nil)) (pe_ix ix_tup (pv 1) pe_int (fun _ _ => rfl)) (nomark _)))))))), ?_⟩
    refine ⟨_, rfl, v, d, rfl, hd, sz, fun H1 s1 => ⟨_, rfl, ite2 (fun e => ?_) (fun e => ?_)⟩⟩
    · have q1 := q H1 s1
      cases hd with
      | str z =>
        have e : sgAll z = true := e
        rw [show isWrittenD (.str z) = decide (z.length ≤ 2) by show (sgAll z && _) = _; rw [e, Bool.true_and]] at q1
        refine ⟨_, rfl, _, rfl, ite2 (fun e2 => by cases of_decide_eq_true e2) (fun e2 => ?_)⟩
        refine ⟨_, rfl, _, z.length, rfl, ⟨Nat.le_of_lt (small5 sz), rfl⟩, _, rfl, L, _, 2, .int 2, rfl, rfl, same_tup s1 hL, rfl, _, _, rfl, rfl, ?_⟩
        rw [show decide (z.length ≤ 2) = decide ((z.length : Int) ≤ 2) from decide_eq_decide.mpr (by omega)] at q1
        exact q1
      | _ => cases e
    · have q1 := q H1 s1
      rw [show isWrittenD d = false by
        cases d with
        | str z => show (sgAll z && _) = _; rw [show sgAll z = false from cF e, Bool.false_and]
        | _ => rfl] at q1
      exact q1
theorem ok_seen {k : Nat} (F : FnP K "is_seen_sign" iSeen f fd) (misi : mg "isinstance" = none) (mtup : mg "tuple" = none) (mlen : mg "len" = none)
    (FS : FnOk P w K mg base CX0 (k + 1) fS fdS ["value"] (spD K isSignD)) (gS : mg "is_sign" = some (.ref fS)) (kS : PySem.W.keepIn K (.ref fS) = true) (bS : Binds K fdS ["value"] [])
    (FN : FnOk P w K mg base CX0 (k + 1) fN fdN ["value", "low", "high"] (spNum K)) (gN : mg "is_number" = some (.ref fN)) (kN : PySem.W.keepIn K (.ref fN) = true) (bN : Binds K fdN ["value", "low", "high"] []) :
    FnOk P w K mg base CX0 (k + 2) f fd ["value", "views"] (spSeen K) := by
  refine F.ok scSeen (fun vs H Q E h => ?_) (fun cdv A outer s H vs Q E hr h => ?_)
  · obtain ⟨v, d, n, rfl, _⟩ := h
    rfl
  · obtain ⟨v, d, n, rfl, hd, sz, q⟩ := h
    refine ⟨_, PSs.nox (pss_cons (ps_if (PW.pt (pw_or (pt_not (pt_val (pe_callB call_isi (by rfl) misi boot_isinstance (pa_cons (pv 0) (pa_cons (pe_bltn (v := .ty "tuple") (by rfl) mtup (by decide +kernel) rfl) pa_nil)))))
          (pw_or1 (pt_cmpR op_ne (pe_callB call_len_seq (by rfl) mlen PySem.boot_len (pa_cons (pv 0) pa_nil)) pe_int (nomark _))))) (pss_one (ps_ret pe_bl)) pss_nil)
      (pss_cons (ps_asg (pv 0) (pg_tup rfl (pgs_cons (pg_name (i := 2) scSeen.nd rfl (.inl rfl)) (pgs_cons (pg_name (i := 3) scSeen.nd rfl (.inl rfl)) pgs_nil))))
      (pss_one (ps_ret (pe_and (pe_call FS hr (by rfl) gS kS bS .nil pass0 (pa_cons (pv 2) pa_nil)) (pe_one (pe_or (pe_cmp (pc_isN (pv 3)) rfl)
        (pe_one (pe_call FN hr (by rfl) gN kN bN .nil pass0 (pa_cons (pv 3) (pa_cons pe_int (pa_cons (pe_op op_sub (pv 1) pe_int) pa_nil)))))))))))), ?_⟩
    refine ⟨_, rfl, v, _, _, _, _, rfl, .ty _, hd.ty, kit_tup d, _, rfl, ite2 (fun e => ?_) (fun e => ?_)⟩
    · have q2 := q H (Same.refl H)
      rw [(not_tupD (m := 0) (nF e)).1] at q2
      exact q2
    obtain ⟨a, xs, ds, rfl, rfl, hT, hA⟩ := is_tup hd (nT e)
    have sz2 : PyData.bulkAll ds ≤ 100000 := sz
    have xl := hA.length
    refine ⟨_, rfl, a, xs, rfl, .inr hT, rfl, _, rfl, ite2 (fun e3 => ?_) (fun e3 => ?_)⟩
    · have q2 := q H (Same.refl H)
      rw [(not_two (m := 0) (xl ▸ int_ne (m := 2) e3)).1] at q2
      exact q2
    obtain ⟨d1, d2, rfl⟩ := two (xl ▸ int_eq (m := 2) e3)
    cases hA with
    | cons h1 hA =>
    cases hA with
    | cons h2 hA =>
    cases hA
    rename_i v1 v2
    rw [PyData.bulkAll, PyData.bulkAll] at sz2
    refine ⟨_, rfl, a, _, rfl, hT, rfl, v1, _, rfl, v2, _, rfl, rfl, ?_⟩
    refine ⟨_, rfl, v1, d1, rfl, h1, by omega, fun H1 s1 => ⟨_, rfl, ite2 (fun e4 => ?_) (fun e4 => ?_)⟩⟩
    · have q1 := q H1 s1
      rw [show isSeenD n (.tuple [d1, d2]) = isViewD n d2 by show (isSignD d1 && _) = _; rw [e4, Bool.true_and]] at q1
      refine ⟨_, rfl, _, rfl, ite2 (fun e5 => ?_) (fun e5 => ?_)⟩
      · have e5 : v2 = .non := of_decide_eq_true e5
        subst e5
        cases h2
        exact q1
      · have e5 : v2 ≠ .non := fun y => e5 (decide_eq_true y)
        rw [isView_nn h2 e5] at q1
        exact ⟨_, rfl, _, rfl, _, _, rfl, rfl, v2, d2, 0, n - 1, rfl, h2.same' s1, q1⟩
    · have q1 := q H1 s1
      rw [show isSeenD n (.tuple [d1, d2]) = false by show (isSignD d1 && _) = _; rw [cF e4, Bool.false_and]] at q1
      exact q1
theorem ok_move {k : Nat} (F : FnP K "is_move" iIsMove f fd) (misi : mg "isinstance" = none) (mtup : mg "tuple" = none) (mlen : mg "len" = none)
    (FW : FnOk P w K mg base CX0 (k + 2) fW fdW ["value", "limits"] (spWritten K)) (gW : mg "is_written" = some (.ref fW)) (kW : PySem.W.keepIn K (.ref fW) = true) (bW : Binds K fdW ["value", "limits"] [])
    (FN : FnOk P w K mg base CX0 (k + 2) fN fdN ["value", "low", "high"] (spNum K)) (gN : mg "is_number" = some (.ref fN)) (kN : PySem.W.keepIn K (.ref fN) = true) (bN : Binds K fdN ["value", "low", "high"] []) :
    FnOk P w K mg base CX0 (k + 3) f fd ["value", "many", "limits"] (spMove K) := by
  refine F.ok scMove (fun vs H Q E h => ?_) (fun cdv A outer s H vs Q E hr h => ?_)
  · obtain ⟨v, d, n, L, rfl, _⟩ := h
    rfl
  · obtain ⟨v, d, n, L, rfl, hL, hd, sz, q⟩ := h
    refine ⟨_, PSs.nox (pss_cons (ps_if (PW.pt (pw_or (pt_not (pt_val (pe_callB call_isi (by rfl) misi boot_isinstance (pa_cons (pv 0) (pa_cons (pe_bltn (v := .ty "tuple") (by rfl) mtup (by decide +kernel) rfl) pa_nil)))))
          (pw_or1 (pt_cmpR op_ne (pe_callB call_len_seq (by rfl) mlen PySem.boot_len (pa_cons (pv 0) pa_nil)) pe_int (nomark _))))) (pss_one (ps_ret pe_bl)) pss_nil)
      (pss_cons (ps_asg (pv 0) (pg_tup rfl (pgs_cons (pg_name (i := 3) scMove.nd rfl (.inl rfl)) (pgs_cons (pg_name (i := 4) scMove.nd rfl (.inl rfl)) pgs_nil))))
      (pss_one (ps_ret (pe_and (pe_call FW hr (by rfl) gW kW bW .nil pass0 (pa_cons (pv 3) (pa_cons (pv 2) pa_nil))) (pe_one (pe_call FN hr (by rfl) gN kN bN .nil pass0 (pa_cons (pv 4) (pa_cons pe_int (pa_cons (pe_op op_sub (pv 1) pe_int) pa_nil)))))))))), ?_⟩
    refine ⟨_, rfl, v, _, _, _, _, rfl, .ty _, hd.ty, kit_tup d, _, rfl, ite2 (fun e => ?_) (fun e => ?_)⟩
    · have q2 := q H (Same.refl H)
      rw [(not_tupD (n := 0) (nF e)).2] at q2
      exact q2
    obtain ⟨a, xs, ds, rfl, rfl, hT, hA⟩ := is_tup hd (nT e)
    have sz2 : PyData.bulkAll ds ≤ 100000 := sz
    have xl := hA.length
    refine ⟨_, rfl, a, xs, rfl, .inr hT, rfl, _, rfl, ite2 (fun e3 => ?_) (fun e3 => ?_)⟩
    · have q2 := q H (Same.refl H)
      rw [(not_two (n := 0) (xl ▸ int_ne (m := 2) e3)).2] at q2
      exact q2
    obtain ⟨d1, d2, rfl⟩ := two (xl ▸ int_eq (m := 2) e3)
    cases hA with
    | cons h1 hA =>
    cases hA with
    | cons h2 hA =>
    cases hA
    rename_i v1 v2
    rw [PyData.bulkAll, PyData.bulkAll] at sz2
    refine ⟨_, rfl, a, _, rfl, hT, rfl, v1, _, rfl, v2, _, rfl, rfl, ?_⟩
    refine ⟨_, rfl, _, rfl, v1, d1, L, rfl, hL, h1, by omega, fun H1 s1 => ⟨_, rfl, ite2 (fun e4 => ?_) (fun e4 => ?_)⟩⟩
    · have q1 := q H1 s1
      rw [show isMoveD n (.tuple [d1, d2]) = isNumD 0 (n - 1) d2 by show (isWrittenD d1 && _) = _; rw [e4, Bool.true_and]] at q1
      exact ⟨_, rfl, _, rfl, _, _, rfl, rfl, v2, d2, 0, n - 1, rfl, h2.same' s1, q1⟩
    · have q1 := q H1 s1
      rw [show isMoveD n (.tuple [d1, d2]) = false by show (isWrittenD d1 && _) = _; rw [cF e4, Bool.false_and]] at q1
      exact q1
end
end K0
end
/-! ### DP2 -/
section
set_option Elab.async false
set_option linter.all false
set_option maxRecDepth 100000
set_option maxHeartbeats 4000000
/-! is_look_state, is_writer_state. -/
namespace K0
open PySem PySem.Spec PyProof.Rows L2
open MD (dM KeysV KeyV rIsiM call_isiM Itmi Itmk pi_mitems pi_mkeys)
theorem walk_mitems {w : World} {d : Addr} {o : Obj} {kvs : List MD.Row} : Walk (Itmi w d o kvs) kvs.length (fun H => H d = some (.frz o (dM w d kvs))) (fun i H x H' => ∃ T p, kvs[i]? = some p ∧ x = .ref T ∧ H T = none ∧ H' = upd H T (.tup [p.2.1, p.2.2])) :=
  ⟨fun i _ lt g => ⟨g, lt⟩, fun _ g => ⟨g, Nat.le_refl _⟩, fun i H v H' _ g y => y⟩
theorem walk_mkeys {w : World} {d : Addr} {o : Obj} {kvs : List MD.Row} : Walk (Itmk w d o kvs) kvs.length (fun H => H d = some (.frz o (dM w d kvs))) (fun i H x H' => H' = H ∧ ∃ p, kvs[i]? = some p ∧ x = p.2.1) :=
  ⟨fun i _ lt g => ⟨g, lt⟩, fun _ g => ⟨g, Nat.le_refl _⟩, fun i H v H' _ g y => y⟩
theorem same_unlock {H H' : Hp} {m : Addr} {f u : HO} (s : Same (upd H m f) H') (e : H m = some u) : Same H (upd H' m u) := fun y o z => by
  by_cases q : y = m
  · subst q
    rw [e] at z
    cases z
    exact upd_same
  · rw [upd_ne q]
    exact s _ _ (by rw [upd_ne q]; exact z)
/-- what does not reach the locked dict stays -/
theorem dv_lock {K : PySem.W.Frag} {w : World} {H : Hp} {m : Addr} {rows : List MD.Row} {f : HO} (e : H m = some (dM w m rows)) : (∀ (d : PyData) (v : V), Dv K H v d → Dv K (upd H m f) v d) := by
  have hid : Same (hid m H) (upd H m f) := fun b o z => by
    by_cases q : b = m
    · subst q
      unfold K0.hid at z
      rw [if_pos rfl] at z
      cases z
    · rw [upd_ne q]
      rw [hid_ne q] at z
      exact z
  have sq : ∀ {a : Addr} {xs : List V}, SqT K H a xs → SqT K (upd H m f) a xs := fun {a} {xs} h => by
    rcases h with (h | ⟨o, h⟩) | h
    · have : a ≠ m := fun z => by rw [z, e] at h; cases h
      exact .inl (.inl (by rw [upd_ne this]; exact h))
    · have : a ≠ m := fun z => by rw [z, e] at h; cases h
      exact .inl (.inr ⟨o, by rw [upd_ne this]; exact h⟩)
    · exact .inr h
  have sl : ∀ {a : Addr} {xs : List V}, SqL K H a xs → SqL K (upd H m f) a xs := fun {a} {xs} h => by
    rcases h with (h | ⟨o, h⟩) | h
    · have : a ≠ m := fun z => by rw [z, e] at h; cases h
      exact .inl (.inl (by rw [upd_ne this]; exact h))
    · have : a ≠ m := fun z => by rw [z, e] at h; cases h
      exact .inl (.inr ⟨o, by rw [upd_ne this]; exact h⟩)
    · exact .inr h
  intro d v h
  refine Dv.rec (K := K) (H := H) (motive_1 := fun v d _ => Dv K (upd H m f) v d) (motive_2 := fun vs ds _ => DvAll K (upd H m f) vs ds) ?_ ?_ ?_ ?_ ?_ ?_ ?_ ?_ ?_ h
  · exact .non
  · exact fun b => .bl b
  · exact fun i => .int i
  · exact fun x => .str x
  · exact fun h1 _ h2 => .lst (sl h1) h2
  · exact fun h1 _ h2 => .tup (sq h1) h2
  · exact fun {a} {kvs} {ds} h1 h2 _ h3 => .dic (by rw [upd_ne (fun z => by rw [z, e] at h1; cases h1)]; exact h1) h2 h3
  · exact .nil
  · exact fun _ _ h1 h2 => .cons h1 h2
theorem lim_lock {K : PySem.W.Frag} {w : World} {H : Hp} {m : Addr} {rows : List MD.Row} {f : HO} {L : Addr} (e : H m = some (dM w m rows)) (h : Lim K H L) : Lim K (upd H m f) L := by
  rcases h with (h | ⟨o, h⟩) | h
  · have : L ≠ m := fun z => by rw [z, e] at h; cases h
    exact .inl (.inl (by rw [upd_ne this]; exact h))
  · have : L ≠ m := fun z => by rw [z, e] at h; cases h
    exact .inl (.inr ⟨o, by rw [upd_ne this]; exact h⟩)
  · exact .inr h
theorem bl_take {bs : List Bool} {m : Nat} {b : Bool} (h : bs[m]? = some b) : (bs.take (m + 1)).map V.bl = (bs.take m).map V.bl ++ [V.bl b] := by
  rw [List.take_add_one, h, List.map_append]
  rfl
theorem scLookSt : FnScope ["value", "many", "moves", "other", "sign", "state"] ["value", "many"] (defScope (top iLookSt)) := ⟨rfl, rfl, rfl, by decide +kernel, rfl, by decide +kernel, by decide +kernel⟩
theorem scWriterSt : FnScope ["value", "many", "views", "limits", "moves", "other", "last", "key", "move"] ["value", "many", "views", "limits"] (defScope (top iWriterSt)) := ⟨rfl, rfl, rfl, by decide +kernel, rfl, by decide +kernel, by decide +kernel⟩
def spLSt (K : PySem.W.Frag) (w : World) : Sp := fun vs H Q _ => ∃ (v : V) (d : StD) (m : Int), vs = [v, .int m] ∧ StX K w H 2 v d ∧ ∀ H', Same H H' → Q (.bl (lStD m d)) H'
def spWSt (K : PySem.W.Frag) (w : World) : Sp := fun vs H Q _ => ∃ (v : V) (d : StD) (m n : Int) (L : Addr), vs = [v, .int m, .int n, .ref L] ∧ Lim K H L ∧ StX K w H 3 v d ∧ ∀ H', Same H H' → Q (.bl (wStD m n d)) H'
section
variable {P : Program} {w : World} {K : PySem.W.Frag} {mg : Str → Option Value} {base : Heap} {f fT fS fN fW fM : Addr} {fd fdT fdS fdN fdW fdM : FuncData}
theorem ok_lookSt {k : Nat} (F : FnP K "is_look_state" iLookSt f fd) (misi : mg "isinstance" = none) (mtup : mg "tuple" = none) (mlen : mg "len" = none) (mdict : mg "dict" = none) (mall : mg "all" = none)
    (FS : FnOk P w K mg base CX0 (k + 1) fS fdS ["value"] (spD K isSignD)) (gS : mg "is_sign" = some (.ref fS)) (kS : PySem.W.keepIn K (.ref fS) = true) (bS : Binds K fdS ["value"] [])
    (FN : FnOk P w K mg base CX0 (k + 1) fN fdN ["value", "low", "high"] (spNum K)) (gN : mg "is_number" = some (.ref fN)) (kN : PySem.W.keepIn K (.ref fN) = true) (bN : Binds K fdN ["value", "low", "high"] []) :
    FnOk P w K mg base CX0 (k + 2) f fd ["value", "many"] (spLSt K w) := by
  refine F.ok scLookSt (fun vs H Q E h => ?_) (fun cdv A outer s H vs Q E hr h => ?_)
  · obtain ⟨v, d, n, rfl, _⟩ := h
    rfl
  · obtain ⟨v, d, n, rfl, hd, q⟩ := h
    refine ⟨_, PSs.nox (pss_cons (ps_if (PW.pt (pw_or (pt_not (pt_val (pe_callB call_isiM (by rfl) misi boot_isinstance (pa_cons (pv 0) (pa_cons (pe_bltn (v := .ty "tuple") (by rfl) mtup (by decide +kernel) rfl) pa_nil)))))
          (pw_or1 (pt_cmpR op_ne (pe_callB call_len_seq (by rfl) mlen PySem.boot_len (pa_cons (pv 0) pa_nil)) pe_int (nomark _))))) (pss_one (ps_ret pe_bl)) pss_nil)
      (pss_cons (ps_asg (pv 0) (pg_tup rfl (pgs_cons (pg_name (i := 2) scLookSt.nd rfl (.inl rfl)) (pgs_cons (pg_name (i := 3) scLookSt.nd rfl (.inl rfl)) pgs_nil))))
      (pss_cons (ps_if (PW.pt (pw_or (pt_not (pt_val (pe_callB call_isiM (by rfl) misi boot_isinstance (pa_cons (pv 2) (pa_cons (pe_bltn (v := .ty "dict") (by rfl) mdict (by decide +kernel) rfl) pa_nil)))))
          (pw_or1 (pt_not (pt_val (pe_call FN hr (by rfl) gN kN bN .nil pass0 (pa_cons (pv 3) (pa_cons pe_int (pa_cons (pe_op op_sub (pv 1) pe_int) pa_nil))))))))) (pss_one (ps_ret pe_bl)) pss_nil)
      (pss_one (ps_ret (pe_lock (pe_callB (cr_all rfl) (by rfl) mall (by decide +kernel) (pa_cons (pe_lc (own := [("sign", 4), ("state", 5)]) (g := gTup K 2 (gCons (gName 4) (gCons (gName 5) gNil))) (tt := tYes) rfl scLookSt.nd (pi_mitems (pv 2)) (blkOk_by (N := ["value", "many", "moves", "other", "sign", "state"]) (sc := defScope (top iLookSt)) (by decide +kernel))
        (fun _ _ _ _ _ => pg_tup rfl (pgs_cons (pg_name (i := 4) scLookSt.nd rfl (Or.inl rfl)) (pgs_cons (pg_name (i := 5) scLookSt.nd rfl (Or.inl rfl)) pgs_nil))) (fun _ _ _ _ _ => pts_nil)
        (fun _ _ _ _ _ => pe_and (pe_call FS hr (by rfl) gS kS bS .nil pass0 (pa_cons (pv 4) pa_nil)) (pe_one (pe_call FN hr (by rfl) gN kN bN .nil pass0 (pa_cons (pv 5) (pa_cons pe_int (pa_cons (pe_op op_sub (pv 1) pe_int) pa_nil))))))) pa_nil)))))))), ?_⟩
    cases d with
    | bad =>
      have q2 := q H (Same.refl H)
      rcases hd with hd | ⟨a, xs, rfl, hT, hd⟩
      · exact ⟨_, rfl, hd.rd ⟨_, rfl, q2⟩⟩
      · refine ⟨_, rfl, (ist_tup hT).rd ⟨_, rfl, _, rfl, a, xs, rfl, .inr hT, rfl, _, rfl, ite2 (fun e3 => q2) (fun e3 => ?_)⟩⟩
        have l2 : xs.length = 2 := int_eq (m := 2) e3
        obtain ⟨x, r, rfl, hx⟩ := hd.resolve_left fun z => z l2
        obtain ⟨y, rfl⟩ : ∃ y, r = [y] := by
          match r, l2 with
          | [y], _ => exact ⟨y, rfl⟩
        exact ⟨_, rfl, a, _, rfl, hT, rfl, x, _, rfl, y, _, rfl, rfl, _, rfl, hx.rd ⟨_, rfl, q2⟩⟩
    | good rs ys ds =>
      obtain ⟨a, m, rfl, hT, hA, l1, hm, hR, sm⟩ := hd
      obtain ⟨o, rfl⟩ : ∃ o, ds = [o] := by
        match ds, l1 with
        | [o], _ => exact ⟨o, rfl⟩
      cases hA with
      | cons h1 hA =>
      cases hA
      rename_i vo
      refine ⟨_, rfl, (ist_tup hT).rd ⟨_, rfl, _, rfl, a, _, rfl, .inr hT, rfl, _, rfl, ?_⟩⟩
      refine ⟨_, rfl, a, _, rfl, hT, rfl, .ref m, _, rfl, vo, _, rfl, rfl, _, rfl, (ist_md hm).rd ⟨_, rfl, ?_⟩⟩
      refine ⟨_, rfl, _, rfl, _, _, rfl, rfl, vo, o, 0, n - 1, rfl, h1, _, rfl, ite2 (fun e => ?_) (fun e => ?_)⟩
      · have q2 := q H (Same.refl H)
        rw [show lStD n (.good rs [vo] [o]) = false by show (isNumD 0 (n - 1) o && _) = _; rw [nF e, Bool.false_and]] at q2
        exact q2
      have q2 := fun H' z => q H' z
      rw [show lStD n (.good rs [vo] [o]) = (rs.map fun r => isSignD r.2.1 && isNumD 0 (n - 1) r.2.2).all id by show (isNumD 0 (n - 1) o && _) = _; rw [nT e, Bool.true_and, List.all_map]; rfl] at q2
      refine ⟨m, _, hm, trivial, fun od => ⟨_, rfl, m, od, _, rfl, upd_same, fun D nD => ?_⟩⟩
      obtain ⟨bs, hbs⟩ : ∃ bs, bs = rs.map fun r => isSignD r.2.1 && isNumD 0 (n - 1) r.2.2 := ⟨_, rfl⟩
      rw [← hbs] at q2
      have bl : bs.length = rs.length := by rw [hbs, List.length_map]
      have few := hR.few
      refine lc_it (walk_mitems (kvs := rs.map (·.1))) (fun i H' => Same (upd H m (.frz od (dM w m (rs.map (·.1))))) H' ∧ H' D = some (.lst ((bs.take i).map V.bl))) ⟨same_upd nD, upd_same⟩ (fun i H' _ hP => hP.1 _ _ upd_same) (fun i x H' H'' hi hP hY => ?_) (fun H' hP => ?_)
      · obtain ⟨s1, hD⟩ := hP
        obtain ⟨T, p, hp, rfl, nT', rfl⟩ := hY
        rw [List.getElem?_map] at hp
        obtain ⟨r, hr2, rfl⟩ := Option.map_eq_some_iff.mp hp
        have mr := List.mem_of_getElem? hr2
        obtain ⟨dk, dv⟩ := hR.dat r mr
        obtain ⟨sk, sv, _⟩ := hR.small r mr
        have s2 := s1.trans (same_upd nT' (o := .tup [r.1.2.1, r.1.2.2]))
        have dk2 := (dv_lock (f := .frz od (dM w m (rs.map (·.1)))) hm _ _ dk).same' s2
        have dv2 := (dv_lock (f := .frz od (dM w m (rs.map (·.1)))) hm _ _ dv).same' s2
        have bi : bs[i]? = some (isSignD r.2.1 && isNumD 0 (n - 1) r.2.2) := by rw [hbs, List.getElem?_map, hr2]; rfl
        have fin : ∀ H3, Same (upd H' T (.tup [r.1.2.1, r.1.2.2])) H3 → ∃ xs, H3 D = some (.lst xs) ∧ xs.length < sizeLine ∧ (fun i H' => Same (upd H m (.frz od (dM w m (rs.map (·.1))))) H' ∧ H' D = some (.lst ((bs.take i).map V.bl))) (i + 1) (upd H3 D (.lst (xs ++ [V.bl (isSignD r.2.1 && isNumD 0 (n - 1) r.2.2)]))) := fun H3 s3 =>
          ⟨_, s3 _ _ (same_upd nT' _ _ hD), by rw [List.length_map, List.length_take]; exact small5 (by omega), fun y o u => by rw [upd_ne (ne_of_none u nD)]; exact s3 _ _ (s2 _ _ u), by rw [upd_same, bl_take bi]⟩
        refine ⟨T, _, rfl, .of upd_same, rfl, _, _, rfl, _, _, rfl, rfl, rfl, _, rfl, _, r.2.1, rfl, dk2, by omega, fun H3 s3 => ⟨_, rfl, ite2 (fun e4 => ?_) (fun e4 => ?_)⟩⟩
        · refine ⟨_, rfl, _, rfl, _, _, rfl, rfl, _, r.2.2, 0, n - 1, rfl, dv2.same' s3, ?_⟩
          have z := fin H3 s3
          rw [e4, Bool.true_and] at z
          exact z
        · have z := fin H3 s3
          rw [cF e4, Bool.false_and] at z
          exact z
      · obtain ⟨s1, hD⟩ := hP
        rw [List.length_map, ← bl, List.take_length] at hD
        refine ⟨D, _, rfl, .of hD, s1 _ _ upd_same, ?_⟩
        exact q2 _ (same_unlock s1 hm)
theorem ok_writerSt {k : Nat} (F : FnP K "is_writer_state" iWriterSt f fd) (misi : mg "isinstance" = none) (mtup : mg "tuple" = none) (mlen : mg "len" = none) (mdict : mg "dict" = none) (mall : mg "all" = none)
    (FW : FnOk P w K mg base CX0 (k + 3) fW fdW ["value", "limits"] (spWritten K)) (gW : mg "is_written" = some (.ref fW)) (kW : PySem.W.keepIn K (.ref fW) = true) (bW : Binds K fdW ["value", "limits"] [])
    (FS : FnOk P w K mg base CX0 (k + 3) fS fdS ["value", "views"] (spSeen K)) (gS : mg "is_seen_sign" = some (.ref fS)) (kS : PySem.W.keepIn K (.ref fS) = true) (bS : Binds K fdS ["value", "views"] [])
    (FM : FnOk P w K mg base CX0 (k + 3) fM fdM ["value", "many", "limits"] (spMove K)) (gM : mg "is_move" = some (.ref fM)) (kM : PySem.W.keepIn K (.ref fM) = true) (bM : Binds K fdM ["value", "many", "limits"] [])
    (FN : FnOk P w K mg base CX0 (k + 3) fN fdN ["value", "low", "high"] (spNum K)) (gN : mg "is_number" = some (.ref fN)) (kN : PySem.W.keepIn K (.ref fN) = true) (bN : Binds K fdN ["value", "low", "high"] []) :
    FnOk P w K mg base CX0 (k + 4) f fd ["value", "many", "views", "limits"] (spWSt K w) := by
  refine F.ok scWriterSt (fun vs H Q E h => ?_) (fun cdv A outer s H vs Q E hr h => ?_)
  · obtain ⟨v, d, n, m, L, rfl, _⟩ := h
    rfl
  · obtain ⟨v, d, n, vw, L, rfl, hL, hd, q⟩ := h
    refine ⟨_, PSs.nox (pss_cons (ps_if (PW.pt (pw_or (pt_not (pt_val (pe_callB call_isiM (by rfl) misi boot_isinstance (pa_cons (pv 0) (pa_cons (pe_bltn (v := .ty "tuple") (by rfl) mtup (by decide +kernel) rfl) pa_nil)))))
          (pw_or1 (pt_cmpR op_ne (pe_callB call_len_seq (by rfl) mlen PySem.boot_len (pa_cons (pv 0) pa_nil)) pe_int (nomark _))))) (pss_one (ps_ret pe_bl)) pss_nil)
      (pss_cons (ps_asg (pv 0) (pg_tup rfl (pgs_cons (pg_name (i := 4) scWriterSt.nd rfl (.inl rfl)) (pgs_cons (pg_name (i := 5) scWriterSt.nd rfl (.inl rfl)) (pgs_cons (pg_name (i := 6) scWriterSt.nd rfl (.inl rfl)) pgs_nil)))))
      (pss_cons (ps_if (PW.pt (pw_or (pt_not (pt_val (pe_callB call_isiM (by rfl) misi boot_isinstance (pa_cons (pv 4) (pa_cons (pe_bltn (v := .ty "dict") (by rfl) mdict (by decide +kernel) rfl) pa_nil)))))
          (pw_or (pt_not (pt_val (pe_call FN hr (by rfl) gN kN bN .nil pass0 (pa_cons (pv 5) (pa_cons pe_int (pa_cons (pe_op op_sub (pv 1) pe_int) pa_nil))))))
          (pw_or1 (pt_not (pt_val (pe_call FW hr (by rfl) gW kW bW .nil pass0 (pa_cons (pv 6) (pa_cons (pv 3) pa_nil))))))))) (pss_one (ps_ret pe_bl)) pss_nil)
      (pss_one (ps_ret (pe_lock (pe_callB (cr_all rfl) (by rfl) mall (by decide +kernel) (pa_cons (pe_lc (own := [("key", 7), ("move", 8)]) (g := gTup K 2 (gCons (gName 7) (gCons (gName 8) gNil))) (tt := tYes) rfl scWriterSt.nd (pi_mitems (pv 4)) (blkOk_by (N := ["value", "many", "views", "limits", "moves", "other", "last", "key", "move"]) (sc := defScope (top iWriterSt)) (by decide +kernel))
        (fun _ _ _ _ _ => pg_tup rfl (pgs_cons (pg_name (i := 7) scWriterSt.nd rfl (Or.inl rfl)) (pgs_cons (pg_name (i := 8) scWriterSt.nd rfl (Or.inl rfl)) pgs_nil))) (fun _ _ _ _ _ => pts_nil)
        (fun _ _ _ _ _ => pe_and (pe_call FS hr (by rfl) gS kS bS .nil pass0 (pa_cons (pv 7) (pa_cons (pv 2) pa_nil))) (pe_one (pe_call FM hr (by rfl) gM kM bM .nil pass0 (pa_cons (pv 8) (pa_cons (pv 1) (pa_cons (pv 3) pa_nil))))))) pa_nil)))))))), ?_⟩
    cases d with
    | bad =>
      have q2 := q H (Same.refl H)
      rcases hd with hd | ⟨a, xs, rfl, hT, hd⟩
      · exact ⟨_, rfl, hd.rd ⟨_, rfl, q2⟩⟩
      · refine ⟨_, rfl, (ist_tup hT).rd ⟨_, rfl, _, rfl, a, xs, rfl, .inr hT, rfl, _, rfl, ite2 (fun e3 => q2) (fun e3 => ?_)⟩⟩
        have l2 : xs.length = 3 := int_eq (m := 3) e3
        obtain ⟨x, r, rfl, hx⟩ := hd.resolve_left fun z => z l2
        obtain ⟨y, z, rfl⟩ : ∃ y z, r = [y, z] := by
          match r, l2 with
          | [y, z], _ => exact ⟨y, z, rfl⟩
        exact ⟨_, rfl, a, _, rfl, hT, rfl, x, _, rfl, y, _, rfl, z, _, rfl, rfl, _, rfl, hx.rd ⟨_, rfl, q2⟩⟩
    | good rs ys ds =>
      obtain ⟨a, m, rfl, hT, hA, l1, hm, hR, sm⟩ := hd
      obtain ⟨o, l, rfl⟩ : ∃ o l, ds = [o, l] := by
        match ds, l1 with
        | [o, l], _ => exact ⟨o, l, rfl⟩
      cases hA with
      | cons h1 hA =>
      cases hA with
      | cons h2 hA =>
      cases hA
      rename_i vo vl
      refine ⟨_, rfl, (ist_tup hT).rd ⟨_, rfl, _, rfl, a, _, rfl, .inr hT, rfl, _, rfl, ?_⟩⟩
      refine ⟨_, rfl, a, _, rfl, hT, rfl, .ref m, _, rfl, vo, _, rfl, vl, _, rfl, rfl, _, rfl, (ist_md hm).rd ⟨_, rfl, ?_⟩⟩
      refine ⟨_, rfl, _, rfl, _, _, rfl, rfl, vo, o, 0, n - 1, rfl, h1, _, rfl, ite2 (fun e => ?_) (fun e => ?_)⟩
      · have q2 := q H (Same.refl H)
        rw [show wStD n vw (.good rs [vo, vl] [o, l]) = false by show (isNumD 0 (n - 1) o && _ && _) = _; rw [nF e, Bool.false_and, Bool.false_and]] at q2
        exact q2
      refine ⟨_, rfl, _, rfl, vl, l, L, rfl, hL, h2, by have := sm l (by simp); omega, fun H1 s1 => ⟨_, rfl, ite2 (fun e2 => ?_) (fun e2 => ?_)⟩⟩
      · have q2 := q H1 s1
        rw [show wStD n vw (.good rs [vo, vl] [o, l]) = false by show (isNumD 0 (n - 1) o && isWrittenD l && _) = _; rw [nF e2, Bool.and_false, Bool.false_and]] at q2
        exact q2
      have q2 := fun H' z => q H' z
      rw [show wStD n vw (.good rs [vo, vl] [o, l]) = (rs.map fun r => isSeenD vw r.2.1 && isMoveD n r.2.2).all id by show (isNumD 0 (n - 1) o && isWrittenD l && _) = _; rw [nT e, nT e2, Bool.true_and, Bool.true_and, List.all_map]; rfl] at q2
      have hR1 := hR.same s1
      have hm1 := s1 _ _ hm
      refine ⟨m, _, hm1, trivial, fun od => ⟨_, rfl, m, od, _, rfl, upd_same, fun D nD => ?_⟩⟩
      obtain ⟨bs, hbs⟩ : ∃ bs, bs = rs.map fun r => isSeenD vw r.2.1 && isMoveD n r.2.2 := ⟨_, rfl⟩
      rw [← hbs] at q2
      have bl : bs.length = rs.length := by rw [hbs, List.length_map]
      have few := hR.few
      have hL2 := lim_lock (f := .frz od (dM w m (rs.map (·.1)))) hm1 (same_tup s1 hL)
      refine lc_it (walk_mitems (kvs := rs.map (·.1))) (fun i H' => Same (upd H1 m (.frz od (dM w m (rs.map (·.1))))) H' ∧ H' D = some (.lst ((bs.take i).map V.bl))) ⟨same_upd nD, upd_same⟩ (fun i H' _ hP => hP.1 _ _ upd_same) (fun i x H' H'' hi hP hY => ?_) (fun H' hP => ?_)
      · obtain ⟨s2, hD⟩ := hP
        obtain ⟨T, p, hp, rfl, nT', rfl⟩ := hY
        rw [List.getElem?_map] at hp
        obtain ⟨r, hr2, rfl⟩ := Option.map_eq_some_iff.mp hp
        have mr := List.mem_of_getElem? hr2
        obtain ⟨dk, dv⟩ := hR1.dat r mr
        obtain ⟨sk, sv, _⟩ := hR.small r mr
        have s3 := s2.trans (same_upd nT' (o := .tup [r.1.2.1, r.1.2.2]))
        have dk2 := (dv_lock (f := .frz od (dM w m (rs.map (·.1)))) hm1 _ _ dk).same' s3
        have dv2 := (dv_lock (f := .frz od (dM w m (rs.map (·.1)))) hm1 _ _ dv).same' s3
        have bi : bs[i]? = some (isSeenD vw r.2.1 && isMoveD n r.2.2) := by rw [hbs, List.getElem?_map, hr2]; rfl
        have fin : ∀ H3, Same (upd H' T (.tup [r.1.2.1, r.1.2.2])) H3 → ∃ xs, H3 D = some (.lst xs) ∧ xs.length < sizeLine ∧ (fun i H' => Same (upd H1 m (.frz od (dM w m (rs.map (·.1))))) H' ∧ H' D = some (.lst ((bs.take i).map V.bl))) (i + 1) (upd H3 D (.lst (xs ++ [V.bl (isSeenD vw r.2.1 && isMoveD n r.2.2)]))) := fun H3 s3' =>
          ⟨_, s3' _ _ (same_upd nT' _ _ hD), by rw [List.length_map, List.length_take]; exact small5 (by omega), fun y o u => by rw [upd_ne (ne_of_none u nD)]; exact s3' _ _ (s3 _ _ u), by rw [upd_same, bl_take bi]⟩
        refine ⟨T, _, rfl, .of upd_same, rfl, _, _, rfl, _, _, rfl, rfl, rfl, _, rfl, _, rfl, _, r.2.1, vw, rfl, dk2, by omega, fun H3 s4 => ⟨_, rfl, ite2 (fun e4 => ?_) (fun e4 => ?_)⟩⟩
        · refine ⟨_, rfl, _, rfl, _, rfl, _, r.2.2, n, L, rfl, same_tup (s3.trans s4) hL2, dv2.same' s4, by omega, fun H4 s5 => ?_⟩
          have z := fin H4 (s4.trans s5)
          rw [e4, Bool.true_and] at z
          exact z
        · have z := fin H3 s4
          rw [cF e4, Bool.false_and] at z
          exact z
      · obtain ⟨s2, hD⟩ := hP
        rw [List.length_map, ← bl, List.take_length] at hD
        refine ⟨D, _, rfl, .of hD, s2 _ _ upd_same, ?_⟩
        exact q2 _ (s1.trans (same_unlock s2 hm1))
end
end K0
end
/-! ### DP3 -/
section
set_option Elab.async false
set_option linter.all false
set_option maxRecDepth 100000
set_option maxHeartbeats 4000000
/-! is_look, is_writer, are_firsts, are_parts. -/
namespace K0
open PySem PySem.Spec PyProof.Rows L2
open MD (dM KeysV KeyV rIsiM call_isiM)
theorem pairedX {α β : Type} {R : α → β → Prop} : ∀ {xs : List α} {ys : List β} {i : Nat} {x : α}, Paired R xs ys → xs[i]? = some x → ∃ y, ys[i]? = some y ∧ R x y
  | _, _, _, _, .nil, e => by simp at e
  | _, _, 0, x, .cons (a := a) (b := b) h t, e => by
    have e : some a = some x := by simpa using e
    cases e
    exact ⟨b, rfl, h⟩
  | _, _, i + 1, x, .cons (a := a) (b := b) h t, e => by
    obtain ⟨y, hy, r⟩ := pairedX (i := i) (x := x) t (by simpa using e)
    exact ⟨y, by simpa using hy, r⟩
theorem scIsLook : FnScope ["value", "limits", "state"] ["value", "limits"] (defScope (top iIsLook)) := ⟨rfl, rfl, rfl, by decide +kernel, rfl, by decide +kernel, by decide +kernel⟩
theorem scIsWriter : FnScope ["value", "views", "limits", "state"] ["value", "views", "limits"] (defScope (top iIsWriter)) := ⟨rfl, rfl, rfl, by decide +kernel, rfl, by decide +kernel, by decide +kernel⟩
theorem scFirsts : FnScope ["value", "views", "many", "state"] ["value", "views", "many"] (defScope (top iFirsts)) := ⟨rfl, rfl, rfl, by decide +kernel, rfl, by decide +kernel, by decide +kernel⟩
theorem scAreParts : FnScope ["writer", "look", "firsts", "limits"] ["writer", "look", "firsts", "limits"] (defScope (top iAreParts)) := ⟨rfl, rfl, rfl, by decide +kernel, rfl, by decide +kernel, by decide +kernel⟩
def spLook (K : PySem.W.Frag) (w : World) : Sp := fun vs H Q _ => ∃ (v : V) (d : WhD) (L : Addr), vs = [v, .ref L] ∧ Lim K H L ∧ WhX K w H 2 v d ∧ ∀ H', Same H H' → Q (.bl (lookD d)) H'
def spWriter (K : PySem.W.Frag) (w : World) : Sp := fun vs H Q _ => ∃ (v : V) (d : WhD) (n : Int) (L : Addr), vs = [v, .int n, .ref L] ∧ Lim K H L ∧ WhX K w H 3 v d ∧ ∀ H', Same H H' → Q (.bl (writerD n d)) H'
def spFirsts (K : PySem.W.Frag) : Sp := fun vs H Q _ => ∃ (v : V) (d : PyData) (n m : Int), vs = [v, .int n, .int m] ∧ Dv K H v d ∧ d.bulk ≤ 100000 ∧ ∀ H', Same H H' → Q (.bl (firstsD n m d)) H'
def spParts (K : PySem.W.Frag) (w : World) : Sp := fun vs H Q _ => ∃ (v1 v2 v3 : V) (dw dl : WhD) (df : PyData) (L : Addr), vs = [v1, v2, v3, .ref L] ∧ Lim K H L ∧ WhX K w H 3 v1 dw ∧ WhX K w H 2 v2 dl ∧ Dv K H v3 df ∧ df.bulk ≤ 100000 ∧ ∀ H', Same H H' → Q (.bl (partsD dw dl df)) H'
theorem all_if {α : Type} (f : α → Bool) (xs : List α) : (xs.map f).all id = xs.all f := by
  rw [List.all_map]
  rfl
section
variable {P : Program} {w : World} {K : PySem.W.Frag} {mg : Str → Option Value} {base : Heap} {f fT fS fN fW fM : Addr} {fd fdT fdS fdN fdW fdM : FuncData}
theorem ok_isLook {k : Nat} (F : FnP K "is_look" iIsLook f fd) (misi : mg "isinstance" = none) (mtup : mg "tuple" = none) (mlen : mg "len" = none) (mall : mg "all" = none)
    (FS : FnOk P w K mg base CX0 (k + 2) fS fdS ["value", "many"] (spLSt K w)) (gS : mg "is_look_state" = some (.ref fS)) (kS : PySem.W.keepIn K (.ref fS) = true) (bS : Binds K fdS ["value", "many"] []) :
    FnOk P w K mg base CX0 (k + 3) f fd ["value", "limits"] (spLook K w) := by
  refine F.ok scIsLook (fun vs H Q E h => ?_) (fun cdv A outer s H vs Q E hr h => ?_)
  · obtain ⟨v, d, L, rfl, _⟩ := h
    rfl
  · obtain ⟨v, d, L, rfl, hL, hd, q⟩ := h
    refine ⟨_, PSs.nox (pss_cons (ps_if (PW.pt (pw_or (pt_not (pt_val (pe_callB call_isiM (by rfl) misi boot_isinstance (pa_cons (pv 0) (pa_cons (pe_bltn (v := .ty "tuple") (by rfl) mtup (by decide +kernel) rfl) pa_nil)))))
          (pw_or (pt_not (pt_truth (pv 0) (by intro _; rfl)))
          (pw_or1 (PW.pt (pw_and (pt_cmp (pc_notN (pv 1))) (pw_and1 (pt_cmpR op_gt (pe_callB call_len_seq (by rfl) mlen PySem.boot_len (pa_cons (pv 0) pa_nil)) (pe_ix ix_tup (pv 1) pe_int (fun _ _ => rfl)) (nomark _))))))))) (pss_one (ps_ret pe_bl)) pss_nil)
      (pss_one (ps_ret (pe_callB (cr_all rfl) (by rfl) mall (by decide +kernel) (pa_cons (pe_lc (own := [("state", 2)]) (g := gName 2) (tt := tYes) rfl scIsLook.nd (pi_tup (pv 0)) (blkOk_by (N := ["value", "limits", "state"]) (sc := defScope (top iIsLook)) (by decide +kernel))
        (fun _ _ _ _ _ => pg_name (i := 2) scIsLook.nd rfl (Or.inl rfl)) (fun _ _ _ _ _ => pts_nil)
        (fun _ _ _ _ _ => pe_call FS hr (by rfl) gS kS bS .nil pass0 (pa_cons (pv 2) (pa_cons (pe_callB (call_lenK (K := K) rfl) (by rfl) mlen PySem.boot_len (pa_cons (pv 0) pa_nil)) pa_nil)))) pa_nil))))), ?_⟩
    cases d with
    | bad => exact ⟨_, rfl, Ist.rd hd ⟨_, rfl, q H (Same.refl H)⟩⟩
    | sts ss =>
      obtain ⟨a, xs, rfl, hT, hP, fewx⟩ := hd
      have pl := MD.paired_len hP
      have q0 := q H (Same.refl H)
      have ed : lookD (.sts ss) = (decide (0 < ss.length) && decide (ss.length ≤ 3) && ss.all (lStD ss.length)) := rfl
      refine ⟨_, rfl, (ist_tup hT).rd ⟨_, rfl, _, rfl, _, .inr (.inl ⟨xs, hT, rfl⟩), ite2 (fun e => ?_) (fun e => ?_)⟩⟩
      · rw [ed, show ss.length = 0 by cases xs with | nil => exact pl.symm | cons _ _ => cases e] at q0
        exact q0
      have pos : 0 < ss.length := by
        cases xs with
        | nil => exact absurd rfl e
        | cons _ _ => rw [← pl]; exact Nat.succ_pos _
      refine ⟨_, rfl, _, rfl, ?_⟩
      refine ⟨_, rfl, a, xs, rfl, .inr hT, _, rfl, L, _, 0, .int 3, rfl, rfl, hL, rfl, _, _, rfl, rfl, _, rfl, ite2 (fun e2 => ?_) (fun e2 => ?_)⟩
      · have e2 : (3 : Int) < xs.length := of_decide_eq_true e2
        rw [ed, decide_eq_false (show ¬ ss.length ≤ 3 by omega), Bool.and_false, Bool.false_and] at q0
        exact q0
      have e2 : ¬ (3 : Int) < xs.length := fun z => e2 (decide_eq_true z)
      have q2 := fun H' z => q H' z
      rw [ed, decide_eq_true pos, decide_eq_true (show ss.length ≤ 3 by omega), Bool.true_and, Bool.true_and, ← all_if] at q2
      obtain ⟨bs, hbs⟩ : ∃ bs, bs = ss.map (lStD ss.length) := ⟨_, rfl⟩
      rw [← hbs] at q2
      have bl : bs.length = ss.length := by rw [hbs, List.length_map]
      refine ⟨_, rfl, a, rfl, ⟨xs, hT⟩, fun D nD => lc_it (walk_tup (xs := xs)) (fun m H' => Same H H' ∧ H' D = some (.lst ((bs.take m).map V.bl))) ⟨same_upd nD, upd_same⟩ (fun _ H' _ hP => same_tup hP.1 hT) (fun i x H' H'' hm hP' hY => ?_) (fun H' hP' => ?_)⟩
      · obtain ⟨s1, hD⟩ := hP'
        obtain ⟨rfl, hx⟩ := hY
        obtain ⟨d1, h1, v1⟩ := pairedX hP hx
        refine ⟨rfl, _, rfl, _, rfl, a, xs, rfl, .inr (same_tup s1 hT), x, d1, xs.length, rfl, v1.same s1, fun H3 s3 => ⟨_, s3 _ _ hD, by rw [List.length_map, List.length_take]; exact small5 (by omega), fun y o u => by rw [upd_ne (ne_of_none u nD)]; exact s3 _ _ (s1 _ _ u), ?_⟩⟩
        rw [upd_same, pl, bl_take (b := lStD ss.length d1) (by rw [hbs, List.getElem?_map, h1]; rfl)]
      · obtain ⟨s1, hD⟩ := hP'
        rw [pl, ← bl, List.take_length] at hD
        exact ⟨D, _, rfl, .of hD, q2 H' s1⟩
theorem ok_isWriter {k : Nat} (F : FnP K "is_writer" iIsWriter f fd) (misi : mg "isinstance" = none) (mtup : mg "tuple" = none) (mlen : mg "len" = none) (mall : mg "all" = none)
    (FS : FnOk P w K mg base CX0 (k + 2) fS fdS ["value", "many", "views", "limits"] (spWSt K w)) (gS : mg "is_writer_state" = some (.ref fS)) (kS : PySem.W.keepIn K (.ref fS) = true) (bS : Binds K fdS ["value", "many", "views", "limits"] []) :
    FnOk P w K mg base CX0 (k + 3) f fd ["value", "views", "limits"] (spWriter K w) := by
  refine F.ok scIsWriter (fun vs H Q E h => ?_) (fun cdv A outer s H vs Q E hr h => ?_)
  · obtain ⟨v, d, n, L, rfl, _⟩ := h
    rfl
  · obtain ⟨v, d, n, L, rfl, hL, hd, q⟩ := h
    refine ⟨_, PSs.nox (pss_cons (ps_if (PW.pt (pw_or (pt_not (pt_val (pe_callB call_isiM (by rfl) misi boot_isinstance (pa_cons (pv 0) (pa_cons (pe_bltn (v := .ty "tuple") (by rfl) mtup (by decide +kernel) rfl) pa_nil)))))
          (pw_or (pt_not (pt_truth (pv 0) (by intro _; rfl)))
          (pw_or1 (PW.pt (pw_and (pt_cmp (pc_notN (pv 2))) (pw_and1 (pt_cmpR op_gt (pe_callB call_len_seq (by rfl) mlen PySem.boot_len (pa_cons (pv 0) pa_nil)) (pe_ix ix_tup (pv 2) pe_int (fun _ _ => rfl)) (nomark _))))))))) (pss_one (ps_ret pe_bl)) pss_nil)
      (pss_one (ps_ret (pe_callB (cr_all rfl) (by rfl) mall (by decide +kernel) (pa_cons (pe_lc (own := [("state", 3)]) (g := gName 3) (tt := tYes) rfl scIsWriter.nd (pi_tup (pv 0)) (blkOk_by (N := ["value", "views", "limits", "state"]) (sc := defScope (top iIsWriter)) (by decide +kernel))
        (fun _ _ _ _ _ => pg_name (i := 3) scIsWriter.nd rfl (Or.inl rfl)) (fun _ _ _ _ _ => pts_nil)
        (fun _ _ _ _ _ => pe_call FS hr (by rfl) gS kS bS .nil pass0 (pa_cons (pv 3) (pa_cons (pe_callB (call_lenK (K := K) rfl) (by rfl) mlen PySem.boot_len (pa_cons (pv 0) pa_nil)) (pa_cons (pv 1) (pa_cons (pv 2) pa_nil)))))) pa_nil))))), ?_⟩
    cases d with
    | bad => exact ⟨_, rfl, Ist.rd hd ⟨_, rfl, q H (Same.refl H)⟩⟩
    | sts ss =>
      obtain ⟨a, xs, rfl, hT, hP, fewx⟩ := hd
      have pl := MD.paired_len hP
      have q0 := q H (Same.refl H)
      have ed : writerD n (.sts ss) = (decide (0 < ss.length) && decide (ss.length ≤ 4) && ss.all (wStD ss.length n)) := rfl
      refine ⟨_, rfl, (ist_tup hT).rd ⟨_, rfl, _, rfl, _, .inr (.inl ⟨xs, hT, rfl⟩), ite2 (fun e => ?_) (fun e => ?_)⟩⟩
      · rw [ed, show ss.length = 0 by cases xs with | nil => exact pl.symm | cons _ _ => cases e] at q0
        exact q0
      have pos : 0 < ss.length := by
        cases xs with
        | nil => exact absurd rfl e
        | cons _ _ => rw [← pl]; exact Nat.succ_pos _
      refine ⟨_, rfl, _, rfl, ?_⟩
      refine ⟨_, rfl, a, xs, rfl, .inr hT, _, rfl, L, _, 1, .int 4, rfl, rfl, hL, rfl, _, _, rfl, rfl, _, rfl, ite2 (fun e2 => ?_) (fun e2 => ?_)⟩
      · have e2 : (4 : Int) < xs.length := of_decide_eq_true e2
        rw [ed, decide_eq_false (show ¬ ss.length ≤ 4 by omega), Bool.and_false, Bool.false_and] at q0
        exact q0
      have e2 : ¬ (4 : Int) < xs.length := fun z => e2 (decide_eq_true z)
      have q2 := fun H' z => q H' z
      rw [ed, decide_eq_true pos, decide_eq_true (show ss.length ≤ 4 by omega), Bool.true_and, Bool.true_and, ← all_if] at q2
      obtain ⟨bs, hbs⟩ : ∃ bs, bs = ss.map (wStD ss.length n) := ⟨_, rfl⟩
      rw [← hbs] at q2
      have bl : bs.length = ss.length := by rw [hbs, List.length_map]
      refine ⟨_, rfl, a, rfl, ⟨xs, hT⟩, fun D nD => lc_it (walk_tup (xs := xs)) (fun m H' => Same H H' ∧ H' D = some (.lst ((bs.take m).map V.bl))) ⟨same_upd nD, upd_same⟩ (fun _ H' _ hP => same_tup hP.1 hT) (fun i x H' H'' hm hP' hY => ?_) (fun H' hP' => ?_)⟩
      · obtain ⟨s1, hD⟩ := hP'
        obtain ⟨rfl, hx⟩ := hY
        obtain ⟨d1, h1, v1⟩ := pairedX hP hx
        refine ⟨rfl, _, rfl, _, rfl, a, xs, rfl, .inr (same_tup s1 hT), _, rfl, _, rfl, x, d1, xs.length, n, L, rfl, same_tup s1 hL, v1.same s1, fun H3 s3 => ⟨_, s3 _ _ hD, by rw [List.length_map, List.length_take]; exact small5 (by omega), fun y o u => by rw [upd_ne (ne_of_none u nD)]; exact s3 _ _ (s1 _ _ u), ?_⟩⟩
        rw [upd_same, pl, bl_take (b := wStD ss.length n d1) (by rw [hbs, List.getElem?_map, h1]; rfl)]
      · obtain ⟨s1, hD⟩ := hP'
        rw [pl, ← bl, List.take_length] at hD
        exact ⟨D, _, rfl, .of hD, q2 H' s1⟩
theorem ok_firsts {k : Nat} (F : FnP K "are_firsts" iFirsts f fd) (misi : mg "isinstance" = none) (mtup : mg "tuple" = none) (mlen : mg "len" = none) (mall : mg "all" = none)
    (FN : FnOk P w K mg base CX0 (k + 1) fN fdN ["value", "low", "high"] (spNum K)) (gN : mg "is_number" = some (.ref fN)) (kN : PySem.W.keepIn K (.ref fN) = true) (bN : Binds K fdN ["value", "low", "high"] []) :
    FnOk P w K mg base CX0 (k + 2) f fd ["value", "views", "many"] (spFirsts K) := by
  refine F.ok scFirsts (fun vs H Q E h => ?_) (fun cdv A outer s H vs Q E hr h => ?_)
  · obtain ⟨v, d, n, m, rfl, _⟩ := h
    rfl
  · obtain ⟨v, d, n, m, rfl, hd, sz, q⟩ := h
    refine ⟨_, PSs.nox (pss_cons (ps_if (PW.pt (pw_or (pt_not (pt_val (pe_callB call_isi (by rfl) misi boot_isinstance (pa_cons (pv 0) (pa_cons (pe_bltn (v := .ty "tuple") (by rfl) mtup (by decide +kernel) rfl) pa_nil)))))
          (pw_or1 (pt_cmpR op_ne (pe_callB call_len_seq (by rfl) mlen PySem.boot_len (pa_cons (pv 0) pa_nil)) (pv 1) (nomark _))))) (pss_one (ps_ret pe_bl)) pss_nil)
      (pss_one (ps_ret (pe_callB (cr_all rfl) (by rfl) mall (by decide +kernel) (pa_cons (pe_lc (own := [("state", 3)]) (g := gName 3) (tt := tYes) rfl scFirsts.nd (pi_tup (pv 0)) (blkOk_by (N := ["value", "views", "many", "state"]) (sc := defScope (top iFirsts)) (by decide +kernel))
        (fun _ _ _ _ _ => pg_name (i := 3) scFirsts.nd rfl (Or.inl rfl)) (fun _ _ _ _ _ => pts_nil)
        (fun _ _ _ _ _ => pe_or (pe_cmp (pc_isN (pv 3)) rfl) (pe_one (pe_call FN hr (by rfl) gN kN bN .nil pass0 (pa_cons (pv 3) (pa_cons pe_int (pa_cons (pe_op op_sub (pv 2) pe_int) pa_nil))))))) pa_nil))))), ?_⟩
    have q0 := q H (Same.refl H)
    refine ⟨_, rfl, v, _, _, _, _, rfl, .ty _, hd.ty, kit_tup d, _, rfl, ite2 (fun e => ?_) (fun e => ?_)⟩
    · rw [show firstsD n m d = false by cases d <;> first | rfl | cases e] at q0
      exact q0
    obtain ⟨a, xs, ds, rfl, rfl, hT, hA⟩ := is_tup hd (nT e)
    have sz2 : PyData.bulkAll ds ≤ 100000 := sz
    have xl := hA.length
    have ed : firstsD n m (.tuple ds) = (decide ((ds.length : Int) = n) && ds.all (isViewD m)) := rfl
    have bulk_len : ∀ es : List PyData, es.length ≤ PyData.bulkAll es := fun es => by
      induction es with
      | nil => exact Nat.zero_le _
      | cons e es ih => rw [PyData.bulkAll, List.length_cons]; omega
    have dl := bulk_len ds
    refine ⟨_, rfl, a, xs, rfl, .inr hT, _, rfl, rfl, _, rfl, ite2 (fun e3 => ?_) (fun e3 => ?_)⟩
    · have z : ¬ ((ds.length : Int) = n) := by
        rintro rfl
        rw [xl] at e3
        simp at e3
      rw [ed, decide_eq_false z, Bool.false_and] at q0
      exact q0
    have ln : (ds.length : Int) = n := by
      by_cases z : (ds.length : Int) = n
      · exact z
      · refine absurd ?_ e3
        have z2 : ¬ (V.int ((xs.length : Nat) : Int) = V.int n) := fun y => by
          injection y with y
          omega
        rw [decide_eq_false z2]
        rfl
    have q2 := fun H' z => q H' z
    rw [ed, decide_eq_true ln, Bool.true_and, ← all_if] at q2
    obtain ⟨bs, hbs⟩ : ∃ bs, bs = ds.map (isViewD m) := ⟨_, rfl⟩
    rw [← hbs] at q2
    have bl : bs.length = ds.length := by rw [hbs, List.length_map]
    refine ⟨_, rfl, a, rfl, ⟨xs, hT⟩, fun D nD => lc_it (walk_tup (xs := xs)) (fun i H' => Same H H' ∧ H' D = some (.lst ((bs.take i).map V.bl))) ⟨same_upd nD, upd_same⟩ (fun _ H' _ hP => same_tup hP.1 hT) (fun i x H' H'' hm hP' hY => ?_) (fun H' hP' => ?_)⟩
    · obtain ⟨s1, hD⟩ := hP'
      obtain ⟨rfl, hx⟩ := hY
      obtain ⟨d1, h1, v1⟩ := hA.get hx
      have bi : bs[i]? = some (isViewD m d1) := by rw [hbs, List.getElem?_map, h1]; rfl
      have fin : ∃ xs, H'' D = some (.lst xs) ∧ xs.length < sizeLine ∧ (fun i H' => Same H H' ∧ H' D = some (.lst ((bs.take i).map V.bl))) (i + 1) (upd H'' D (.lst (xs ++ [V.bl (isViewD m d1)]))) :=
        ⟨_, hD, by rw [List.length_map, List.length_take]; exact small5 (by omega), fun y o u => by rw [upd_ne (ne_of_none u nD)]; exact s1 _ _ u, by rw [upd_same, bl_take bi]⟩
      refine ⟨rfl, _, rfl, _, rfl, ite2 (fun e5 => ?_) (fun e5 => ?_)⟩
      · have e5 : x = .non := of_decide_eq_true e5
        subst e5
        cases v1
        exact fin
      · have e5 : x ≠ .non := fun y => e5 (decide_eq_true y)
        rw [isView_nn v1 e5] at fin
        exact ⟨_, rfl, _, rfl, _, _, rfl, rfl, x, d1, 0, m - 1, rfl, v1.same' s1, fin⟩
    · obtain ⟨s1, hD⟩ := hP'
      rw [xl, ← bl, List.take_length] at hD
      exact ⟨D, _, rfl, .of hD, q2 H' s1⟩
theorem ok_areParts {k : Nat} (F : FnP K "are_parts" iAreParts f fd) (mlen : mg "len" = none)
    (FL : FnOk P w K mg base CX0 (k + 6) fS fdS ["value", "limits"] (spLook K w)) (gL : mg "is_look" = some (.ref fS)) (kL : PySem.W.keepIn K (.ref fS) = true) (bL : Binds K fdS ["value", "limits"] [])
    (FW : FnOk P w K mg base CX0 (k + 6) fW fdW ["value", "views", "limits"] (spWriter K w)) (gW : mg "is_writer" = some (.ref fW)) (kW : PySem.W.keepIn K (.ref fW) = true) (bW : Binds K fdW ["value", "views", "limits"] [])
    (FF : FnOk P w K mg base CX0 (k + 6) fM fdM ["value", "views", "many"] (spFirsts K)) (gF : mg "are_firsts" = some (.ref fM)) (kF : PySem.W.keepIn K (.ref fM) = true) (bF : Binds K fdM ["value", "views", "many"] []) :
    FnOk P w K mg base CX0 (k + 7) f fd ["writer", "look", "firsts", "limits"] (spParts K w) := by
  refine F.ok scAreParts (fun vs H Q E h => ?_) (fun cdv A outer s H vs Q E hr h => ?_)
  · obtain ⟨v1, v2, v3, dw, dl, df, L, rfl, _⟩ := h
    rfl
  · obtain ⟨v1, v2, v3, dw, dl, df, L, rfl, hL, h1, h2, h3, sz, q⟩ := h
    refine ⟨_, PSs.nox (pss_cons (ps_if (PW.pt (pw_or (pt_not (pt_val (pe_call FL hr (by rfl) gL kL bL .nil pass0 (pa_cons (pv 1) (pa_cons (pv 3) pa_nil)))))
          (pw_or1 (pt_not (pt_val (pe_call FW hr (by rfl) gW kW bW .nil pass0 (pa_cons (pv 0) (pa_cons (pe_callB call_len_seq (by rfl) mlen PySem.boot_len (pa_cons (pv 1) pa_nil)) (pa_cons (pv 3) pa_nil))))))))) (pss_one (ps_ret pe_bl)) pss_nil)
      (pss_one (ps_ret (pe_call FF hr (by rfl) gF kF bF .nil pass0 (pa_cons (pv 2) (pa_cons (pe_callB call_len_seq (by rfl) mlen PySem.boot_len (pa_cons (pv 1) pa_nil)) (pa_cons (pe_callB call_len_seq (by rfl) mlen PySem.boot_len (pa_cons (pv 0) pa_nil)) pa_nil))))))), ?_⟩
    have ed : partsD dw dl df = (lookD dl && writerD (lenD dl) dw && firstsD (lenD dl) (lenD dw) df) := rfl
    rw [ed] at q
    refine ⟨_, rfl, _, rfl, v2, dl, L, rfl, hL, h2, fun H1 s1 => ⟨_, rfl, ite2 (fun e => ?_) (fun e => ?_)⟩⟩
    · rw [nF e, Bool.false_and, Bool.false_and] at q
      exact q H1 s1
    have el := nT e
    rw [el, Bool.true_and] at q
    obtain ⟨ls, rfl⟩ : ∃ ls, dl = .sts ls := by
      cases dl with
      | bad => cases el
      | sts ls => exact ⟨ls, rfl⟩
    obtain ⟨a, xs, rfl, hT, hP, fewx⟩ := h2.same s1
    have pl := MD.paired_len hP
    have el2 : lenD (.sts ls) = (xs.length : Nat) := by rw [pl]; rfl
    rw [el2] at q
    refine ⟨_, rfl, _, rfl, a, xs, rfl, .inr hT, _, rfl, v1, dw, xs.length, L, rfl, same_tup s1 hL, h1.same s1, fun H2 s2 => ⟨_, rfl, ite2 (fun e2 => ?_) (fun e2 => ?_)⟩⟩
    · rw [nF e2, Bool.false_and] at q
      exact q H2 (s1.trans s2)
    have ew := nT e2
    rw [ew, Bool.true_and] at q
    obtain ⟨ws, rfl⟩ : ∃ ws, dw = .sts ws := by
      cases dw with
      | bad => cases ew
      | sts ls => exact ⟨ls, rfl⟩
    obtain ⟨b, ys, rfl, hT2, hP2, fewy⟩ := h1.same (s1.trans s2)
    have pl2 := MD.paired_len hP2
    rw [show lenD (.sts ws) = (ys.length : Nat) by rw [pl2]; rfl] at q
    exact ⟨_, rfl, _, rfl, a, xs, rfl, .inr (same_tup s2 hT), _, rfl, b, ys, rfl, .inr hT2, v3, df, xs.length, ys.length, rfl, h3.same' (s1.trans s2), sz, fun H3 s3 => q H3 ((s1.trans s2).trans s3)⟩
end
end K0
end
/-! ### FZ -/
section
set_option Elab.async false
set_option linter.all false
set_option maxRecDepth 100000
set_option maxHeartbeats 4000000
/-! What tables of code and instances don't reach: values of data, parts of cleaners. -/
namespace K0
open PySem PySem.Spec PyProof.Rows L2 LamX
open MD (dM KeysV KeyV)
/-- all but the tables and the instance at x stay -/
def Ex (x : Addr) (H H' : Hp) : Prop := ∀ b o, b ≠ x → H b = some o → (∀ ps, o ≠ .tbl ps) → H' b = some o
def datO : HO → Option HO
  | .ins _ _ _ => none
  | .tbl _ => none
  | o => some o
def dat (H : Hp) : Hp := fun b => (H b).bind datO
theorem dat_of {H : Hp} {b : Addr} {o : HO} (e : H b = some o) : dat H b = datO o := by
  unfold dat
  rw [e]
  rfl
theorem dat_some {H : Hp} {b : Addr} {o : HO} (h : dat H b = some o) : H b = some o ∧ (∀ c d f, o ≠ .ins c d f) ∧ ∀ ps, o ≠ .tbl ps := by
  rcases e : H b with _ | u
  · unfold dat at h; rw [e] at h; cases h
  · rw [dat_of e] at h
    cases u with
    | ins c d f => cases h
    | tbl ps => cases h
    | _ => cases h; exact ⟨rfl, (fun _ _ _ z => by cases z), (fun _ z => by cases z)⟩
theorem dat_out {H : Hp} : Same (dat H) H := fun b o h => (dat_some h).1
theorem dat_ext {H H' : Hp} (k : ExtN H H') : Same (dat H) H' := fun b o h => k b o (dat_some h).1 (dat_some h).2.2
theorem dat_ex {x C dx : Addr} {fs : List (Str × V)} {H H' : Hp} (e : H x = some (.ins C dx fs)) (k : Ex x H H') : Same (dat H) H' := fun b o h => k b o (fun z => by
  have h1 := dat_some h
  rw [z, e] at h1
  exact h1.2.1 _ _ _ (Option.some.inj h1.1).symm) (dat_some h).1 (dat_some h).2.2
theorem Ex.trans {x : Addr} {H H1 H2 : Hp} (a : Ex x H H1) (b : Ex x H1 H2) : Ex x H H2 := fun c o n h t => b c o n (a c o n h t) t
theorem Ex.of {x : Addr} {H H' : Hp} (a : ExtN H H') : Ex x H H' := fun c o _ h t => a c o h t
theorem Ex.put {x : Addr} {H : Hp} {o : HO} : Ex x H (upd H x o) := fun c u n h _ => by rw [upd_ne n]; exact h
theorem sqt_dat {K : PySem.W.Frag} {H : Hp} {a : Addr} {xs : List V} (h : SqT K H a xs) : SqT K (dat H) a xs := by
  rcases h with (h | ⟨o, h⟩) | h
  · exact .inl (.inl (dat_of h))
  · exact .inl (.inr ⟨o, dat_of h⟩)
  · exact .inr h
theorem sql_dat {K : PySem.W.Frag} {H : Hp} {a : Addr} {xs : List V} (h : SqL K H a xs) : SqL K (dat H) a xs := by
  rcases h with (h | ⟨o, h⟩) | h
  · exact .inl (.inl (dat_of h))
  · exact .inl (.inr ⟨o, dat_of h⟩)
  · exact .inr h
theorem dv_dat {K : PySem.W.Frag} {H : Hp} {v : V} {d : PyData} (h : Dv K H v d) : Dv K (dat H) v d := by
  refine Dv.rec (K := K) (H := H) (motive_1 := fun v d _ => Dv K (dat H) v d) (motive_2 := fun vs ds _ => DvAll K (dat H) vs ds) ?_ ?_ ?_ ?_ ?_ ?_ ?_ ?_ ?_ h
  · exact .non
  · exact fun b => .bl b
  · exact fun i => .int i
  · exact fun x => .str x
  · exact fun h1 _ h2 => .lst (sql_dat h1) h2
  · exact fun h1 _ h2 => .tup (sqt_dat h1) h2
  · exact fun {a} {kvs} {ds} h1 h2 _ h3 => .dic (dat_of h1) h2 h3
  · exact .nil
  · exact fun _ _ h1 h2 => .cons h1 h2
theorem dvAll_dat {K : PySem.W.Frag} {H : Hp} : ∀ {vs : List V} {ds : List PyData}, DvAll K H vs ds → DvAll K (dat H) vs ds
  | _, _, .nil => .nil
  | _, _, .cons h t => .cons (dv_dat h) (dvAll_dat t)
mutual
theorem keyV_dat {K : PySem.W.Frag} {H : Hp} : ∀ (k : MD.NK) (v : V), KeyV K H v k → KeyV K (dat H) v k
  | .tup ks, _, h => by
    cases h with
    | atom q => exact .atom q
    | tup h1 h2 => exact .tup (sqt_dat h1) (keyVs_dat ks _ h2)
  | .none, _, h => by cases h with | atom q => exact .atom q
  | .num _, _, h => by cases h with | atom q => exact .atom q
  | .text _, _, h => by cases h with | atom q => exact .atom q
theorem keyVs_dat {K : PySem.W.Frag} {H : Hp} : ∀ (ks : List MD.NK) (vs : List V), MD.KeyVs K H vs ks → MD.KeyVs K (dat H) vs ks
  | [], _, h => by cases h; exact .nil
  | k :: ks, _, h => by cases h with | cons h1 h2 => exact .cons (keyV_dat k _ h1) (keyVs_dat ks _ h2)
end
theorem keysV_dat {K : PySem.W.Frag} {H : Hp} {kvs : List MD.Row} (h : KeysV K H kvs) : KeysV K (dat H) kvs := fun p m => ⟨keyV_dat _ _ (h p m).1, (h p m).2⟩
theorem rowsX_dat {K : PySem.W.Frag} {H : Hp} {rs : List RX} (h : RowsX K H rs) : RowsX K (K0.dat H) rs :=
  ⟨keysV_dat h.ks, h.nd, h.few, fun r m => ⟨dv_dat (h.dat r m).1, dv_dat (h.dat r m).2⟩, h.small⟩
theorem Ist.dat {K : PySem.W.Frag} {w : World} {H : Hp} {v : V} {n : String} {b : Bool} (h : Ist K w H v n b) : Ist K w (dat H) v n b := by
  rcases h with ⟨d, h, k⟩ | ⟨a, rows, rfl, h, k⟩ | ⟨a, xs, rfl, h, k⟩ | ⟨a, xs, rfl, h, k⟩
  · exact .inl ⟨d, dv_dat h, k⟩
  · exact .inr (.inl ⟨a, rows, rfl, dat_of h, k⟩)
  · exact .inr (.inr (.inl ⟨a, xs, rfl, sqt_dat h, k⟩))
  · exact .inr (.inr (.inr ⟨a, xs, rfl, sql_dat h, k⟩))
theorem StX.dat {K : PySem.W.Frag} {w : World} {H : Hp} {n : Nat} {v : V} : ∀ {d : StD}, StX K w H n v d → StX K w (dat H) n v d
  | .bad, h => by
    rcases h with h | ⟨a, xs, rfl, h, z | ⟨x, r, z, h2⟩⟩
    · exact .inl h.dat
    · exact .inr ⟨a, xs, rfl, sqt_dat h, .inl z⟩
    · exact .inr ⟨a, xs, rfl, sqt_dat h, .inr ⟨x, r, z, h2.dat⟩⟩
  | .good rs ys ds, h => by
    obtain ⟨a, m, rfl, h1, h2, h3, h4, h5, h6⟩ := h
    exact ⟨a, m, rfl, sqt_dat h1, dvAll_dat h2, h3, dat_of h4, rowsX_dat h5, h6⟩
theorem WhX.dat {K : PySem.W.Frag} {w : World} {H : Hp} {n : Nat} {v : V} : ∀ {d : WhD}, WhX K w H n v d → WhX K w (dat H) n v d
  | .bad, h => Ist.dat h
  | .sts ss, h => by
    obtain ⟨a, xs, rfl, h1, h2, h3⟩ := h
    exact ⟨a, xs, rfl, sqt_dat h1, pairedI2 (fun _ _ z => z.dat) h2, h3⟩
theorem tabs_put {T : List (Addr × Str)} {x C dx : Addr} {fs : List (Str × V)} {H : Hp} {o : HO} (e : H x = some (.ins C dx fs)) (t : Tabs T H) : Tabs T (upd H x o) := fun p hp => by
  obtain ⟨ps, h1, h2, h3⟩ := t p hp
  refine ⟨ps, by rw [upd_ne (fun z => by rw [z, e] at h1; cases h1)]; exact h1, h2, fun pos cv hc => ?_⟩
  obtain ⟨cc, e1, e2⟩ := h3 pos cv hc
  refine ⟨cc, e1, ?_⟩
  rw [upd_ne (fun z => by
    rw [z, e] at e2
    have y := Option.some.inj e2
    unfold CodeO at y
    cases y)]
  exact e2
theorem tabs_putL {T : List (Addr × Str)} {x : Addr} {ys : List V} {H : Hp} {o : HO} (e : H x = some (.lst ys)) (t : Tabs T H) : Tabs T (upd H x o) := fun p hp => by
  obtain ⟨ps, h1, h2, h3⟩ := t p hp
  refine ⟨ps, by rw [upd_ne (fun z => by rw [z, e] at h1; cases h1)]; exact h1, h2, fun pos cv hc => ?_⟩
  obtain ⟨cc, e1, e2⟩ := h3 pos cv hc
  refine ⟨cc, e1, ?_⟩
  rw [upd_ne (fun z => by
    rw [z, e] at e2
    have y := Option.some.inj e2
    unfold CodeO at y
    cases y)]
  exact e2
/-- a state as a cleaner keeps it -/
def KeptRow (K : PySem.W.Frag) (w : World) (H : Hp) (T : Addr) : StD → Prop
  | .good rs ys _ => ∃ d rows, SqT K H T (.ref d :: ys) ∧ H d = some (dM w d rows) ∧ rows.Perm (rs.map (·.1)) ∧ KeysV K H rows
  | .bad => False
def KeptAt (K : PySem.W.Frag) (w : World) (H : Hp) (t : Addr) (ss : List StD) : Prop := ∃ Ts : List Addr, SqT K H t (Ts.map V.ref) ∧ Paired (KeptRow K w H) Ts ss
theorem KeptRow.same {K : PySem.W.Frag} {w : World} {H H' : Hp} {T : Addr} : ∀ {d : StD}, KeptRow K w H T d → Same H H' → KeptRow K w H' T d
  | .bad, h, e => h
  | .good rs ys ds, h, e => by
    obtain ⟨d, rows, h1, h2, h3, h4⟩ := h
    exact ⟨d, rows, same_tup e h1, e _ _ h2, h3, h4.same e⟩
theorem KeptRow.dat {K : PySem.W.Frag} {w : World} {H : Hp} {T : Addr} : ∀ {d : StD}, KeptRow K w H T d → KeptRow K w (dat H) T d
  | .bad, h => h
  | .good rs ys ds, h => by
    obtain ⟨d, rows, h1, h2, h3, h4⟩ := h
    exact ⟨d, rows, sqt_dat h1, dat_of h2, h3, keysV_dat h4⟩
theorem KeptRow.off {K : PySem.W.Frag} {w : World} {H : Hp} {T l : Addr} {xs : List V} {u : HO} (e : H l = some (.lst xs)) : ∀ {d : StD}, KeptRow K w H T d → KeptRow K w (upd H l u) T d
  | .bad, h => h
  | .good rs ys ds, h => by
    obtain ⟨d, rows, h1, h2, h3, h4⟩ := h
    refine ⟨d, rows, ?_, by rw [upd_ne (fun z => by rw [z, e] at h2; cases h2)]; exact h2, h3, KeysV.off h4 (fun xs z => by rw [e] at z; cases z) (fun o xs z => by rw [e] at z; cases z)⟩
    rcases h1 with (h1 | ⟨o, h1⟩) | h1
    · exact .inl (.inl (by rw [upd_ne (fun z => by rw [z, e] at h1; cases h1)]; exact h1))
    · exact .inl (.inr ⟨o, by rw [upd_ne (fun z => by rw [z, e] at h1; cases h1)]; exact h1⟩)
    · exact .inr h1
theorem KeptAt.same {K : PySem.W.Frag} {w : World} {H H' : Hp} {t : Addr} {ss : List StD} (h : KeptAt K w H t ss) (e : Same H H') : KeptAt K w H' t ss := by
  obtain ⟨Ts, h1, h2⟩ := h
  exact ⟨Ts, same_tup e h1, pairedI2 (fun _ _ z => z.same e) h2⟩
theorem KeptAt.dat {K : PySem.W.Frag} {w : World} {H : Hp} {t : Addr} {ss : List StD} (h : KeptAt K w H t ss) : KeptAt K w (dat H) t ss := by
  obtain ⟨Ts, h1, h2⟩ := h
  exact ⟨Ts, sqt_dat h1, pairedI2 (fun _ _ z => z.dat) h2⟩
end K0
end
/-! ### CK -/
section
set_option Elab.async false
set_option linter.all false
set_option maxRecDepth 100000
set_option maxHeartbeats 4000000
/-! Cleaner._keep. -/
namespace K0
open PySem PySem.Spec PyProof.Rows L2 LamX
open MD (dM KeysV KeyV)
open SR (RowD)
def clsBody (s : Stmt) : List Stmt := match s with
  | .ClassDef (body := b) .. => b
  | _ => []
/-- the j-th row of the class Cleaner -/
def crow (j : Nat) : Stmt := (clsBody (top iCleaner)).getD j (.Pass ⟨0, 0, 0, 0⟩)
abbrev CrP (K : PySem.W.Frag) (x q : Str) (j : Nat) (f : Addr) (fd : FuncData) : Prop := FunD K x q (defArgs (crow j)) (defBody (crow j)) (defScope (crow j)) [] [] f fd
abbrev keN : List Str := ["self", "writer", "look", "firsts", "moves", "other", "last"]
theorem scKeep : FnScope keN ["self", "writer", "look", "firsts"] (defScope (crow 1)) := ⟨rfl, rfl, rfl, by decide +kernel, rfl, by decide +kernel, by decide +kernel⟩
/-- what the written part says of Cleaner -/
structure ClK (K : PySem.W.Frag) (C : Addr) : Prop where
  cl : Cls K C
  nw : NoAttr K C "_writer"
  nl : NoAttr K C "_look"
  nf : NoAttr K C "_firsts"
  no : NoAttr K C "_origins"
def goodS : StD → Prop
  | .bad => False
  | .good _ _ _ => True
/-- of a look's state: numbers only -/
def intsS : StD → Prop
  | .bad => False
  | .good rs ys _ => (∃ o : Int, ys = [.int o]) ∧ ∀ r ∈ rs, ∃ n : Int, r.1.2.2 = .int n
def insC (C dx tw tl to : Addr) (fv : V) : HO := .ins C dx [("_writer", .ref tw), ("_look", .ref tl), ("_firsts", fv), ("_origins", .ref to)]
def spKeep (K : PySem.W.Frag) (w : World) (C PT : Addr) : Sp := fun vs H Q _ => ∃ (x dx : Addr) (wv lv fv : V) (ws ls : List StD), vs = [.ref x, wv, lv, fv] ∧ H x = some (.ins C dx []) ∧ WhX K w H 3 wv (.sts ws) ∧ WhX K w H 2 lv (.sts ls) ∧ (∀ s ∈ ws, goodS s) ∧ (∀ s ∈ ls, intsS s) ∧ ls.length ≤ 3 ∧ ws.length ≤ 1000 ∧
  Tabs [(PT, ioQ)] H ∧ ∀ H' tw tl to, Ex x H H' → Tabs [(PT, ioQ)] H' → H' x = some (insC C dx tw tl to fv) → KeptAt K w H' tw ws → KeptAt K w H' tl ls → Q .non H'
theorem one_of {α : Type} {ds : List α} (h : ds.length = 1) : ∃ s, ds = [s] := by
  match ds, h with
  | [s], _ => exact ⟨s, rfl⟩
theorem paired_snoc {α β : Type} {R : α → β → Prop} {x : α} {y : β} (r : R x y) : ∀ {xs : List α} {ys : List β}, Paired R xs ys → Paired R (xs ++ [x]) (ys ++ [y])
  | _, _, .nil => .cons r .nil
  | _, _, .cons a t => .cons a (paired_snoc r t)
theorem take_snoc {α β : Type} {R : α → β → Prop} {xs : List α} {ys : List β} {i : Nat} {x : α} {y : β} (h : Paired R xs (ys.take i)) (e : ys[i]? = some y) (r : R x y) : Paired R (xs ++ [x]) (ys.take (i + 1)) := by
  rw [List.take_add_one, e]
  exact paired_snoc r h
theorem kept_new {K : PySem.W.Frag} {w : World} {H1 H2 : Hp} {T b : Addr} {rs : List RX} {vs : List V} {ds : List PyData} {ys : List RowD} (hR : RowsX K H1 rs) (eN : ExtN H1 H2) (pm : ys.Perm (rs.map fun r => (r.1, r.2.1))) (hb : H2 b = some (dM w b (ys.map (·.1)))) (nT : H2 T = none) :
    KeptRow K w (upd H2 T (.tup (.ref b :: vs))) T (.good rs vs ds) := by
  have pm2 : (ys.map (·.1)).Perm (rs.map (·.1)) := by
    have z := pm.map (·.1)
    rw [List.map_map] at z
    exact z
  refine ⟨b, _, .of upd_same, same_upd nT _ _ hb, pm2, ?_⟩
  refine KeysV.same (same_upd nT) fun p m => ?_
  exact KeysV.extN hR.ks eN p (pm2.mem_iff.mp m)
theorem rowsD {K : PySem.W.Frag} {H : Hp} {rs : List RX} (h : RowsX K H rs) : ∃ rd : List RowD, rd = rs.map (fun r => (r.1, r.2.1)) ∧ rd.map (·.1) = rs.map (·.1) ∧ rd.length ≤ 1000 ∧ ∀ r ∈ rd, Dv K H r.1.2.1 r.2 ∧ Fit r.2 := by
  refine ⟨_, rfl, by rw [List.map_map]; rfl, by rw [List.length_map]; exact h.few, fun r m => ?_⟩
  obtain ⟨q, hq, rfl⟩ := List.mem_map.mp m
  exact ⟨(h.dat q hq).1, (h.small q hq).2.2⟩
section
variable {P : Program} {w : World} {K : PySem.W.Frag} {mg : Str → Option Value} {base : Heap} {f fI fO C PT : Addr} {fd fdI fdO : FuncData}
theorem ok_keep {k : Nat} (F : CrP K "_keep" "Cleaner._keep" 1 f fd) (T : ClK K C) (mtup : mg "tuple" = none)
    (FI : FnG P w K mg base CX0 (k + 5) fI fdI ["moves"] (spInOrder K w PT)) (gI : mg "in_order" = some (.ref fI)) (kI : PySem.W.keepIn K (.ref fI) = true) (bI : Binds K fdI ["moves"] [])
    (FO : FnOk P w K mg base CX0 (k + 5) fO fdO ["look"] (spOrigins K w)) (gO : mg "origins_of" = some (.ref fO)) (kO : PySem.W.keepIn K (.ref fO) = true) (bO : Binds K fdO ["look"] []) :
    FnG P w K mg base CX0 (k + 6) f fd ["self", "writer", "look", "firsts"] (spKeep K w C PT) := by
  refine fnG_ofC F scKeep (fun vs H Q E h => ?_) (fun cdv hcd A outer s H vs Q E gd hr h => ?_)
  · obtain ⟨x, dx, wv, lv, fv, ws, ls, rfl, _⟩ := h
    rfl
  · obtain ⟨x, dx, wv, lv, fv, ws, ls, rfl, hx, hW, hL, gW, gL, l3, fw, tabs, q⟩ := h
    refine ⟨_, PSs.nox (C8.pss_cut (ps_fld (pv 0) (pe_callTy call_tuple_of (by rfl) mtup (by decide +kernel) (pa_cons (pe_lc (own := [("moves", 4), ("other", 5), ("last", 6)]) (g := gTup K 3 (gCons (gName 4) (gCons (gName 5) (gCons (gName 6) gNil)))) (tt := tYes) rfl scKeep.nd (pi_tup (pv 1)) (blkOk_by (N := keN) (sc := defScope (crow 1)) (by decide +kernel))
          (fun _ _ _ _ _ => pg_tup rfl (pgs_cons (pg_name (i := 4) scKeep.nd rfl (Or.inl rfl)) (pgs_cons (pg_name (i := 5) scKeep.nd rfl (Or.inl rfl)) (pgs_cons (pg_name (i := 6) scKeep.nd rfl (Or.inl rfl)) pgs_nil)))) (fun _ _ _ _ _ => pts_nil)
          (fun _ _ _ _ _ => pe_tup (pa_cons (peG FI gd hr (by rfl) gI kI bI pass0 (pa_cons (pv 4) pa_nil)) (pa_cons (pv 5) (pa_cons (pv 6) pa_nil))))) pa_nil)) rfl)
      (C8.pss_cut (ps_fld (pv 0) (pe_callTy call_tuple_of (by rfl) mtup (by decide +kernel) (pa_cons (pe_lc (own := [("moves", 4), ("other", 5)]) (g := gTup K 2 (gCons (gName 4) (gCons (gName 5) gNil))) (tt := tYes) rfl scKeep.nd (pi_tup (pv 2)) (blkOk_by (N := keN) (sc := defScope (crow 1)) (by decide +kernel))
          (fun _ _ _ _ _ => pg_tup rfl (pgs_cons (pg_name (i := 4) scKeep.nd rfl (Or.inl rfl)) (pgs_cons (pg_name (i := 5) scKeep.nd rfl (Or.inl rfl)) pgs_nil))) (fun _ _ _ _ _ => pts_nil)
          (fun _ _ _ _ _ => pe_tup (pa_cons (peG FI gd hr (by rfl) gI kI bI pass0 (pa_cons (pv 4) pa_nil)) (pa_cons (pv 5) pa_nil)))) pa_nil)) rfl)
      (pss_cons (ps_fld (pv 0) (pv 3) rfl)
      (pss_one (ps_fld (pv 0) (pe_call FO hr (by rfl) gO kO bO .nil pass0 (pa_cons (pe_fld (pv 0) rfl) pa_nil)) rfl))))), ?_⟩
    have sl : sizeLine = 16777216 := sizeLine_eq
    -- the writer
    refine ⟨fun σ' H' => σ' = [some (.ref x), some wv, some lv, some fv, none, none, none] ∧ ∃ tw, Ex x H H' ∧ Tabs [(PT, ioQ)] H' ∧ H' x = some (.ins C dx [("_writer", .ref tw)]) ∧ KeptAt K w H' tw ws, ?_, ?_⟩
    · obtain ⟨a, xs, rfl, hT, hP, fx⟩ := hW
      have pl := MD.paired_len hP
      refine ⟨_, rfl, a, rfl, ⟨xs, hT⟩, fun D nD => lc_it (walk_tup (xs := xs)) (fun i H' => ExtN H H' ∧ Tabs [(PT, ioQ)] H' ∧ ∃ Ts : List Addr, H' D = some (.lst (Ts.map V.ref)) ∧ Paired (KeptRow K w H') Ts (ws.take i))
        ⟨ExtN.of (same_upd nD), Tabs.ext tabs (same_upd nD), [], upd_same, by rw [List.take_zero]; exact .nil⟩ (fun _ H' _ hP' => ?_) (fun i y H' H'' hm hP' hY => ?_) (fun H' hP' => ?_)⟩
      · exact same_tup (dat_ext hP'.1) (sqt_dat hT)
      · obtain ⟨e1, t1, Ts, hD, hK⟩ := hP'
        obtain ⟨rfl, hx2⟩ := hY
        obtain ⟨s1, hs, st⟩ := pairedX hP hx2
        have ms := List.mem_of_getElem? hs
        have g1 := gW s1 ms
        cases s1 with
        | bad => exact g1.elim
        | good rs ys ds =>
          obtain ⟨b, m, rfl, h1, h2, h3, h4, h5, h6⟩ := st.dat.same (dat_ext e1)
          obtain ⟨v5, v6, rfl⟩ : ∃ v5 v6, ys = [v5, v6] := by
            have := h2.length
            exact two (by omega)
          obtain ⟨rd, erd, e2, e3, e4⟩ := rowsD h5
          refine ⟨b, _, rfl, h1, rfl, _, _, rfl, _, _, rfl, _, _, rfl, rfl, rfl, _, rfl, m, rd, rfl, by rw [e2]; exact h4, by rw [e2]; exact h5.ks, by rw [e2]; exact h5.nd, e3, e4, t1, fun H3 n zs eN t3 pm fr hn => ?_⟩
          have nd3 : H3 D = some (.lst (Ts.map V.ref)) := eN _ _ hD (fun _ z => by cases z)
          refine ⟨_, rfl, _, rfl, by show 3 ≤ sizeLine; omega, fun T nT => ⟨Ts.map V.ref, same_upd nT _ _ nd3, ?_, ?_⟩⟩
          · rw [List.length_map, MD.paired_len hK, List.length_take]
            omega
          · have sD := same_upd (o := .tup [.ref n, v5, v6]) nT
            have lD : upd H3 T (.tup [.ref n, v5, v6]) D = some (.lst (Ts.map V.ref)) := sD _ _ nd3
            refine ⟨fun y o u nt => ?_, tabs_putL lD (Tabs.ext t3 sD), Ts ++ [T], by rw [upd_same, List.map_append]; rfl, take_snoc (pairedI2 (fun _ _ z => ?_) hK) hs ?_⟩
            · rw [upd_ne (ne_of_none u nD)]
              exact sD _ _ (eN _ _ (e1 _ _ u nt) nt)
            · exact ((z.dat.same (dat_ext eN)).same sD).off lD
            · exact (kept_new h5 eN (erd ▸ pm) hn nT).off lD
      · obtain ⟨e1, t1, Ts, hD, hK⟩ := hP'
        rw [pl, List.take_length] at hK
        refine ⟨D, _, rfl, .inl ⟨.of hD, fun tw ntw => ?_⟩⟩
        have s2 := same_upd (o := .tup (Ts.map V.ref)) ntw
        have hx1 := s2 _ _ (e1 _ _ hx (fun _ z => by cases z))
        refine ⟨_, rfl, x, C, dx, [], rfl, hx1, T.cl, T.nw, by decide, rfl, tw, (Ex.trans (Ex.of (e1.trans (ExtN.of s2))) Ex.put), tabs_put hx1 (Tabs.ext t1 s2), upd_same, ?_⟩
        have kk : KeptAt K w (upd H' tw (.tup (Ts.map V.ref))) tw ws := ⟨Ts, .of upd_same, pairedI2 (fun _ _ z => z.same s2) hK⟩
        exact kk.dat.same (dat_ex hx1 Ex.put)
    rintro σ1 H1 ⟨rfl, tw, x1, t1, hx1, kw⟩
    -- the look
    refine ⟨fun σ' H' => σ' = [some (.ref x), some wv, some lv, some fv, none, none, none] ∧ ∃ tl, Ex x H1 H' ∧ Tabs [(PT, ioQ)] H' ∧ H' x = some (.ins C dx [("_writer", .ref tw), ("_look", .ref tl)]) ∧ KeptAt K w H' tl ls, ?_, ?_⟩
    · obtain ⟨a, xs, rfl, hT, hP, fx⟩ := hL.dat.same (dat_ex hx x1)
      have pl := MD.paired_len hP
      refine ⟨_, rfl, a, rfl, ⟨xs, hT⟩, fun D nD => lc_it (walk_tup (xs := xs)) (fun i H' => ExtN H1 H' ∧ Tabs [(PT, ioQ)] H' ∧ ∃ Ts : List Addr, H' D = some (.lst (Ts.map V.ref)) ∧ Paired (KeptRow K w H') Ts (ls.take i))
        ⟨ExtN.of (same_upd nD), Tabs.ext t1 (same_upd nD), [], upd_same, by rw [List.take_zero]; exact .nil⟩ (fun _ H' _ hP' => ?_) (fun i y H' H'' hm hP' hY => ?_) (fun H' hP' => ?_)⟩
      · exact same_tup (dat_ext hP'.1) (sqt_dat hT)
      · obtain ⟨e1, t2, Ts, hD, hK⟩ := hP'
        obtain ⟨rfl, hx2⟩ := hY
        obtain ⟨s1, hs, st⟩ := pairedX hP hx2
        have ms := List.mem_of_getElem? hs
        have g1 := gL s1 ms
        cases s1 with
        | bad => exact g1.elim
        | good rs ys ds =>
          obtain ⟨b, m, rfl, h1, h2, h3, h4, h5, h6⟩ := st.dat.same (dat_ext e1)
          obtain ⟨v5, rfl⟩ : ∃ v5, ys = [v5] := by
            have := h2.length
            exact one_of (by omega)
          obtain ⟨rd, erd, e2, e3, e4⟩ := rowsD h5
          refine ⟨b, _, rfl, h1, rfl, _, _, rfl, _, _, rfl, rfl, rfl, _, rfl, m, rd, rfl, by rw [e2]; exact h4, by rw [e2]; exact h5.ks, by rw [e2]; exact h5.nd, e3, e4, t2, fun H3 n zs eN t3 pm fr hn => ?_⟩
          have nd3 : H3 D = some (.lst (Ts.map V.ref)) := eN _ _ hD (fun _ z => by cases z)
          refine ⟨_, rfl, by show 2 ≤ sizeLine; omega, fun T nT => ⟨Ts.map V.ref, same_upd nT _ _ nd3, ?_, ?_⟩⟩
          · rw [List.length_map, MD.paired_len hK, List.length_take]
            omega
          · have sD := same_upd (o := .tup [.ref n, v5]) nT
            have lD : upd H3 T (.tup [.ref n, v5]) D = some (.lst (Ts.map V.ref)) := sD _ _ nd3
            refine ⟨fun y o u nt => ?_, tabs_putL lD (Tabs.ext t3 sD), Ts ++ [T], by rw [upd_same, List.map_append]; rfl, take_snoc (pairedI2 (fun _ _ z => ?_) hK) hs ?_⟩
            · rw [upd_ne (ne_of_none u nD)]
              exact sD _ _ (eN _ _ (e1 _ _ u nt) nt)
            · exact ((z.dat.same (dat_ext eN)).same sD).off lD
            · exact (kept_new h5 eN (erd ▸ pm) hn nT).off lD
      · obtain ⟨e1, t2, Ts, hD, hK⟩ := hP'
        rw [pl, List.take_length] at hK
        refine ⟨D, _, rfl, .inl ⟨.of hD, fun tl ntl => ?_⟩⟩
        have s2 := same_upd (o := .tup (Ts.map V.ref)) ntl
        have hx3 := s2 _ _ (e1 _ _ hx1 (fun _ z => by cases z))
        refine ⟨_, rfl, x, C, dx, _, rfl, hx3, T.cl, T.nl, by show 1 < 1000; decide, rfl, tl, (Ex.trans (Ex.of (e1.trans (ExtN.of s2))) Ex.put), tabs_put hx3 (Tabs.ext t2 s2), upd_same, ?_⟩
        have kk : KeptAt K w (upd H' tl (.tup (Ts.map V.ref))) tl ls := ⟨Ts, .of upd_same, pairedI2 (fun _ _ z => z.same s2) hK⟩
        exact kk.dat.same (dat_ex hx3 Ex.put)
    rintro σ2 H2 ⟨rfl, tl, x2, t2, hx2, kl⟩
    have kw2 := kw.dat.same (dat_ex hx1 x2)
    refine ⟨_, rfl, _, rfl, x, C, dx, _, rfl, hx2, T.cl, T.nf, by show 2 < 1000; decide, ?_⟩
    have x3 : Ex x H2 (upd H2 x (.ins C dx (putF "_firsts" fv [("_writer", .ref tw), ("_look", .ref tl)]))) := Ex.put
    have kl3 := kl.dat.same (dat_ex hx2 x3)
    have kw3 := kw2.dat.same (dat_ex hx2 x3)
    refine ⟨_, rfl, x, C, dx, _, _, rfl, upd_same, T.cl, T.nl, rfl, ?_⟩
    obtain ⟨Ts, hTs, hKs⟩ := kl3
    have lT := MD.paired_len hKs
    refine ⟨tl, Ts.map V.ref, rfl, hTs, by rw [List.length_map]; omega, fun v hv => ?_, fun H4 to s4 => ?_⟩
    · obtain ⟨T0, hT0, rfl⟩ := List.mem_map.mp hv
      obtain ⟨i, hi⟩ := List.mem_iff_getElem?.mp hT0
      obtain ⟨sd, hsd, kr⟩ := pairedX hKs hi
      have g1 := gL sd (List.mem_of_getElem? hsd)
      cases sd with
      | bad => exact g1.elim
      | good rs ys ds =>
        obtain ⟨⟨o, rfl⟩, g2⟩ := g1
        obtain ⟨d, rows, h1, h2, h3, h4⟩ := kr
        refine ⟨T0, d, o, rows, rfl, h1, h2, h4, fun r hr2 => ?_⟩
        obtain ⟨z, hz, rfl⟩ := List.mem_map.mp (h3.mem_iff.mp hr2)
        exact g2 z hz
    · have hx4 := s4 _ _ upd_same
      refine ⟨_, rfl, x, C, dx, _, rfl, hx4, T.cl, T.no, by show 3 < 1000; decide, ?_⟩
      have x4 : Ex x (upd H2 x (.ins C dx (putF "_firsts" fv [("_writer", .ref tw), ("_look", .ref tl)]))) H4 := fun b o _ h _ => s4 _ _ h
      have x5 : Ex x H4 (upd H4 x (.ins C dx (putF "_origins" (.ref to) (putF "_firsts" fv [("_writer", .ref tw), ("_look", .ref tl)])))) := Ex.put
      refine q _ tw tl to (x1.trans (x2.trans (x3.trans (x4.trans x5)))) (tabs_put hx4 (Tabs.ext (tabs_put hx2 t2) s4)) upd_same ?_ ?_
      · exact (kw3.same s4).dat.same (dat_ex hx4 x5)
      · exact (KeptAt.same ⟨Ts, hTs, hKs⟩ s4).dat.same (dat_ex hx4 x5)
end
end K0
end
/-! ### RG -/
section
set_option Elab.async false
set_option linter.all false
set_option maxRecDepth 100000
set_option maxHeartbeats 4000000
/-! Defs that want that nothing is being shown, called as a method and as a constructor with keywords; tuple * int from 1 on. -/
namespace K0
open PySem PySem.Spec PyProof.Rows L2
section
variable {X : Cx} {CX : CXT} {k n : Nat} {f C : Addr} {fd : FuncData} {ps ks : List Str} {sp : Sp} {E : XK} {x m : Str} {p pos apos : Pos} {o e : Expr} {es : List Expr} {kws : List Keyword} {ta : TE} {t tk : TA} {g : List Value → List Value → List Value} {gV : List V → List V → List V}
theorem run_fnG {pins : List (Addr × Obj)} {σ : L2.St} {H : Hp} {s : Shared} {Q : VK} {us : List Value} {vs : List V} (F : FnG X.prog X.w X.K X.mg X.base CX k f fd ps sp) (gd : X.A.guards = some []) (hr : Room k X.A) (hb : Binds X.K fd ps []) (hx : Passes CX X E) (I : Inv X pins σ H s) (r : Vals vs us) (q : sp vs H Q E) :
    wpAny (model X.prog X.w) X.A (call (.ref f) us) (EP X pins σ Q) X.xe s := by
  have size : (us ++ []).length = ps.length := by rw [List.append_nil, ← r.length]; exact F.many _ _ _ _ q
  have bd2 := hb s us I.kIn size
  rw [List.append_nil] at bd2
  refine wpAny_call (codeAny_mono (F.go X.A X.stack s H ⟨us, []⟩ us vs Q E gd hr I.env0 bd2 r q) fun res s' z => ?_)
  rcases res with err | fl
  · exact hx pins σ H s err s' I z
  · cases fl with
    | ret u => exact I.after z
    | next => exact z.elim
    | brk => exact z.elim
    | cont => exact z.elim
/-- o.m(e, ..), the method such a def -/
theorem pe_methG {pl : Sem Bool} (F : FnG X.prog X.w X.K X.mg X.base CX k f fd ps sp) (gd : X.A.guards = some []) (he : PE X o ta) (c : Cls X.K C) (hm : Meth X.K C m f) (hr : Room k X.A) (hb : Binds X.K fd ps []) (hx : Passes CX X E) (ha : PA X (e :: es) t)
    (hst : starEach (e :: es) X.env = (false, eval e X.env) :: starEach es X.env := by rfl) (hpl : (backTo pos (starEach es X.env)).any (·.1) = false := by rfl)
    (ht : eval (.Call (.Attribute o m apos) (e :: es) [] pos) X.env = (do
      let ov ← eval o X.env
      standAt apos.atName
      let (f, first) ← holding [ov] (getMethod ov m pl)
      callWith pos f first (backTo pos (starEach (e :: es) X.env)) (backToKw pos (keywordEach [] X.env))) := by rfl) :
    PE X (.Call (.Attribute o m apos) (e :: es) [] pos) (tMeth C m sp [] E ta t) := by
  refine ⟨fun pins s σ H Q I h => ?_⟩
  refine PySem.W.methodCall_KW (pl := pl) (thn (he.run pins s σ H _ I h) fun u s1 ⟨x, H1, I1, rx, a, dx, fs, ex, ea, l, q⟩ => ?_) ht
  subst ex
  obtain rfl : u = Value.ref a := rx
  refine getmeth_ok I1 ea c hm l ?_
  refine PySem.W.callWith_K (first := [.ref a]) (h₀ := X.base) I.ok.mod.kin hm.kp (thn (ha.run pos pins s1 σ H1 _ I1 q) fun us s2 ⟨vs, H2, I2, r, q2⟩ => ⟨I2.kIn, ?_⟩) hst hpl
  have q2 : sp (.ref a :: (vs ++ [])) H2 Q E := q2
  rw [List.append_nil] at q2
  exact run_fnG (us := .ref a :: us) (vs := .ref a :: vs) F gd hr hb hx I2 (.cons rfl r) q2
theorem guards_make {A : Around} {us : List Value} {kw : List (Str × Value)} (gd : A.guards = some []) : (A.under (.builtin "type.__call__" ⟨us, kw⟩)).guards = some [] := by
  unfold Around.under
  simp only []
  rw [gd]
  have z : Code.guards (.builtin "type.__call__" ⟨us, kw⟩) = [] := by
    unfold Code.guards
    rw [show Code.isGuard (.builtin "type.__call__" ⟨us, kw⟩) = false from by show guardIds.contains "type.__call__" = false; decide +kernel]
    rfl
  rw [z]
  rfl
/-- C(e, .., k = v, ..), __init__ such a def -/
theorem pe_makeKG (M : Mk X.K C f) (F : FnG X.prog X.w X.K X.mg X.base CX k f fd ps sp) (gd : X.A.guards = some []) (hr : Room (k + 1) X.A) (hg : Gl X x) (hm : X.mg x = some (.ref C)) (hb : KBn X.K fd ps (n + 1) ks g gV) (hx : Passes CX X E) (ha : PA X (e :: es) t) (hkw : PK X kws tk)
    (hall : (backToKw pos (keywordEach kws X.env)).all (·.1.isSome) = true := by rfl) (hks : (backToKw pos (keywordEach kws X.env)).filterMap (·.1) = ks := by rfl) (hdb : (x == ("__debug__" : Str)) = false := by decide)
    (he : starEach (e :: es) X.env = (false, eval e X.env) :: starEach es X.env := by rfl) (hpl : ((backTo pos (starEach (e :: es) X.env)).any (·.1) || (backToKw pos (keywordEach kws X.env)).any (·.1.isNone)) = false := by rfl) :
    PE X (.Call (.Name x p) (e :: es) kws pos) (tMakeK C n ks.length sp gV E t tk) := by
  refine ⟨fun pins s σ H Q I h => ?_⟩
  refine wpAny_Call_Name_kw (ld_glob I hg hm ?_ hdb)
  refine PySem.W.callWith_KW (h₀ := X.base) I.ok.mod.kin M.kp hall (thn (ha.run pos pins s σ H _ I h) fun us s1 ⟨vs, H1, I1, r, q⟩ => ?_) hpl he
  refine thn (hkw.run pos pins s1 σ H1 _ I1 q) fun ws s2 ⟨zs, H2, I2, rz, l1, l2, q2⟩ => ⟨I2.kIn, ?_⟩
  rw [hks]
  have hq := q2 (s2.heap.objs.size + 1) s2.heap.objs.size (I2.hok.fresh (Nat.le_succ _)) (I2.hok.fresh (Nat.le_refl _)) (Nat.ne_of_lt (Nat.lt_succ_self _))
  have I3 := Inv.made (C := C) I2
  have r1 : Vals (V.ref (s2.heap.objs.size + 1) :: vs) (Value.ref (s2.heap.objs.size + 1) :: us) := .cons rfl r
  have r2 := hb.rel r1 rz
  have n1 : (Value.ref (s2.heap.objs.size + 1) :: us).length = n + 1 := by rw [List.length_cons, ← r.length, l1]
  refine wpAny_call (make_map (f := f) I2.kIn M.makes M.init (beq_iff_eq.mp M.fn) (codeAny_mono (F.go _ X.stack _ _ ⟨Value.ref (s2.heap.objs.size + 1) :: us, ks.zip ws⟩ (g (Value.ref (s2.heap.objs.size + 1) :: us) ws) _ _ E (guards_make gd) (hr.make C us (ks.zip ws))
    (I3.env0.make C us (ks.zip ws)) (hb.to _ (Value.ref (s2.heap.objs.size + 1) :: us) ws I3.kIn n1 (rz.length.symm.trans l2)) r2 hq) fun r s' hq' => ?_))
  cases r with
  | error e => exact hx pins σ _ _ e s' I3 hq'
  | ok fl =>
    cases fl with
    | ret u =>
      obtain ⟨v, H', I4, rv, ev, q3⟩ := I3.after hq'
      subst ev
      exact ⟨rv, ⟨V.ref (s2.heap.objs.size + 1), H', I4, rfl, q3⟩⟩
    | next => exact False.elim hq'
    | brk => exact False.elim hq'
    | cont => exact False.elim hq'
end
theorem tuple_mul1 (l : Addr) (items : Array Value) (n : Nat) (dd : Option Addr) (sl : Array (Option Value)) (u : Tok) :
    Meets (Builtin.«tuple.__mul__» ⟨[.ref l, .int 1 u], []⟩) (fun _ R s => s.heap.get? l = some { cls := .type "tuple", dict := dd, data := .seq items n, slots := sl } ∧ R (.ok (.ret (Value.ref l))) s) :=
  .of_wp fun prog w A R s h => by
    obtain ⟨hp, g, d, tk, os⟩ := s
    obtain ⟨hl, h⟩ := h
    have f1 := AutoSeq1.idx_int
    have c1 : (items.isEmpty || (1 : Int) == 1) = true := by simp
    wp_walk using wpAny_loadPart' hl
    repeat (first
      | (refine wpAny_ite_false (decide_eq_false (by decide)) ?_; wp_walk using wpAny_loadPart' hl)
      | (refine wpAny_ite_true (decide_eq_true c1) ?_; wp_walk using wpAny_loadPart' hl))
    exact ⟨_, rfl, h⟩
/-- t * k, from 1 on -/
def rRepA (K : PySem.W.Frag) : R2 := fun x y H Q => ∃ l k xs, x = .ref l ∧ y = .int k ∧ SqT K H l xs ∧ xs ≠ [] ∧ 1 ≤ k ∧ k ≤ 1000 ∧ xs.length ≤ 1000 ∧ (k = 1 → Q (.ref l) H) ∧ (2 ≤ k → ∀ p, H p = none → Q (.ref p) (upd H p (.tup (List.replicate k.toNat xs).flatten)))
theorem op_repA {X : Cx} : OpR X (binaryOp .Mult) (rRepA X.K) := by
  intro pins s σ H x y v u Q I rx ry h
  obtain ⟨l, k, xs, rfl, rfl, hT, hne, h1, h2, hz, q1, q⟩ := h
  by_cases k1 : k = 1
  · subst k1
    cases rx
    obtain ⟨t, rfl⟩ := ry
    obtain ⟨its, r, ⟨⟨cls, dd, data, sl⟩, ho, hc, n, hd⟩, hs⟩ := I.tuple hT
    simp only at hc hd
    subst hc hd
    refine wpAny_binaryOp_repeat_ref (T := "tuple") (U := "int") (by decide) ⟨_, ho, rfl⟩ (fun s' => typeIs_int s' 1 t) noFill_tuple_mul F.fills_int_mul F.slot_int_rmul repeat_tuple F.slot_int_index.lookup
      (call_meets F.slot_int_rmul (typeIs_int s 1 t) F.entry_int_rmul (F.args_int_rmul_2 _ _) (int_rmul_tuple 1 t l its.toArray n dd sl)
        ⟨ho, rfl, ⟨_, ho, rfl⟩, call_meets F.slot_tuple_mul ⟨_, ho, rfl⟩ F.entry_tuple_mul (F.args_tuple_mul_2 _ _) (tuple_mul1 l its.toArray n dd sl t) ⟨ho, ?_⟩⟩)
    exact ⟨.ref l, H, I, rfl, q1 rfl⟩
  · exact op_repT pins s σ H _ _ v u Q I rx ry ⟨l, k, xs, rfl, rfl, hT, hne, by omega, h2, hz, q (by omega)⟩
end K0
end
/-! ### CI -/
section
set_option Elab.async false
set_option linter.all false
set_option maxRecDepth 100000
set_option maxHeartbeats 4000000
/-! Cleaner.__init__. -/
namespace K0
open PySem PySem.Spec PyProof.Rows L2 LamX
open MD (dM KeysV KeyV call_isiM)
abbrev ciN : List Str := ["self", "writer", "look", "firsts", "seen", "first"]
theorem scCInit : FnScope ciN ["self", "writer", "look", "firsts"] (defScope (crow 0)) := ⟨rfl, rfl, rfl, by decide +kernel, rfl, by decide +kernel, by decide +kernel⟩
abbrev CiP (K : PySem.W.Frag) (f : Addr) (fd : FuncData) : Prop := FunD K "__init__" "Cleaner.__init__" (defArgs (crow 0)) (defBody (crow 0)) (defScope (crow 0)) [] [("look", .non), ("firsts", .non)] f fd
/-- what the written part says of InvalidCleaner -/
structure ExcK (K : PySem.W.Frag) (CE : Addr) : Prop where
  exc : PySem.W.excIn K CE He.veBase "ValueError.__new__" = true
  kp : PySem.W.keepIn K (.ref CE) = true
  sub : PySem.W.subIn K (.ref CE) (.type "BaseException") = some true
  ty : PySem.W.typeIn K (.ref CE) = some (.type "type")
def dl0 : WhD := .sts [.good [] [.int 0] [.int 0]]
def zerosD (n : Nat) : PyData := .tuple (List.replicate n (.int 0))
def firstD : WhD → PyData → PyData
  | .sts ss, .none => zerosD ss.length
  | _, d => d
def LookV (K : PySem.W.Frag) (w : World) (H : Hp) (lv : V) (dl : WhD) : Prop := (lv = .non ∧ dl = dl0) ∨ (lv ≠ .non ∧ WhX K w H 2 lv dl)
theorem LookV.same {K : PySem.W.Frag} {w : World} {H H' : Hp} {lv : V} {dl : WhD} (h : LookV K w H lv dl) (e : Same H H') : LookV K w H' lv dl := h.elim .inl fun z => .inr ⟨z.1, z.2.same e⟩
def stsD : WhD → List StD
  | .sts ss => ss
  | _ => []
def spCInit (K : PySem.W.Frag) (w : World) (C CE PT : Addr) : Sp := fun vs H Q E => ∃ (x dx : Addr) (wv lv fv : V) (dw dl : WhD) (df : PyData), vs = [.ref x, wv, lv, fv] ∧ H x = some (.ins C dx []) ∧ WhX K w H 3 wv dw ∧ LookV K w H lv dl ∧ Dv K H fv df ∧ df.bulk ≤ 10000 ∧
  (df = .none → ∀ ss, dl = .sts ss → ss.length ≤ 1000) ∧ Tabs [(PT, ioQ)] H ∧
  (partsD dw dl (firstD dl df) = true → ∀ H' tw tl to fv', (fv ≠ .non → fv' = fv) → Ex x H H' → Tabs [(PT, ioQ)] H' → H' x = some (insC C dx tw tl to fv') → KeptAt K w H' tw (stsD dw) → KeptAt K w H' tl (stsD dl) → Q .non H') ∧
  (partsD dw dl (firstD dl df) = false → ∀ H', Same H H' → E (.ref CE) none H')
theorem num_int {K : PySem.W.Frag} {H : Hp} {v : V} {d : PyData} {lo hi : Int} (h : Dv K H v d) (n : isNumD lo hi d = true) : ∃ i : Int, v = .int i ∧ lo ≤ i ∧ i ≤ hi := by
  cases h with
  | int i =>
    have n : (decide (lo ≤ i) && decide (i ≤ hi)) = true := n
    rw [Bool.and_eq_true, decide_eq_true_iff, decide_eq_true_iff] at n
    exact ⟨i, rfl, n⟩
  | _ => cases n
theorem look_ints {K : PySem.W.Frag} {w : World} {H : Hp} {v : V} {ls : List StD} (h : WhX K w H 2 v (.sts ls)) (g : lookD (.sts ls) = true) : (∀ s ∈ ls, intsS s) ∧ ls.length ≤ 3 := by
  have g : (decide (0 < ls.length) && decide (ls.length ≤ 3) && ls.all (lStD ls.length)) = true := g
  rw [Bool.and_eq_true, Bool.and_eq_true, decide_eq_true_iff, decide_eq_true_iff] at g
  refine ⟨fun s hs => ?_, g.1.2⟩
  obtain ⟨a, xs, rfl, hT, hP, _⟩ := h
  obtain ⟨i, hi⟩ := List.mem_iff_getElem?.mp hs
  obtain ⟨x, hx, st⟩ := MD.paired_get hP hi
  have z := List.all_eq_true.mp g.2 s hs
  cases s with
  | bad => cases z
  | good rs ys ds =>
    obtain ⟨b, m, rfl, h1, h2, h3, h4, h5, h6⟩ := st
    obtain ⟨o, rfl⟩ : ∃ o, ds = [o] := one_of (by omega)
    have z : (isNumD 0 ((ls.length : Int) - 1) o && rs.all fun r => isSignD r.2.1 && isNumD 0 ((ls.length : Int) - 1) r.2.2) = true := z
    obtain ⟨z1, z2⟩ := Bool.and_eq_true_iff.mp z
    cases h2 with
    | cons g1 g2 =>
    cases g2
    obtain ⟨n, rfl, _⟩ := num_int g1 z1
    refine ⟨⟨n, rfl⟩, fun r hr => ?_⟩
    have y := List.all_eq_true.mp z2 r hr
    rw [Bool.and_eq_true] at y
    obtain ⟨n2, e, _⟩ := num_int (h5.dat r hr).2 y.2
    exact ⟨n2, e⟩
theorem writer_good {ws : List StD} {n : Int} (g : writerD n (.sts ws) = true) : ∀ s ∈ ws, goodS s := by
  have g : (decide (0 < ws.length) && decide (ws.length ≤ 4) && ws.all (wStD ws.length n)) = true := g
  rw [Bool.and_eq_true] at g
  intro s hs
  have z := List.all_eq_true.mp g.2 s hs
  cases s with
  | bad => cases z
  | good rs ys ds => exact True.intro
theorem zeros_bulk : ∀ n : Nat, PyData.bulkAll (List.replicate n (.int 0)) ≤ 3 * n
  | 0 => Nat.le_refl _
  | n + 1 => by
    have := zeros_bulk n
    rw [List.replicate_succ, PyData.bulkAll]
    have : (PyData.int 0).bulk ≤ 2 := by decide +kernel
    omega
theorem zeros_dv {K : PySem.W.Frag} {H : Hp} : ∀ n : Nat, DvAll K H (List.replicate n (.int 0)) (List.replicate n (.int 0))
  | 0 => .nil
  | n + 1 => .cons (.int 0) (zeros_dv n)
theorem flat_one {α : Type} (x : α) : ∀ n : Nat, (List.replicate n [x]).flatten = List.replicate n x
  | 0 => rfl
  | n + 1 => by rw [List.replicate_succ, List.flatten_cons, flat_one x n]; rfl
theorem tuple_mul0 (l : Addr) (items : Array Value) (n : Nat) (dd : Option Addr) (sl : Array (Option Value)) (u : Tok) (hi : items.isEmpty = false) :
    Meets (Builtin.«tuple.__mul__» ⟨[.ref l, .int 0 u], []⟩) (fun _ R s => s.heap.get? l = some { cls := .type "tuple", dict := dd, data := .seq items n, slots := sl } ∧
      R (.ok (.ret (Value.ref s.heap.objs.size))) { s with heap := s.heap.push { cls := Value.type "tuple", data := Data.seq #[] }, toks := s.toks }) :=
  .of_wp fun prog w A R s h => by
    obtain ⟨hp, g, d, tk, os⟩ := s
    obtain ⟨hl, h⟩ := h
    have f1 := AutoSeq1.idx_int
    have c1 : (items.isEmpty || (0 : Int) == 1) = false := by rw [hi]; rfl
    wp_walk using wpAny_loadPart' hl
    repeat (first
      | (refine wpAny_ite_false (decide_eq_false (by decide)) ?_; wp_walk using wpAny_loadPart' hl)
      | (refine wpAny_ite_false (decide_eq_false (by rw [c1]; exact Bool.false_ne_true)) ?_; wp_walk using wpAny_loadPart' hl)
      | (refine wpAny_ite_true (decide_eq_true (by simp)) ?_; wp_walk using wpAny_loadPart' hl))
    exact ⟨_, rfl, h⟩
/-- t * k, from 0 on -/
def rRepZ (K : PySem.W.Frag) : R2 := fun x y H Q => (∃ l xs, x = .ref l ∧ y = .int 0 ∧ SqT K H l xs ∧ xs ≠ [] ∧ ∀ p, H p = none → Q (.ref p) (upd H p (.tup []))) ∨ rRepA K x y H Q
theorem op_repZ {X : Cx} : OpR X (binaryOp .Mult) (rRepZ X.K) := by
  intro pins s σ H x y v u Q I rx ry h
  rcases h with ⟨l, xs, rfl, rfl, hT, hne, q⟩ | h
  · cases rx
    obtain ⟨t, rfl⟩ := ry
    obtain ⟨its, r, ⟨⟨cls, dd, data, sl⟩, ho, hc, n, hd⟩, hs⟩ := I.tuple hT
    simp only at hc hd
    subst hc hd
    have hi : its.toArray.isEmpty = false := by
      cases its with
      | nil => cases r; exact absurd rfl hne
      | cons a b => rfl
    refine wpAny_binaryOp_repeat_ref (T := "tuple") (U := "int") (by decide) ⟨_, ho, rfl⟩ (fun s' => typeIs_int s' 0 t) noFill_tuple_mul F.fills_int_mul F.slot_int_rmul repeat_tuple F.slot_int_index.lookup
      (call_meets F.slot_int_rmul (typeIs_int s 0 t) F.entry_int_rmul (F.args_int_rmul_2 _ _) (int_rmul_tuple 0 t l its.toArray n dd sl)
        ⟨ho, rfl, ⟨_, ho, rfl⟩, call_meets F.slot_tuple_mul ⟨_, ho, rfl⟩ F.entry_tuple_mul (F.args_tuple_mul_2 _ _) (tuple_mul0 l its.toArray n dd sl t hi) ⟨ho, ?_⟩⟩)
    refine ⟨.ref s.heap.objs.size, _, I.laid (t' := s.toks) (o := .tup []) (fun b ob q => Heap.get?_push_of_some _ q) (Nat.le_refl _) ?_, rfl, q _ (I.hok.fresh (Nat.le_refl _))⟩
    exact ⟨Nat.zero_le _, [], .nil, IsTup.new _ _⟩
  · exact op_repA pins s σ H x y v u Q I rx ry h
section
variable {P : Program} {w : World} {K : PySem.W.Frag} {mg : Str → Option Value} {base : Heap} {f fK fP C CE PT : Addr} {fd fdK fdP : FuncData}
theorem ok_cinit {k : Nat} (F : CiP K f fd) (T : ClK K C) (TE : ExcK K CE) (gE : mg "InvalidCleaner" = some (.ref CE)) (misi : mg "isinstance" = none) (mtup : mg "tuple" = none) (mlen : mg "len" = none)
    (m1 : ∃ t, mg "MAX_LOOK" = some (.int 3 t)) (m2 : ∃ t, mg "MAX_WRITER" = some (.int 4 t)) (m3 : ∃ t, mg "MAX_WRITTEN" = some (.int 2 t))
    (FP : FnOk P w K mg base CX0 (k + 7) fP fdP ["writer", "look", "firsts", "limits"] (spParts K w)) (gP : mg "are_parts" = some (.ref fP)) (kP : PySem.W.keepIn K (.ref fP) = true) (bP : Binds K fdP ["writer", "look", "firsts", "limits"] [])
    (FK : FnG P w K mg base CX0 (k + 7) fK fdK ["self", "writer", "look", "firsts"] (spKeep K w C PT)) (me : Meth K C "_keep" fK) (bK : Binds K fdK ["self", "writer", "look", "firsts"] []) :
    FnG P w K mg base (L2.CX P w) (k + 8) f fd ["self", "writer", "look", "firsts"] (spCInit K w C CE PT) := by
  refine fnG_ofC F scCInit (fun vs H Q E h => ?_) (fun cdv hcd A outer s H vs Q E gd hr h => ?_)
  · obtain ⟨x, dx, wv, lv, fv, dw, dl, df, rfl, _⟩ := h
    rfl
  · obtain ⟨x, dx, wv, lv, fv, dw, dl, df, rfl, hx, hW, hL, hF, sz, few, tabs, good, bad⟩ := h
    obtain ⟨t1, m1⟩ := m1
    obtain ⟨t2, m2⟩ := m2
    obtain ⟨t3, m3⟩ := m3
    refine ⟨_, C8.pss_cut (ps_set (i := 4) scCInit.nd rfl (.inl rfl) (pe_ifExp (pt_cmp (pc_isN (pv 2))) (pe_tup (pa_cons (pe_tup (pa_cons MD.pe_mnew (pa_cons pe_int pa_nil))) pa_nil)) (pv 2)))
      (C8.pss_cut (ps_set (i := 5) scCInit.nd rfl (.inl rfl) (pe_ifExp (PW.pt (pw_and (pt_cmp (pc_isN (pv 3))) (pw_and1 (pt_val (pe_callB call_isiM (by rfl) misi boot_isinstance (pa_cons (pv 4) (pa_cons (pe_bltn (v := .ty "tuple") (by rfl) mtup (by decide +kernel) rfl) pa_nil)))))))
        (pe_op op_repZ (pe_tup (pa_cons pe_int pa_nil)) (pe_callB call_len_seq (by rfl) mlen PySem.boot_len (pa_cons (pv 4) pa_nil))) (pv 3)))
      (pss_cons (ps_if (pt_not (pt_val (pe_call FP hr (by rfl) gP kP bP .nil pass0 (pa_cons (pv 1) (pa_cons (pv 4) (pa_cons (pv 5) (pa_cons (pe_tup (pa_cons (pe_glob (v := .int 3) (by rfl) m1 ⟨t1, rfl⟩) (pa_cons (pe_glob (v := .int 4) (by rfl) m2 ⟨t2, rfl⟩) (pa_cons (pe_glob (v := .int 2) (by rfl) m3 ⟨t3, rfl⟩) pa_nil)))) pa_nil)))))))
        (pss_one (ps_raise rfl (takes_of rfl rfl rfl rfl) (pmk_ownA PySem.F.excBase_ValueError TE.exc gE TE.kp (raises_own TE.sub TE.ty) (by rfl) (pa_cons pe_str pa_nil)))) pss_nil)
      (pss_one (ps_expr (pe_methG FK gd (pv 0) T.cl me hr bK pass0 (pa_cons (pv 1) (pa_cons (pv 4) (pa_cons (pv 5) pa_nil)))))))), ?_⟩
    have sl : sizeLine = 16777216 := sizeLine_eq
    refine ⟨fun σ' H' => ∃ sv, σ' = [some (.ref x), some wv, some lv, some fv, some sv, none] ∧ Same H H' ∧ WhX K w H' 2 sv dl, ?_, ?_⟩
    · refine ⟨_, rfl, _, rfl, ite2 (fun e => ?_) (fun e => ?_)⟩
      · have e : lv = .non := of_decide_eq_true e
        obtain ⟨_, rfl⟩ := hL.resolve_right fun z => z.1 e
        intro m nm
        refine ⟨by show 2 ≤ sizeLine; omega, fun a na => ⟨by show 1 ≤ sizeLine; omega, fun b nb => ?_⟩⟩
        have s1 := same_upd (o := dM w m []) nm
        have s2 := same_upd (o := .tup [.ref m, .int 0]) na
        have s3 := same_upd (o := .tup [.ref a]) nb
        refine ⟨_, rfl, s1.trans (s2.trans s3), b, [.ref a], rfl, .of upd_same, .cons ⟨a, m, rfl, .of (s3 _ _ upd_same), .cons (.int 0) .nil, rfl, s3 _ _ (s2 _ _ upd_same), ⟨fun p hp => (nomatch hp), List.nodup_nil, by decide, fun r hr => (nomatch hr), fun r hr => (nomatch hr)⟩, fun d hd => ?_⟩ .nil, by show 1 ≤ 1000; decide⟩
        rw [List.mem_singleton.mp hd]
        decide +kernel
      · have e : lv ≠ .non := fun z => e (decide_eq_true z)
        obtain ⟨_, hL⟩ := hL.resolve_left fun z => e z.1
        exact ⟨_, rfl, _, rfl, Same.refl H, hL⟩
    rintro σ1 H1 ⟨sv, rfl, s1, hS⟩
    refine ⟨fun σ' H' => ∃ fv', σ' = [some (.ref x), some wv, some lv, some fv, some sv, some fv'] ∧ Same H1 H' ∧ Dv K H' fv' (firstD dl df) ∧ (firstD dl df).bulk ≤ 100000 ∧ (fv ≠ .non → fv' = fv), ?_, ?_⟩
    · refine ⟨_, rfl, _, rfl, ite2 (fun e => ?_) (fun e => ?_)⟩
      · have e : fv = .non := of_decide_eq_true e
        subst e
        cases hF
        cases dl with
        | bad => exact ⟨_, rfl, Ist.rd hS ⟨_, rfl, _, rfl, _, rfl, Same.refl H1, .non, by show PyData.bulk .none ≤ 100000; decide +kernel, fun _ => rfl⟩⟩
        | sts ss =>
          have l2 := few rfl ss rfl
          obtain ⟨a, xs, rfl, hT, hP, fx⟩ := hS
          have pl := MD.paired_len hP
          refine ⟨_, rfl, (ist_tup hT).rd ⟨_, rfl, by show 1 ≤ sizeLine; omega, fun b nb => ?_⟩⟩
          have sb := same_upd (o := .tup [.int 0]) nb
          have bk : (zerosD ss.length).bulk ≤ 100000 := by
            have := zeros_bulk ss.length
            show PyData.bulkAll _ ≤ _
            omega
          by_cases l0 : ss.length = 0
          · refine ⟨_, rfl, a, xs, rfl, .inr (same_tup sb hT), .inl ⟨b, [.int 0], rfl, by rw [pl, l0]; rfl, .of upd_same, by simp, fun p np => ?_⟩⟩
            refine ⟨_, rfl, sb.trans (same_upd np), ?_, bk, fun z => absurd rfl z⟩
            show Dv K _ _ (zerosD ss.length)
            rw [l0]
            exact .tup (.of upd_same) .nil
          refine ⟨_, rfl, a, xs, rfl, .inr (same_tup sb hT), .inr ⟨b, xs.length, [.int 0], rfl, rfl, .of upd_same, by simp, by omega, by omega, by decide, fun e1 => ?_, fun e2 p np => ?_⟩⟩
          · have l1 : ss.length = 1 := by omega
            refine ⟨_, rfl, sb, ?_, bk, fun z => absurd rfl z⟩
            show Dv K _ _ (zerosD ss.length)
            rw [l1]
            exact .tup (.of upd_same) (.cons (.int 0) .nil)
          · refine ⟨_, rfl, sb.trans (same_upd np), ?_, bk, fun z => absurd rfl z⟩
            show Dv K _ _ (zerosD ss.length)
            refine .tup (.of upd_same) ?_
            rw [show ((xs.length : Nat) : Int).toNat = ss.length by omega, flat_one]
            exact zeros_dv _
      · have e : fv ≠ .non := fun z => e (decide_eq_true z)
        have ed : firstD dl df = df := by
          cases dl with
          | bad => rfl
          | sts ss => cases hF <;> first | rfl | exact absurd rfl e
        refine ⟨_, rfl, _, rfl, Same.refl H1, ?_, ?_, fun _ => rfl⟩
        · rw [ed]; exact hF.same' s1
        · rw [ed]; omega
    rintro σ2 H2 ⟨fv', rfl, s2, hF2, bk, keepF⟩
    refine ⟨_, rfl, _, rfl, _, rfl, by show 3 ≤ sizeLine; omega, fun L nL => ?_⟩
    have s3 := (s1.trans s2).trans (same_upd (o := .tup [.int 3, .int 4, .int 2]) nL)
    have sS := s2.trans (same_upd (o := .tup [.int 3, .int 4, .int 2]) nL)
    refine ⟨wv, sv, fv', dw, dl, firstD dl df, L, rfl, .of upd_same, hW.same s3, hS.same sS, hF2.same' (same_upd nL), bk, fun H4 s4 => ⟨_, rfl, ite2 (fun e => ?_) (fun e => ?_)⟩⟩
    · exact ⟨by show 1 ≤ sizeLine; omega, bad (nF e) H4 (s3.trans s4)⟩
    have ok := nT e
    have good := good ok
    have ok2 := ok
    rw [show partsD dw dl (firstD dl df) = (lookD dl && writerD (lenD dl) dw && firstsD (lenD dl) (lenD dw) (firstD dl df)) from rfl, Bool.and_eq_true, Bool.and_eq_true] at ok2
    have s5 := s3.trans s4
    cases dw with
    | bad => cases ok2.1.2
    | sts ws =>
    cases dl with
    | bad => cases ok2.1.1
    | sts ls =>
    have hS4 := hS.same (sS.trans s4)
    obtain ⟨gi, l3⟩ := look_ints hS4 ok2.1.1
    have gw := writer_good ok2.1.2
    have hW4 := hW.same s5
    have fw : ws.length ≤ 1000 := by
      obtain ⟨a, xs, _, _, hP, fx⟩ := hW4
      rw [← MD.paired_len hP]
      exact fx
    have hx4 := s5 _ _ hx
    refine ⟨_, rfl, x, dx, [], rfl, hx4, rfl, _, rfl, _, rfl, _, rfl, x, dx, wv, sv, fv', ws, ls, rfl, hx4, hW4, hS4, gw, gi, l3, fw, Tabs.ext tabs s5, fun H6 tw tl to e6 t6 hx6 k1 k2 => ?_⟩
    exact good H6 tw tl to fv' keepF (Ex.trans (fun b o _ h _ => s5 _ _ h) e6) t6 hx6 k1 k2
end
end K0
end
/-! ### MD8 -/
section
set_option Elab.async false
set_option linter.all false
set_option maxRecDepth 100000
set_option maxHeartbeats 4000000
/-! == of such dicts with the same rows, in whatever order, and of tuples that hold them: it is True. -/
namespace MD
open PySem PySem.Calls PyProof.Rows PySem.W
open PySem.SeqAt (EqIn rcIn_tuples)
section
variable {prog : Program} {w : World} {A : Around} {E : Value → Shared → Prop} {s : Shared} {a b : Addr} {xs ys : List (NK × Value × Value)}
/-- the items of two such dicts, those of the first looked up in the second -/
theorem pairs_md {nm : String} (hu : A.units + 8 < cLine) (ha : (a == sysModules) = false) (hb : (b == sysModules) = false) (ma : At w s.heap a xs) (mb : At w s.heap b ys) (len : xs.length = ys.length)
    (eqs : ∀ x ∈ xs, ∃ y ∈ ys, y.1 = x.1 ∧ EqIn prog w A s x.2.2 y.2.2 true) {Q : Bool → Shared → Prop} (q : Q true s) : wpAny (model prog w) A (Builtin.Dict.samePairs nm a b) Q E s := by
  obtain ⟨oa, ea, pa, ga, _, da, la, ka⟩ := ma
  obtain ⟨ob, eb, pb, gb, _, db, lb, kb⟩ := mb
  have za : ea.size = xs.length := ent_size la
  have zb : eb.size = ys.length := ent_size lb
  unfold Builtin.Dict.samePairs Builtin.Dict.showsAll
  rw [if_neg (by rw [ha]; exact Bool.false_ne_true), if_neg (by rw [hb]; exact Bool.false_ne_true)]
  refine wpAny_bind (wpAny_pure (wpAny_bind (wpAny_pure (wpAny_bind (wpAny_dictEntries ga da ?_)))))
  dsimp only
  refine wpAny_bind (wpAny_dictEntries gb db ?_)
  rw [if_neg (by rw [za, zb, len]; simp)]
  refine wpAny_bind (wpAny_dictEpoch ga da (wpAny_bind ?_))
  rw [Std.Legacy.Range.forIn_eq_forIn_range']
  simp only [Std.Legacy.Range.size, Nat.sub_zero, Nat.add_sub_cancel, Nat.div_one]
  refine wpAny_forIn_list _ (fun rest r s' => s' = s ∧ r = (none, ()) ∧ ∃ i, rest = List.range' i (ea.size - i) ∧ i ≤ ea.size) _ ?_ ?_ _ _ ⟨rfl, rfl, 0, by simp, Nat.zero_le _⟩
  · rintro x rest r s' ⟨rfl, rfl, i, hr, hi⟩
    have lt : i < ea.size := by
      rcases Nat.lt_or_ge i ea.size with h | h
      · exact h
      · rw [Nat.sub_eq_zero_of_le h] at hr; simp at hr
    have e1 : ea.size - i = (ea.size - (i + 1)) + 1 := by omega
    rw [e1, List.range'_succ] at hr
    injection hr with h1 h2
    subst h1
    have lt2 : x < xs.length := by omega
    have hx : xs[x]? = some xs[x] := List.getElem?_eq_getElem lt2
    have ee : ea[x]? = some (ent w xs[x]) := by rw [ent_at la, hx]; rfl
    obtain ⟨y, my, ky, eq⟩ := eqs _ (List.getElem_mem lt2)
    obtain ⟨j, hj⟩ := List.mem_iff_getElem?.mp my
    refine wpAny_bind (wpAny_dictEntries ga da ?_)
    rw [ee]
    dsimp only
    have kx := ka.at hx
    refine wpAny_bind (wpAny_holding (wpAny_bind (find hu gb db lb kb kx.1 kx.2 (fun no => absurd ky (no j y hj)) (fun m z hz kz => ?_))))
    obtain rfl : m = j := kb.same hz hj (kz.trans ky.symm)
    obtain rfl : z = y := Option.some.inj (hz.symm.trans hj)
    dsimp only
    refine wpAny_bind (wpAny_dictEntries gb db ?_)
    rw [show eb[m]? = some (ent w z) by rw [ent_at lb, hj]; rfl]
    dsimp only
    refine wpAny_holding (eq _ _ ?_)
    rw [if_neg (by decide)]
    refine wpAny_bind (wpAny_dictEpoch ga da ?_)
    rw [if_neg (by simp)]
    exact wpAny_pure ⟨rfl, rfl, x + 1, h2, lt⟩
  · rintro r s' ⟨rfl, rfl, _⟩
    exact wpAny_pure q
theorem rc_md (hu : A.units + 16 < cLine) (ha : (a == sysModules) = false) (hb : (b == sysModules) = false) (ma : At w s.heap a xs) (mb : At w s.heap b ys) (len : xs.length = ys.length)
    (eqs : ∀ x ∈ xs, ∃ y ∈ ys, y.1 = x.1 ∧ EqIn prog w A.in1 s x.2.2 y.2.2 true) {Q : Value → Shared → Prop} (q : Q (.bool true) s) : wpAny (model prog w) A (richCompare .Eq (.ref a) (.ref b)) Q E s := by
  refine wpAny_richCompare_same_room (op := .Eq) ma.typeIs mb.typeIs PySem.F.slot_dict_eq (wpAny_call_entry PySem.F.slot_dict_eq ma.typeIs PySem.F.entry_dict_eq ?_ (PySem.F.args_dict_eq_2 _ _)) (by omega)
  show wpAny _ _ (Builtin.Dict.dictSlotArgs "__eq__" ⟨[.ref a, .ref b], []⟩ >>= _) _ _ s
  refine wpAny_bind ?_
  unfold Builtin.Dict.dictSlotArgs
  refine wpAny_bind (wpAny_notOrdered_dict ma.typeIs (wpAny_pure (wpAny_bind (wpAny_isInstance (T := "dict") mb.typeIs PySem.F.sub_dict_dict ?_))))
  simp only [Bool.not_true, Bool.false_eq_true, if_false]
  refine wpAny_bind (wpAny_pure (wpAny_bind (wpAny_pure (wpAny_bind (pairs_md (by show A.units + 1 + 8 < cLine; omega) ha hb ma mb len eqs (wpAny_pure ⟨_, rfl, (fun x => nomatch x), q⟩))))))
end
end MD
namespace MD
open PySem PySem.Spec PyProof.Rows L2
open PySem.SeqAt (EqIn rcIn_tuples)
/-- equal and of nesting below n -/
def EqM (K : PySem.W.Frag) (w : World) (H : Hp) : Nat → V → V → Prop
  | 0 => fun _ _ => False
  | n + 1 => fun x y => (x = y ∧ flatB x = true) ∨ (∃ a, x = .ref a ∧ y = .ref a) ∨
    (∃ a b xs ys, x = .ref a ∧ y = .ref b ∧ SqT K H a xs ∧ SqT K H b ys ∧ Paired (EqM K w H n) xs ys) ∨
    ∃ a b ks ls, x = .ref a ∧ y = .ref b ∧ H a = some (dM w a ks) ∧ H b = some (dM w b ls) ∧ KeysV K H ks ∧ KeysV K H ls ∧ ks.length = ls.length ∧ ∀ p ∈ ks, ∃ r ∈ ls, r.1 = p.1 ∧ EqM K w H n p.2.2 r.2.2
theorem pairedAt {α β : Type} {R : α → β → Prop} : ∀ {xs : List α} {ys : List β} {us ws : List Value} {S : α → Value → Prop} {T : β → Value → Prop}, Paired R xs ys → Paired S xs us → Paired T ys ws → ∀ j (h1 : j < us.length) (h2 : j < ws.length), ∃ x y, R x y ∧ S x us[j] ∧ T y ws[j]
  | _, _, _, _, _, _, .nil, .nil, .nil, j, h1, _ => absurd h1 (Nat.not_lt_zero j)
  | _, _, _, _, _, _, .cons h t, .cons s1 s2, .cons t1 t2, 0, _, _ => ⟨_, _, h, s1, t1⟩
  | _, _, _, _, _, _, .cons h t, .cons s1 s2, .cons t1 t2, j + 1, h1, h2 => pairedAt t s2 t2 j (Nat.lt_of_succ_lt_succ h1) (Nat.lt_of_succ_lt_succ h2)
theorem prs_mem {kvs : List Row} {xs : List (NK × Value × Value)} {q : NK × Value × Value} (r : Prs kvs xs) (m : q ∈ xs) : ∃ p ∈ kvs, p.1 = q.1 ∧ RelV p.2.1 q.2.1 ∧ RelV p.2.2 q.2.2 := by
  obtain ⟨i, hi⟩ := List.mem_iff_getElem?.mp m
  obtain ⟨p, hp, z⟩ := paired_get r hi
  exact ⟨p, List.mem_of_getElem? hp, z⟩
theorem prs_mem2 {kvs : List Row} {xs : List (NK × Value × Value)} {p : Row} (r : Prs kvs xs) (m : p ∈ kvs) : ∃ q ∈ xs, p.1 = q.1 ∧ RelV p.2.1 q.2.1 ∧ RelV p.2.2 q.2.2 := by
  obtain ⟨i, hi⟩ := List.mem_iff_getElem?.mp m
  obtain ⟨q, hq, z⟩ := prs_get r hi
  exact ⟨q, List.mem_of_getElem? hq, z⟩
section
variable {X : Cx} {pins : List (Addr × Obj)} {σ : L2.St} {H : Hp} {s : Shared}
theorem eqM_step (I : Inv X pins σ H s) {A : Around} {F : V → V → Prop} (hu : A.units + 16 < cLine) (ih : ∀ x y v u, F x y → RelV x v → RelV y u → EqIn X.prog X.w A.in1 s v u true) {a b : Addr}
    (h : (∃ xs ys, SqT X.K H a xs ∧ SqT X.K H b ys ∧ Paired F xs ys) ∨ ∃ ks ls, H a = some (dM X.w a ks) ∧ H b = some (dM X.w b ls) ∧ KeysV X.K H ks ∧ KeysV X.K H ls ∧ ks.length = ls.length ∧ ∀ p ∈ ks, ∃ r ∈ ls, r.1 = p.1 ∧ F p.2.2 r.2.2)
    (E Q : Value → Shared → Prop) (q : Q (.bool true) s) : wpAny (model X.prog X.w) A (richCompare .Eq (.ref a) (.ref b)) Q E s := by
  rcases h with ⟨xs, ys, ha, hb, hp⟩ | ⟨ks, ls, ha, hb, k1, k2, len, hp⟩
  · obtain ⟨us, r1, p1, _⟩ := I.tuple ha
    obtain ⟨ws, r2, p2, _⟩ := I.tuple hb
    have ll := MD.paired_len hp
    have l1 := MD.paired_len r1
    have l2 := MD.paired_len r2
    refine rcIn_tuples (e := fun _ => true) p1 p2 (by omega) (fun j h1 h2 => ?_) ?_
    · rw [List.size_toArray] at h1 h2
      obtain ⟨x, y, z1, z2, z3⟩ := pairedAt hp r1 r2 j h1 h2
      have k := ih x y _ _ z1 z2 z3
      simpa using k
    · rw [show ((List.range (min us.toArray.size ws.toArray.size)).all fun _ => true) = true from List.all_eq_true.mpr fun _ _ => rfl, List.size_toArray, List.size_toArray, show (us.length == ws.length) = true by simp; omega]
      exact q
  · obtain ⟨_, sa, xs, rx, mx⟩ := atM I ha k1
    obtain ⟨_, sb, ys, ry, my⟩ := atM I hb k2
    refine rc_md hu sa sb mx my (by rw [← prs_len rx, ← prs_len ry]; exact len) (fun x hx => ?_) q
    obtain ⟨p, hp1, e1, _, r1⟩ := prs_mem rx hx
    obtain ⟨r, hr1, e2, f⟩ := hp p hp1
    obtain ⟨y, hy1, e3, _, r2⟩ := prs_mem2 ry hr1
    exact ⟨y, hy1, by rw [← e3, e2, e1], ih _ _ _ _ f r1 r2⟩
theorem eqM_run (I : Inv X pins σ H s) : ∀ (n : Nat) (A : Around), A.units + n + 16 < cLine → ∀ (x y : V) (v u : Value), EqM X.K X.w H n x y → RelV x v → RelV y u → EqIn X.prog X.w A s v u true
  | 0, _, _, _, _, _, _, h, _, _ => (show False from h).elim
  | n + 1, A, hu, x, y, v, u, h, rx, ry => by
    rcases h with ⟨rfl, f⟩ | ⟨a, rfl, rfl⟩ | ⟨a, b, xs, ys, rfl, rfl, h⟩ | ⟨a, b, ks, ls, rfl, rfl, h⟩
    · exact (eqAt_same rx ry f).inModel _ _
    · cases (show v = Value.ref a from rx)
      cases (show u = Value.ref a from ry)
      exact (SeqAt.EqAt.same _).inModel _ _
    · cases (show v = Value.ref a from rx)
      cases (show u = Value.ref b from ry)
      by_cases e : a = b
      · subst e
        exact (SeqAt.EqAt.same _).inModel _ _
      · exact SeqAt.EqIn.of_refs e fun E Q q => eqM_step I (A := A) (by omega) (eqM_run I n A.in1 (by show A.units + 1 + n + 16 < cLine; omega)) (.inl ⟨xs, ys, h⟩) E Q q
    · cases (show v = Value.ref a from rx)
      cases (show u = Value.ref b from ry)
      by_cases e : a = b
      · subst e
        exact (SeqAt.EqAt.same _).inModel _ _
      · exact SeqAt.EqIn.of_refs e fun E Q q => eqM_step I (A := A) (by omega) (eqM_run I n A.in1 (by show A.units + 1 + n + 16 < cLine; omega)) (.inr ⟨ks, ls, h⟩) E Q q
/-- a == b, tuples whose items are equal so -/
def rEqM (K : PySem.W.Frag) (w : World) : R2 := fun x y H Q => ∃ (n : Nat) (a b : Addr) (xs ys : List V), n ≤ 20 ∧ x = .ref a ∧ y = .ref b ∧ SqT K H a xs ∧ SqT K H b ys ∧ Paired (EqM K w H n) xs ys ∧ Q (.bl true) H
theorem op_eqM {X : Cx} (hu : X.A.units + 64 < cLine) : OpR X (compareOp .Eq) (rEqM X.K X.w) := by
  intro pins s σ H x y v u Q I rx ry h
  obtain ⟨n, a, b, xs, ys, hn, rfl, rfl, ha, hb, hp, q⟩ := h
  cases (show v = Value.ref a from rx)
  cases (show u = Value.ref b from ry)
  exact eqM_step I (A := X.A) (by omega) (eqM_run I n X.A.in1 (by show X.A.units + 1 + n + 16 < cLine; omega)) (.inl ⟨xs, ys, ha, hb, hp⟩) _ _ ⟨.bl true, H, I, rfl, q⟩
end
end MD
end
/-! ### EQ -/
section
set_option Elab.async false
set_option linter.all false
set_option maxRecDepth 100000
set_option maxHeartbeats 4000000
/-! == and != of an instance whose class has an __eq__ of its own and no __ne__, with any value. -/
namespace OE
open PySem PySem.Spec PyProof.Rows L2
section
variable {M : Model} {prog : Program} {w : World} {A : Around} {E : Value → Shared → Prop} {s : Shared} {K : PySem.W.Frag} {x C f : Addr} {ox : Obj} {od : Option Obj} {b tb : Value}
theorem ifBound_objNe {args : List Value} {Q : Option Value → Shared → Prop} (X : K.In s.heap) (I : PySem.W.InstAt s.heap x ox C od) (hs : PySem.W.findIn K (.ref C) "__ne__" = some (some (.builtin "object.__ne__")))
    (h : wpAny M A (call (.builtin "object.__ne__") (.ref x :: args)) (fun v => Q (some v)) E s) : wpAny M A (callSpecialIfBound? (.ref x) "__ne__" args) Q E s := by
  simp only [callSpecialIfBound?, bindSpecialIfBound?]
  refine wpAny_holding (wpAny_bind (wpAny_bind (wpAny_bind (I.type.here ((PySem.W.looks_findIn X hs).here ?_)))))
  refine wpAny_bind (wpAny_askSetting (wpAny_ite ?_))
  have fin : wpAny M A (call (.builtin "object.__ne__") ([.ref x] ++ args) >>= fun v => pure (some v)) Q E s := wpAny_bind (wpAny_mono h (fun v s' h' => wpAny_pure h') fun _ _ h' => h')
  split
  · exact wpAny_bind (wpAny_of_eq (F.cmp_object.ne.bind _) (wpAny_pure (by exact fin)))
  · exact wpAny_tryCatch (wpAny_bind (wpAny_of_eq (F.cmp_object.ne.bind _) (wpAny_pure (by exact fin))))
theorem entry_ne {Q : Fin → Shared → Prop} (hu : A.units < cLine) (X : K.In s.heap) (I : PySem.W.InstAt s.heap x ox C od) (he : PySem.W.findIn K (.ref C) "__eq__" = some (some (.ref f))) (hf : PySem.W.isFn K (.ref f) = true)
    (h : wpAny (model prog w) A (call (.ref f) [.ref x, b]) (fun v s' => ∃ c, v = .bool c ∧ Q (.done (.ret (.bool (!c)))) s') E s) : wpAny (model prog w) A (Builtin.«object.__ne__» ⟨[.ref x, b], []⟩) Q E s := by
  unfold Builtin.«object.__ne__»
  show wpAny _ _ (cRoomFor "comparison" [.ref x, b] >>= _) _ _ _
  refine wpAny_bind (wpAny_cRoomFor hu (wpAny_bind (PySem.W.ifBound_K X I he hf (wpAny_mono h (fun v s' z => ?_) fun _ _ e => e))))
  obtain ⟨c, rfl, q⟩ := z
  exact wpAny_bind (wpAny_truthy_bool (wpAny_pure q))
theorem ne_K {Q : Value → Shared → Prop} (hu : A.units + 1 < cLine) (X : K.In s.heap) (I : PySem.W.InstAt s.heap x ox C od) (hb : PySem.W.Looks (model prog w) s.heap (typeOf b) tb) (hn : PySem.W.notFirst K C tb = true)
    (hs : PySem.W.findIn K (.ref C) "__ne__" = some (some (.builtin "object.__ne__"))) (he : PySem.W.findIn K (.ref C) "__eq__" = some (some (.ref f))) (hf : PySem.W.isFn K (.ref f) = true) (hm : PySem.W.mroIn K C (.type "object") = some true)
    (h : wpAny (model prog w) A.in1 (call (.ref f) [.ref x, b]) (fun v s' => ∃ c, v = .bool c ∧ Q (.bool (!c)) s') E s) : wpAny (model prog w) A (richCompare .NotEq (.ref x) b) Q E s := by
  have one : wpAny (model prog w) A (tryCompare (.ref x) "__ne__" b) (fun r s' => ∃ v, r = some v ∧ Q v s') E s := by
    unfold tryCompare
    refine wpAny_bind (ifBound_objNe X I hs (wpAny_call (codeAny_call_builtin F.cmp_object.ne.plain F.cmpEntry_ne (PySem.W.check_slot F.cmpKind_ne F.cmpSplit_ne (I.type.andThen (PySem.W.looks_mroIn X hm)) (F.cmpArgs_ne _ _)
      (entry_ne (A := A.in1) hu X I he hf (wpAny_mono h (fun v s' z => ?_) fun _ _ e => e))))))
    obtain ⟨c, rfl, q⟩ := z
    exact ⟨c, rfl, wpAny_pure ⟨_, rfl, q⟩⟩
  unfold richCompare
  simp only [oneThing_ref, cmpInfo_NotEq]
  refine wpAny_holding (wpAny_bind (wpAny_cRoomFor (Nat.lt_of_succ_lt hu) ?_))
  refine wpAny_bind (I.type.here (wpAny_bind (hb.here ?_)))
  split
  · rename_i q
    have e : PySem.W.subIn K tb (.ref C) = some false := by
      rcases Bool.or_eq_true_iff.mp hn with e | e
      · rw [beq_iff_eq.mp e] at q; simp at q
      · exact beq_iff_eq.mp e
    refine wpAny_bind ((PySem.W.looks_subIn X e).here ?_)
    simp only [Bool.false_eq_true, if_false]
    refine wpAny_bind (wpAny_mono one (fun r s' z => ?_) fun _ _ e => e)
    obtain ⟨v, rfl, hq⟩ := z
    exact wpAny_pure hq
  · refine wpAny_bind (wpAny_pure ?_)
    simp only [Bool.false_eq_true, if_false]
    refine wpAny_bind (wpAny_mono one (fun r s' z => ?_) fun _ _ e => e)
    obtain ⟨v, rfl, hq⟩ := z
    exact wpAny_pure hq
end
/-- x == y, x != y: x an instance of the class at C, whose __eq__ gives a bool -/
def rOE (K : PySem.W.Frag) (C : Addr) (sp : Sp) (E : XK) (neg : Bool) : R2 := fun x y H Q => ∃ (a dx : Addr) (fs : List (Str × V)) (t : Value), x = .ref a ∧ H a = some (.ins C dx fs) ∧ TyX K H y t ∧ PySem.W.notFirst K C t = true ∧
  sp [x, y] H (fun v H' => ∃ c, v = .bl c ∧ Q (.bl (if neg then !c else c)) H') E
structure OEq (K : PySem.W.Frag) (C g : Addr) : Prop where
  eq : PySem.W.findIn K (.ref C) "__eq__" = some (some (.ref g))
  fn : PySem.W.isFn K (.ref g) = true
  ne : PySem.W.findIn K (.ref C) "__ne__" = some (some (.builtin "object.__ne__"))
  ob : PySem.W.mroIn K C (.type "object") = some true
section
variable {X : Cx} {CX : CXT} {n : Nat} {C g : Addr} {sp : Sp} {E : XK}
theorem op_oeq (T : OEq X.K C g) (F : FnR X.prog X.w X.K X.mg X.base CX n g sp) (hr : Room n X.A) (hx : Passes CX X E) : OpR X (compareOp .Eq) (rOE X.K C sp E false) := by
  intro pins s σ H x y v u Q I rx ry h
  obtain ⟨a, dx, fs, t, rfl, ha, hy, hn, q⟩ := h
  cases (show v = Value.ref a from rx)
  obtain ⟨mA, O, _⟩ := ins_get I.hok ha
  obtain ⟨od, J, _⟩ := O.look
  obtain ⟨Pk, kt, hp, _⟩ := kit_of I ry hy
  obtain ⟨m, hF⟩ := I.fr
  show wpAny (model X.prog X.w) X.A (richCompare .Eq (.ref a) u) (EP X pins σ Q) X.xe s
  refine PySem.W.cmp_K (op := .Eq) (tb := t) hr.units0 hF I.ok.mod.kin J (kt.ty _ _ I.kIn hp) hn T.eq T.fn ?_
  refine wpAny_mono (wpAny_call (run_fnR (us := [.ref a, u]) (vs := [.ref a, y]) F hr hx I (.cons rfl (.cons ry .nil)) q)) (fun w' s' z => ?_) fun _ _ x => x
  obtain ⟨z', H', I', rz, c, rfl, qz⟩ := z
  exact SlX.cmpback rz ⟨.bl c, H', I', rz, qz⟩
theorem op_one (T : OEq X.K C g) (F : FnR X.prog X.w X.K X.mg X.base CX n g sp) (hr : Room (n + 1) X.A) (hx : Passes CX X E) : OpR X (compareOp .NotEq) (rOE X.K C sp E true) := by
  intro pins s σ H x y v u Q I rx ry h
  obtain ⟨a, dx, fs, t, rfl, ha, hy, hn, q⟩ := h
  cases (show v = Value.ref a from rx)
  obtain ⟨mA, O, _⟩ := ins_get I.hok ha
  obtain ⟨od, J, _⟩ := O.look
  obtain ⟨Pk, kt, hp, _⟩ := kit_of I ry hy
  show wpAny (model X.prog X.w) X.A (richCompare .NotEq (.ref a) u) (EP X pins σ Q) X.xe s
  refine ne_K (by have := hr.units; omega) I.kIn J (kt.ty _ _ I.kIn hp) hn T.ne T.eq T.fn T.ob ?_
  refine wpAny_mono (wpAny_call (codeAny_mono (F X.A.in1 X.stack s H [.ref a, u] [.ref a, y] _ E hr.in1 I.env0.in1 (.cons rfl (.cons ry .nil)) q) fun r s' hq => ?_)) (fun w' s' z => z) fun _ _ x => x
  cases r with
  | error e => exact hx pins σ H s e s' I hq
  | ok fl =>
    cases fl with
    | ret u2 =>
      obtain ⟨v2, H', I2, rv, c, rfl, qz⟩ := I.after hq
      cases (show u2 = Value.bool c from rv)
      exact ⟨c, rfl, .bl (!c), H', I2, rfl, qz⟩
    | next => exact False.elim hq
    | brk => exact False.elim hq
    | cont => exact False.elim hq
end
end OE
end
/-! ### LS -/
section
set_option Elab.async false
set_option linter.all false
set_option maxRecDepth 100000
set_option maxHeartbeats 4000000
/-! len(x), str(x) of an instance whose class has a __len__, a __str__ of its own. -/
namespace OE
open PySem PySem.Spec PyProof.Rows L2 PySem.Builtin
section
variable {prog : Program} {w : World} {A : Around} {E : Value → Shared → Prop} {s : Shared} {K : PySem.W.Frag} {x C f : Addr} {ox : Obj} {od : Option Obj}
theorem len_K {Q : Value → Shared → Prop} (X : K.In s.heap) (I : PySem.W.InstAt s.heap x ox C od) (hs : PySem.W.findIn K (.ref C) "__len__" = some (some (.ref f))) (hf : PySem.W.isFn K (.ref f) = true)
    (hcall : wpAny (model prog w) A.in1 (call (.ref f) [.ref x]) (fun r s' => ∃ n u, r = .int n u ∧ 0 ≤ n ∧ n < 2 ^ 63 ∧ Q (.int n s'.toks) { s' with toks := s'.toks + 1 }) E s) :
    wpAny (model prog w) A (call (.builtin "len") [.ref x]) Q E s := by
  refine Calls.call_function_entry kind_len plain_len entry_len (args_len1 _) ?_
  unfold Builtin.«len»
  refine wpAny_bind (m := oneArg "len" _) (wpAny_pure ?_)
  refine wpAny_bind (m := callSpecial? (.ref x) (Str.ofString "__len__")) (PySem.W.special_fn X I hs (beq_iff_eq.mp hf) (wpAny_mono hcall (fun r s' hr => ?_) fun _ _ y => y))
  obtain ⟨n, u, rfl, h0, h1, hq⟩ := hr
  refine wpAny_bind (wpAny_holding (wpAny_pure ?_))
  refine wpAny_bind (wpAny_letGo ?_)
  show wpAny _ _ (if n < 0 then _ else _) _ _ _
  rw [if_neg (by omega)]
  show wpAny _ _ (if n ≥ 2 ^ 63 then _ else _) _ _ _
  rw [if_neg (by omega)]
  exact wpAny_bind (wpAny_mkInt (wpAny_pure ⟨_, rfl, hq⟩))
theorem str_K {Q : Value → Shared → Prop} (hu : A.in1.in1.units < cLine) (X : K.In s.heap) (I : PySem.W.InstAt s.heap x ox C od) (hs : PySem.W.findIn K (.ref C) "__str__" = some (some (.ref f))) (hf : PySem.W.isFn K (.ref f) = true)
    (h : wpAny (model prog w) A.in1.in1 (call (.ref f) [.ref x]) (fun r s' => ∃ y u, r = .str y u ∧ Q r s') E s) : wpAny (model prog w) A (call (.type "str") [.ref x]) Q E s := by
  refine callType_codes (T := "str") (Bi := Builtin.«object.__init__») (Q₁ := fun r s₁ => ∃ y u, r = .str y u ∧ Q r s₁) PySem.F.called_str (PySem.F.typeCall_str_1 _) PySem.F.entry_object_init ?_ ?_
  · refine codeAny_of_tree ?_
    show wpAny _ A.in1.in1 (do checkBuiltinCall "str.__new__" ⟨[.type "str", .ref x], []⟩; again (.builtin "str.__new__" ⟨[.type "str", .ref x], []⟩)) _ _ s
    refine wpAny_bind (wpAny_of_eq (PySem.F.newCall_str_1 _) (wpAny_pure ⟨plainId_quiet (by decide +kernel) _, codeAny_builtin PySem.F.entry_str_new ?_⟩))
    rw [Around.under_plainId (by decide +kernel) _]
    rw [str_new_tree]
    refine wpAny_bind (wpAny_pure ?_)
    refine wpAny_bind (wpAny_of_eq isSubtype_str_str ?_)
    have key : wpAny (model prog w) A.in1.in1 (PySem.Builtin.Str.strOf (.ref x)) (fun r s₁ => ∃ y u, r = .str y u ∧ Q r s₁) E s := by
      unfold PySem.Builtin.Str.strOf
      rw [show PySem.Builtin.Str.isExactStr (.ref x) = false from rfl]
      refine wpAny_bind (m := cRoomFor _ _) (wpAny_cRoomFor hu ?_)
      refine wpAny_bind (m := callSpecial? (.ref x) (Str.ofString "__str__")) (PySem.W.special_fn X I hs (beq_iff_eq.mp hf) (wpAny_mono h (fun r s' z => ?_) fun _ _ y => y))
      obtain ⟨y, u, rfl, z⟩ := z
      exact wpAny_pure ⟨_, _, rfl, z⟩
    exact wpAny_bind (wpAny_mono key (fun r s₁ hr => wpAny_pure hr) fun _ _ y => y)
  · rintro obj s₁ ⟨y, u, rfl, hq⟩
    exact ⟨typeIs_str _ _ _, PySem.F.args_object_init_2 _ _, object_init_meets PySem.F.called_str.init.lookup PySem.F.called_str.made (by decide) prog w A.in1 _ s₁ ⟨typeIs_str _ _ _, rfl, hq⟩⟩
end
def rLenO (C : Addr) (sp : Sp) (E : XK) : List V → Hp → VK → Prop := fun xs H Q => ∃ (a dx : Addr) (fs : List (Str × V)), xs = [.ref a] ∧ H a = some (.ins C dx fs) ∧ sp [.ref a] H (fun v H' => ∃ n : Int, v = .int n ∧ 0 ≤ n ∧ n < 2 ^ 63 ∧ Q (.int n) H') E
def rStrO (C : Addr) (sp : Sp) (E : XK) : List V → Hp → VK → Prop := fun xs H Q => ∃ (a dx : Addr) (fs : List (Str × V)), xs = [.ref a] ∧ H a = some (.ins C dx fs) ∧ sp [.ref a] H (fun v H' => ∃ z : Str, v = .str z ∧ Q (.str z) H') E
section
variable {X : Cx} {CX : CXT} {n : Nat} {C g : Addr} {sp : Sp} {E : XK}
theorem call_lenO (hs : PySem.W.findIn X.K (.ref C) "__len__" = some (some (.ref g))) (hf : PySem.W.isFn X.K (.ref g) = true) (F : FnR X.prog X.w X.K X.mg X.base CX n g sp) (hr : Room (n + 2) X.A) (hx : Passes CX X E) : CallR X (.builtin "len") (rLenO C sp E) := by
  intro pins s σ H xs us Q I r h
  obtain ⟨a, dx, fs, rfl, ha, q⟩ := h
  obtain ⟨u, rfl, ru⟩ := r.one
  cases (show u = Value.ref a from ru)
  obtain ⟨mA, O, _⟩ := ins_get I.hok ha
  obtain ⟨od, J, _⟩ := O.look
  refine len_K I.kIn J hs hf (wpAny_mono (wpAny_call (SlX.run_at (us := [.ref a]) (ws := [.ref a]) F (hr.in1.mono (Nat.le_succ _)) I.env0.in1 hx I (.cons rfl .nil) q)) (fun w' s' z => ?_) fun _ _ x => x)
  obtain ⟨z', H', I', rz, i, ei, h0, h1, qz⟩ := z
  subst ei
  obtain ⟨t, e⟩ := (show ∃ t, w' = Value.int i t from rz)
  cases e
  exact ⟨i, t, rfl, h0, h1, .int i, H', I'.tok _, ⟨_, rfl⟩, qz⟩
theorem call_strO (hs : PySem.W.findIn X.K (.ref C) "__str__" = some (some (.ref g))) (hf : PySem.W.isFn X.K (.ref g) = true) (F : FnR X.prog X.w X.K X.mg X.base CX n g sp) (hr : Room (n + 2) X.A) (hx : Passes CX X E) : CallR X (.type "str") (rStrO C sp E) := by
  intro pins s σ H xs us Q I r h
  obtain ⟨a, dx, fs, rfl, ha, q⟩ := h
  obtain ⟨u, rfl, ru⟩ := r.one
  cases (show u = Value.ref a from ru)
  obtain ⟨mA, O, _⟩ := ins_get I.hok ha
  obtain ⟨od, J, _⟩ := O.look
  have hr2 : Room n X.A.in1.in1 := (show Room (n + 1) X.A.in1 from Room.in1 hr).in1
  refine str_K hr2.units0 I.kIn J hs hf (wpAny_mono (wpAny_call (SlX.run_at (us := [.ref a]) (ws := [.ref a]) F hr2 I.env0.in1.in1 hx I (.cons rfl .nil) q)) (fun w' s' z => ?_) fun _ _ x => x)
  obtain ⟨z', H', I', rz, i, ei, qz⟩ := z
  subst ei
  obtain ⟨t, e⟩ := (show ∃ t, w' = Value.str i t from rz)
  cases e
  exact ⟨i, t, rfl, .str i, H', I', ⟨t, rfl⟩, qz⟩
end
end OE
end
/-! ### CM -/
section
set_option Elab.async false
set_option linter.all false
set_option maxRecDepth 100000
set_option maxHeartbeats 4000000
/-! Cleaner: firsts, len, ==. -/
namespace K0
open PySem PySem.Spec PyProof.Rows L2 LamX OE
open MD (dM KeysV KeyV EqM op_eqM)
def CleanerAt (K : PySem.W.Frag) (w : World) (C : Addr) (H : Hp) (x : Addr) (ws ls : List StD) (fv : V) : Prop := ∃ dx tw tl to, H x = some (insC C dx tw tl to fv) ∧ KeptAt K w H tw ws ∧ KeptAt K w H tl ls
theorem CleanerAt.same {K : PySem.W.Frag} {w : World} {C x : Addr} {H H' : Hp} {ws ls : List StD} {fv : V} (h : CleanerAt K w C H x ws ls fv) (e : Same H H') : CleanerAt K w C H' x ws ls fv := by
  obtain ⟨dx, tw, tl, to, h1, h2, h3⟩ := h
  exact ⟨dx, tw, tl, to, e _ _ h1, h2.same e, h3.same e⟩
theorem CleanerAt.ext {K : PySem.W.Frag} {w : World} {C x : Addr} {H H' : Hp} {ws ls : List StD} {fv : V} (h : CleanerAt K w C H x ws ls fv) (e : ExtN H H') : CleanerAt K w C H' x ws ls fv := by
  obtain ⟨dx, tw, tl, to, h1, h2, h3⟩ := h
  exact ⟨dx, tw, tl, to, e _ _ h1 (fun _ z => by cases z), h2.dat.same (dat_ext e), h3.dat.same (dat_ext e)⟩
/-- more of what the written part says of Cleaner -/
structure ClM (K : PySem.W.Frag) (C : Addr) : Prop where
  ca : PySem.W.findIn K (.ref C) "__class__" = some (some (.builtin "object.__class__"))
  cg : PySem.W.specialIn K (.builtin "object.__class__") "__get__" = some (some (.builtin "getset_descriptor.__get__"))
  ct : PySem.W.takesIn K (.builtin "object.__class__") = some true
  ob : PySem.W.mroIn K C (.type "object") = some true
  me : PySem.W.kitOne K (.ref C) (.ref C) = some true
  kp : PySem.W.keepIn K (.ref C) = true
theorem CleanerAt.ty {K : PySem.W.Frag} {w : World} {C x : Addr} {H : Hp} {ws ls : List StD} {fv : V} (T : ClK K C) (M : ClM K C) (h : CleanerAt K w C H x ws ls fv) : TyX K H (.ref x) (.ref C) := by
  obtain ⟨dx, tw, tl, to, h1, _⟩ := h
  exact .base (.ins h1 T.cl M.ca M.cg M.ct M.ob)
/-- its own like -/
def Sf (v : V) : Prop := flatB v = true ∨ ∃ a, v = .ref a
def selfS : StD → Prop
  | .bad => False
  | .good rs ys _ => (∀ y ∈ ys, Sf y) ∧ ∀ r ∈ rs, Sf r.1.2.2
theorem dv_sf {K : PySem.W.Frag} {H : Hp} {v : V} {d : PyData} (h : Dv K H v d) : Sf v := by
  cases h <;> first | exact .inl rfl | exact .inr ⟨_, rfl⟩
theorem dvAll_sf {K : PySem.W.Frag} {H : Hp} : ∀ {vs : List V} {ds : List PyData}, DvAll K H vs ds → ∀ y ∈ vs, Sf y
  | _, _, .nil, y, h => nomatch h
  | _, _, .cons (v := v) h t, y, m => by
    rcases List.mem_cons.mp m with e | m
    · rw [e]; exact dv_sf h
    · exact dvAll_sf t y m
theorem stx_self {K : PySem.W.Frag} {w : World} {H : Hp} {n : Nat} {v : V} : ∀ {d : StD}, StX K w H n v d → goodS d → selfS d
  | .bad, _, g => g
  | .good rs ys ds, h, _ => by
    obtain ⟨a, m, rfl, h1, h2, h3, h4, h5, h6⟩ := h
    exact ⟨dvAll_sf h2, fun r hr => dv_sf (h5.dat r hr).2⟩
theorem whx_self {K : PySem.W.Frag} {w : World} {H : Hp} {n : Nat} {v : V} {ss : List StD} (h : WhX K w H n v (.sts ss)) (g : ∀ s ∈ ss, goodS s) : ∀ s ∈ ss, selfS s := by
  obtain ⟨a, xs, rfl, h1, h2, h3⟩ := h
  intro s hs
  obtain ⟨i, hi⟩ := List.mem_iff_getElem?.mp hs
  obtain ⟨x, hx, st⟩ := MD.paired_get h2 hi
  exact stx_self st (g s hs)
theorem eqm_sf {K : PySem.W.Frag} {w : World} {H : Hp} {n : Nat} {v : V} (h : Sf v) : EqM K w H (n + 1) v v := h.elim (fun z => .inl ⟨rfl, z⟩) fun ⟨a, z⟩ => .inr (.inl ⟨a, z, z⟩)
theorem eqm_all {K : PySem.W.Frag} {w : World} {H : Hp} {n : Nat} : ∀ {vs : List V}, (∀ y ∈ vs, Sf y) → Paired (EqM K w H (n + 1)) vs vs
  | [], _ => .nil
  | v :: vs, h => .cons (eqm_sf (h v List.mem_cons_self)) (eqm_all fun y m => h y (List.mem_cons_of_mem _ m))
theorem kept_eq {K : PySem.W.Frag} {w : World} {H : Hp} {T1 T2 : Addr} : ∀ {s : StD}, KeptRow K w H T1 s → KeptRow K w H T2 s → selfS s → EqM K w H 3 (.ref T1) (.ref T2)
  | .bad, h, _, _ => h.elim
  | .good rs ys ds, h, g, f => by
    obtain ⟨d1, r1, a1, a2, a3, a4⟩ := h
    obtain ⟨d2, r2, b1, b2, b3, b4⟩ := g
    refine .inr (.inr (.inl ⟨T1, T2, _, _, rfl, rfl, a1, b1, .cons ?_ (eqm_all f.1)⟩))
    refine .inr (.inr (.inr ⟨d1, d2, r1, r2, rfl, rfl, a2, b2, a4, b4, a3.length_eq.trans b3.length_eq.symm, fun p hp => ?_⟩))
    have mp := a3.mem_iff.mp hp
    obtain ⟨r, hr, rfl⟩ := List.mem_map.mp mp
    exact ⟨r.1, b3.mem_iff.mpr mp, rfl, eqm_sf (f.2 r hr)⟩
theorem kepts_eq {K : PySem.W.Frag} {w : World} {H : Hp} : ∀ {Ts Us : List Addr} {ss : List StD}, Paired (KeptRow K w H) Ts ss → Paired (KeptRow K w H) Us ss → (∀ s ∈ ss, selfS s) → Paired (EqM K w H 3) (Ts.map V.ref) (Us.map V.ref)
  | _, _, _, .nil, .nil, _ => .nil
  | _, _, _, .cons h t, .cons g u, f => .cons (kept_eq h g (f _ List.mem_cons_self)) (kepts_eq t u fun s m => f s (List.mem_cons_of_mem _ m))
theorem keptAt_eq {K : PySem.W.Frag} {w : World} {H : Hp} {t u : Addr} {ss : List StD} (h : KeptAt K w H t ss) (g : KeptAt K w H u ss) (f : ∀ s ∈ ss, selfS s) : EqM K w H 4 (.ref t) (.ref u) := by
  obtain ⟨Ts, a1, a2⟩ := h
  obtain ⟨Us, b1, b2⟩ := g
  exact .inr (.inr (.inl ⟨t, u, _, _, rfl, rfl, a1, b1, kepts_eq a2 b2 f⟩))
theorem scCFirsts : FnScope ["self"] ["self"] (defScope (crow 4)) := ⟨rfl, rfl, rfl, by decide +kernel, rfl, by decide +kernel, by decide +kernel⟩
theorem scCEq : FnScope ["self", "other"] ["self", "other"] (defScope (crow 10)) := ⟨rfl, rfl, rfl, by decide +kernel, rfl, by decide +kernel, by decide +kernel⟩
theorem scCLen : FnScope ["self"] ["self"] (defScope (crow 11)) := ⟨rfl, rfl, rfl, by decide +kernel, rfl, by decide +kernel, by decide +kernel⟩
def spCFirsts (C : Addr) : Sp := fun vs H Q _ => ∃ (x dx tw tl to : Addr) (fv : V), vs = [.ref x] ∧ H x = some (insC C dx tw tl to fv) ∧ Q fv H
def spCLen (K : PySem.W.Frag) (w : World) (C : Addr) : Sp := fun vs H Q _ => ∃ (x : Addr) (ws ls : List StD) (fv : V), vs = [.ref x] ∧ CleanerAt K w C H x ws ls fv ∧ Q (.int (ws.length : Nat)) H
def spCEq (K : PySem.W.Frag) (w : World) (C : Addr) : Sp := fun vs H Q _ => ∃ (x y f1 f2 : Addr) (ws ls : List StD) (zs : List V), vs = [.ref x, .ref y] ∧ CleanerAt K w C H x ws ls (.ref f1) ∧ CleanerAt K w C H y ws ls (.ref f2) ∧ (∀ s ∈ ws, selfS s) ∧ (∀ s ∈ ls, selfS s) ∧ SqT K H f1 zs ∧ SqT K H f2 zs ∧ (∀ z ∈ zs, Sf z) ∧ ∀ H', Same H H' → Q (.bl true) H'
section
variable {P : Program} {w : World} {K : PySem.W.Frag} {mg : Str → Option Value} {base : Heap} {f C : Addr} {fd : FuncData}
theorem ok_cfirsts {k : Nat} (F : CrP K "firsts" "Cleaner.firsts" 4 f fd) (T : ClK K C) : FnOk P w K mg base CX0 (k + 1) f fd ["self"] (spCFirsts C) := by
  refine F.ok scCFirsts (fun vs H Q E h => ?_) (fun cdv A outer s H vs Q E hr h => ?_)
  · obtain ⟨x, dx, tw, tl, to, fv, rfl, _⟩ := h
    rfl
  · obtain ⟨x, dx, tw, tl, to, fv, rfl, hx, q⟩ := h
    refine ⟨_, PSs.nox (pss_one (ps_ret (pe_fld (pv 0) rfl))), ?_⟩
    exact ⟨_, rfl, x, C, dx, _, _, rfl, hx, T.cl, T.nf, rfl, q⟩
theorem ok_clen {k : Nat} (F : CrP K "__len__" "Cleaner.__len__" 11 f fd) (T : ClK K C) (mlen : mg "len" = none) : FnOk P w K mg base CX0 (k + 1) f fd ["self"] (spCLen K w C) := by
  refine F.ok scCLen (fun vs H Q E h => ?_) (fun cdv A outer s H vs Q E hr h => ?_)
  · obtain ⟨x, ws, ls, fv, rfl, _⟩ := h
    rfl
  · obtain ⟨x, ws, ls, fv, rfl, ⟨dx, tw, tl, to, h1, ⟨Ts, h2, h3⟩, h4⟩, q⟩ := h
    refine ⟨_, PSs.nox (pss_one (ps_ret (pe_callB call_len_seq (by rfl) mlen PySem.boot_len (pa_cons (pe_fld (pv 0) rfl) pa_nil)))), ?_⟩
    rw [← MD.paired_len h3, ← List.length_map (as := Ts) (f := V.ref)] at q
    exact ⟨_, rfl, x, C, dx, _, _, rfl, h1, T.cl, T.nw, rfl, tw, _, rfl, .inr h2, q⟩
theorem ok_ceq {k : Nat} (F : CrP K "__eq__" "Cleaner.__eq__" 10 f fd) (T : ClK K C) (M : ClM K C) (misi : mg "isinstance" = none) (gC : mg "Cleaner" = some (.ref C)) : FnOk P w K mg base CX0 (k + 1) f fd ["self", "other"] (spCEq K w C) := by
  refine F.ok scCEq (fun vs H Q E h => ?_) (fun cdv A outer s H vs Q E hr h => ?_)
  · obtain ⟨x, y, f1, f2, ws, ls, zs, rfl, _⟩ := h
    rfl
  · obtain ⟨x, y, v1, v2, ws, ls, zs, rfl, hx, hy, f1, f2, z1, z2, f3, q⟩ := h
    refine ⟨_, PSs.nox (pss_cons (ps_if (pt_not (pt_val (pe_callB call_isi (by rfl) misi boot_isinstance (pa_cons (pv 1) (pa_cons (pe_glob (v := .ref C) (by rfl) gC rfl) pa_nil))))) (pss_one (ps_ret pe_bl)) pss_nil)
      (pss_one (ps_ret (pe_cmpR (op_eqM hr.units) (pe_tup (pa_cons (pe_fld (pv 0) rfl) (pa_cons (pe_fld (pv 0) rfl) (pa_cons (pe_fld (pv 0) rfl) pa_nil)))) (pe_tup (pa_cons (pe_fld (pv 1) rfl) (pa_cons (pe_fld (pv 1) rfl) (pa_cons (pe_fld (pv 1) rfl) pa_nil)))) (nomark _))))), ?_⟩
    have sl : sizeLine = 16777216 := sizeLine_eq
    have hty := hy.ty T M
    obtain ⟨dx, tw, tl, to, h1, h2, h3⟩ := hx
    obtain ⟨dy, uw, ul, uo, g1, g2, g3⟩ := hy
    refine ⟨_, rfl, _, .ref C, _, _, true, rfl, .own C, hty, M.me, _, rfl, ?_⟩
    refine ⟨_, rfl, x, C, dx, _, _, rfl, h1, T.cl, T.nw, rfl, _, rfl, x, C, dx, _, _, rfl, h1, T.cl, T.nl, rfl, _, rfl, x, C, dx, _, _, rfl, h1, T.cl, T.nf, rfl, by show 3 ≤ sizeLine; omega, fun a na => ?_⟩
    have s1 := same_upd (o := .tup [.ref tw, .ref tl, .ref v1]) na
    have g1' := s1 _ _ g1
    refine ⟨_, rfl, y, C, dy, _, _, rfl, g1', T.cl, T.nw, rfl, _, rfl, y, C, dy, _, _, rfl, g1', T.cl, T.nl, rfl, _, rfl, y, C, dy, _, _, rfl, g1', T.cl, T.nf, rfl, by show 3 ≤ sizeLine; omega, fun b nb => ?_⟩
    have s2 := same_upd (o := .tup [.ref uw, .ref ul, .ref v2]) nb
    have s3 := s1.trans s2
    exact ⟨4, a, b, _, _, by decide, rfl, rfl, .of (s2 _ _ upd_same), .of upd_same, .cons (keptAt_eq (h2.same s3) (g2.same s3) f1) (.cons (keptAt_eq (h3.same s3) (g3.same s3) f2) (.cons (.inr (.inr (.inl ⟨v1, v2, zs, zs, rfl, rfl, same_tup s3 z1, same_tup s3 z2, eqm_all f3⟩))) .nil)), q _ s3⟩
end
end K0
end
/-! ### A6 -/
section
set_option Elab.async false
set_option linter.all false
set_option maxRecDepth 100000
set_option maxHeartbeats 4000000
/-! Drawn ascending signs. -/
namespace K0
open PySem PySem.Spec PyProof.Rows L2
def oneS (c : Nat) : Str := ⟨#[c]⟩
def oneV (c : Nat) : V := V.str (oneS c)
def codeS (z : Str) : Nat := z.cps.getD 0 0
def codeV : V → Nat
  | .str z => codeS z
  | _ => 0
theorem perm_codes {α : Type} {f : Nat → α} {g : α → Nat} (gf : ∀ c, g (f c) = c) {ys : List α} {l : List Nat} (h : ys.Perm (l.map f)) : ∃ cs : List Nat, cs.Perm l ∧ ys = cs.map f := by
  refine ⟨ys.map g, ?_, ?_⟩
  · have z := h.map g
    rw [List.map_map, show (g ∘ f) = id from funext gf, List.map_id] at z
    exact z
  · rw [List.map_map]
    have : ∀ y ∈ ys, (f ∘ g) y = y := fun y hy => by
      obtain ⟨c, _, rfl⟩ := List.mem_map.mp (h.mem_iff.mp hy)
      show f (g (f c)) = f c
      rw [gf]
    exact ((List.map_congr_left (g := id) this).trans (List.map_id ys)).symm
theorem rising_pw : ∀ (r : List Nat) (c : Nat), risingS (oneS c) (r.map oneS) = true → (c :: r).Pairwise (· ≤ ·)
  | [], c, _ => by simp
  | d :: r, c, h => by
    rw [List.map_cons, risingS, Bool.and_eq_true] at h
    obtain ⟨h1, h2⟩ := h
    have cd : c ≤ d := by
      have y : ltCps (oneS d).cps.toList (oneS c).cps.toList = false := by simpa using h1
      have z : ltCps [d] [c] = false := y
      simp [ltCps] at z
      exact z
    have pw := rising_pw r d h2
    refine List.pairwise_cons.mpr ⟨fun e he => ?_, pw⟩
    rcases List.mem_cons.mp he with rfl | he
    · exact cd
    · exact Nat.le_trans cd ((List.pairwise_cons.mp pw).1 e he)
theorem sorted_pw {cs : List Nat} (h : sortedS (cs.map oneS) = true) (nd : cs.Nodup) : cs.Pairwise (· < ·) := by
  have le : cs.Pairwise (· ≤ ·) := by
    cases cs with
    | nil => simp
    | cons c r => exact rising_pw r c h
  exact (le.and nd).imp fun z => Nat.lt_of_le_of_ne z.1 z.2
def someSigns : Str := "$:_ab"
theorem cutV_take (xs : List V) (i : Int) : cutV xs none (some i) = xs.take (HT.sIx xs.length xs.length (some i)) := by
  unfold cutV
  rw [HT.sIx_none, List.drop_zero, Nat.sub_zero]
theorem pools : ∀ z, (z = someSigns ∨ z = allSigns) → z.length ≤ 15 ∧ z.cps.toList ≠ [] ∧ z.cps.toList.Nodup ∧ ∀ c ∈ z.cps.toList, c ∈ allSigns.cps.toList := by
  rintro z (rfl | rfl)
  · exact ⟨by decide +kernel, by decide +kernel, by decide +kernel, by decide +kernel⟩
  · exact ⟨by decide +kernel, by decide +kernel, by decide +kernel, fun _ h => h⟩
theorem scLSigns : FnScope ["dice", "upto", "pool", "size"] ["dice", "upto"] (defScope (top iSigns)) := ⟨rfl, rfl, rfl, by decide +kernel, rfl, by decide +kernel, by decide +kernel⟩
def spSigns : Sp := fun vs H Q _ => ∃ (p : Addr) (a b c up : Int), vs = [.ref p, .int up] ∧ H p = some (dk a b c) ∧ 1 ≤ up ∧ up ≤ 15 ∧
  ∀ H' t (cs : List Nat), Keep p H H' → FrT H' t (cs.map oneV) → cs.Pairwise (· < ·) → cs ≠ [] → (∀ c ∈ cs, c ∈ allSigns.cps.toList) → (cs.length : Int) ≤ up → Q (.ref t) H'
section
variable {P : Program} {w : World} {K : PySem.W.Frag} {mg : Str → Option Value} {base : Heap} {f fR fA fM : Addr} {fd fdR fdA fdM : FuncData}
theorem ok_lsigns {k : Nat} (F : FnP K "_law_signs" iSigns f fd) (mlist : mg "list" = none) (mtuple : mg "tuple" = none) (msorted : mg "sorted" = none)
    (FR : FnOk P w K mg base CX0 (k + 2) fR fdR ["dice", "total"] spRoll) (gR : mg "_law_roll" = some (.ref fR)) (kR : PySem.W.keepIn K (.ref fR) = true) (bR : Binds K fdR ["dice", "total"] [])
    (FA : FnOk P w K mg base CX0 (k + 2) fA fdA [] spAll) (gA : mg "_law_all_signs" = some (.ref fA)) (kA : PySem.W.keepIn K (.ref fA) = true) (bA : Binds K fdA [] [])
    (FM : FnOk P w K mg base CX0 (k + 2) fM fdM ["dice", "items"] (spMixed K)) (gM : mg "_law_mixed" = some (.ref fM)) (kM : PySem.W.keepIn K (.ref fM) = true) (bM : Binds K fdM ["dice", "items"] []) :
    FnOk P w K mg base CX0 (k + 3) f fd ["dice", "upto"] spSigns := by
  refine F.ok scLSigns (fun vs H Q E h => ?_) (fun cdv A outer s H vs Q E hr h => ?_)
  · obtain ⟨p, a, b, c, up, rfl, _⟩ := h
    rfl
  · obtain ⟨p, a, b, c, up, rfl, hp, u1, u2, q⟩ := h
    refine ⟨_, PSs.nox (C8.pss_cut (ps_par (i := 2) (j := 3) (by rfl) scLSigns.nd rfl rfl (by decide) rfl rfl (pa_cons (pe_ifExp (PW.pt (pw_and (pt_cmpR op_lt (pv 1) pe_int (nomark _)) (pw_and1 (pt_cmpR op_gt (pe_call FR hr (by rfl) gR kR bR .nil pass0 (pa_cons (pv 0) (pa_cons pe_int pa_nil))) pe_int (nomark _))))) pe_str (pe_call0 FA hr (by rfl) gA kA bA .nil pass0))
          (pa_cons (pe_op op_add pe_int (pe_call FR hr (by rfl) gR kR bR .nil pass0 (pa_cons (pv 0) (pa_cons (pv 1) pa_nil)))) pa_nil)) (by rfl))
      (pss_one (ps_ret (pe_callTy call_tuple_frz (by rfl) mtuple (by decide +kernel) (pa_cons (pe_callB cr_sortedS (by rfl) msorted (by decide +kernel) (pa_cons (pe_slice sl_list (pe_call FM hr (by rfl) gM kM bM .nil pass0 (pa_cons (pv 0) (pa_cons (pe_callTy (call_list_txt rfl) (by rfl) mlist (by decide +kernel) (pa_cons (pv 2) pa_nil)) pa_nil))) po_none (po_some (pv 3))) pa_nil)) pa_nil))))), ?_⟩
    refine ⟨fun σ' H' => ∃ (z : Str) (r : Int), σ' = [some (.ref p), some (.int up), some (.str z), some (.int (1 + r))] ∧ Keep p H H' ∧ (z = someSigns ∨ z = allSigns) ∧ 0 ≤ r ∧ r < up, ?_, ?_⟩
    · have wd : CDivW a up := wide_div (b := 4) (by omega) (by omega) (by decide) (by decide)
      refine ⟨_, rfl, _, _, rfl, rfl, _, rfl, ite2 (fun e1 => ?_) (fun e1 => ?_)⟩
      · refine ⟨_, rfl, p, a, b, c, 4, rfl, hp, wide_div (b := 4) (by decide) (by decide) (by decide) (by decide), fun a1 b1 c1 r1 g0 g1 => ⟨_, _, rfl, rfl, _, rfl, ite2 (fun e2 => ?_) (fun e2 => ?_)⟩⟩
        · have wd : CDivW a1 up := wide_div (b := 4) (by omega) (by omega) (by decide) (by decide)
          exact ⟨_, rfl, _, rfl, p, a1, b1, c1, up, rfl, upd_same, wd, fun a' b' c' r h0 h1 => ⟨_, _, rfl, rfl, _, _, rfl, _, r, rfl, (Keep.dice a1 b1 c1).trans (.dice a' b' c'), .inl rfl, h0, h1⟩⟩
        · have wd : CDivW a1 up := wide_div (b := 4) (by omega) (by omega) (by decide) (by decide)
          refine ⟨rfl, ?_⟩
          exact ⟨_, rfl, _, rfl, p, a1, b1, c1, up, rfl, upd_same, wd, fun a' b' c' r h0 h1 => ⟨_, _, rfl, rfl, _, _, rfl, _, r, rfl, (Keep.dice a1 b1 c1).trans (.dice a' b' c'), .inr rfl, h0, h1⟩⟩
      · refine ⟨rfl, ?_⟩
        exact ⟨_, rfl, _, rfl, p, a, b, c, up, rfl, hp, wd, fun a' b' c' r h0 h1 => ⟨_, _, rfl, rfl, _, _, rfl, _, r, rfl, .dice a' b' c', .inr rfl, h0, h1⟩⟩
    rintro σ1 H1 ⟨z, r, rfl, k1, hz, r0, r1⟩
    obtain ⟨z15, zne, znd, zsg⟩ := pools z hz
    refine ⟨_, rfl, _, rfl, z, rfl, Nat.le_of_lt (small1000 (by omega)), fun l nl => ?_⟩
    have kl : Keep p H (upd H1 l (.lst (signsV z))) := k1.new2 nl
    obtain ⟨a1, b1, c1, hp1⟩ := kl.2
    have zl : z.cps.toList.length = z.length := by
      show _ = z.cps.size
      simp
    refine ⟨p, a1, b1, c1, l, _, rfl, hp1, .of upd_same, by show (z.cps.toList.map _).length ≤ 1000; rw [List.length_map, zl]; omega, fun H2 l2 ys k2 pm e2 ne => ?_⟩
    obtain ⟨cs, pc, rfl⟩ := perm_codes (f := oneV) (g := codeV) (fun c => rfl) (l := z.cps.toList) pm
    have cl := pc.length_eq
    refine ⟨_, rfl, _, rfl, l2, _, rfl, .of e2, fun l3 n3 => ?_⟩
    have kn : ∀ n : Nat, HT.sIx n n (some (1 + r)) = min (1 + r).toNat n := fun n => by
      show (if (1 + r) < 0 then ((1 + r) + (n : Int)).toNat else min (1 + r).toNat n) = min (1 + r).toNat n
      rw [if_neg (by omega)]
    have ec : cutV (cs.map oneV) none (some (1 + r)) = ((cs.take (min (1 + r).toNat cs.length)).map oneS).map V.str := by
      rw [cutV_take, kn, List.length_map, ← List.map_take, List.map_map]
      rfl
    have c0 : 0 < z.cps.toList.length := List.length_pos_iff.mpr zne
    refine ⟨l3, (cs.take (min (1 + r).toNat cs.length)).map oneS, rfl, .of (by rw [upd_same, ec]), by rw [List.length_map, List.length_take]; omega, fun ys2 l4 pm2 so n4 => ?_⟩
    obtain ⟨cs2, pc2, rfl⟩ := perm_codes (f := oneS) (g := codeS) (fun c => rfl) pm2
    have cl2 := pc2.length_eq
    rw [List.length_take] at cl2
    have mem : ∀ c ∈ cs2, c ∈ z.cps.toList := fun c hc => pc.mem_iff.mp (List.mem_of_mem_take (pc2.mem_iff.mp hc))
    have nd : cs2.Nodup := pc2.nodup_iff.mpr ((pc.nodup_iff.mpr znd).sublist (List.take_sublist _ _))
    refine ⟨l4, _, rfl, .of upd_same, fun t us nt => q _ t cs2 ((((kl.trans k2).new2 n3).new2 n4).new2 nt) (by rw [List.map_map]; exact frzT_at) (sorted_pw so nd) (fun e => ?_) (fun c hc => zsg c (mem c hc)) (by omega)⟩
    rw [e, List.length_nil] at cl2
    omega
end
end K0
end
/-! ### LWD -/
section
set_option Elab.async false
set_option linter.all false
set_option maxRecDepth 100000
set_option maxHeartbeats 4000000
/-! _law_word of a tuple of signs. -/
namespace K0
open PySem PySem.Spec PyProof.Rows L2
theorem sg_glued : ∀ (ws : List Str), (∀ z ∈ ws, sgAll z = true) → sgAll (Builtin.Str.glued ("" : Str) ws) = true := by
  have key : ∀ (r : List Str) (acc : Array Nat), (acc.toList.all fun c => allSigns.cps.contains c) = true → (∀ z ∈ r, sgAll z = true) → ((r.foldl (fun acc p => acc ++ ("" : Str).cps ++ p.cps) acc).toList.all fun c => allSigns.cps.contains c) = true := by
    intro r
    induction r with
    | nil => intro acc h _; exact h
    | cons y r ih =>
      intro acc h hz
      rw [List.foldl_cons]
      refine ih _ ?_ fun z m => hz z (List.mem_cons_of_mem _ m)
      rw [Array.toList_append, Array.toList_append, List.all_append, List.all_append, h]
      have := hz y List.mem_cons_self
      unfold sgAll at this
      rw [this]
      rfl
  intro ws h
  cases ws with
  | nil => decide +kernel
  | cons x r => exact key r x.cps (h x List.mem_cons_self) fun z m => h z (List.mem_cons_of_mem _ m)
theorem sg_one {c : Nat} (h : c ∈ allSigns.cps.toList) : sgAll (oneS c) = true := by
  show ([c].all fun c => allSigns.cps.contains c) = true
  rw [List.all_cons, sg_mem, decide_eq_true h]
  rfl
abbrev lwN : List Str := ["dice", "signs", "upto", "size", "turn"]
theorem scLWord : FnScope lwN ["dice", "signs", "upto"] (defScope (top iLWord)) := ⟨rfl, rfl, rfl, by decide +kernel, rfl, by decide +kernel, by decide +kernel⟩
def spLWord (K : PySem.W.Frag) : Sp := fun vs H Q _ => ∃ (p sg : Addr) (a b c : Int) (cs : List Nat), vs = [.ref p, .ref sg, .int 2] ∧ H p = some (dk a b c) ∧ SqT K (hid p H) sg (cs.map oneV) ∧ cs ≠ [] ∧ cs.length ≤ 15 ∧ (∀ c ∈ cs, c ∈ allSigns.cps.toList) ∧
  ∀ H' z, Keep p H H' → sgAll z = true → z.length ≤ 2 → Q (.str z) H'
theorem hid_keep {p : Addr} {H H' : Hp} (k : Keep p H H') : Same (hid p H) (hid p H') := hid_same k.1
section
variable {P : Program} {w : World} {K : PySem.W.Frag} {mg : Str → Option Value} {base : Heap} {f fO : Addr} {fd fdO : FuncData}
theorem ok_lword {k : Nat} (F : FnP K "_law_word" iLWord f fd) (FO : FnOk P w K mg base CX0 (k + 2) fO fdO ["dice", "items"] (spOne K)) (gO : mg "_law_one_of" = some (.ref fO)) (kO : PySem.W.keepIn K (.ref fO) = true) (bO : Binds K fdO ["dice", "items"] [])
    (mmin : mg "min" = none) (mrange : mg "range" = none) : FnOk P w K mg base CX0 (k + 3) f fd ["dice", "signs", "upto"] (spLWord K) := by
  refine F.ok scLWord (fun vs H Q E h => ?_) (fun cdv A outer s H vs Q E hr h => ?_)
  · obtain ⟨p, sg, a, b, c, cs, rfl, _⟩ := h
    rfl
  · obtain ⟨p, sg, a, b, c, cs, rfl, hp, hT, ne, cl, mem, q⟩ := h
    refine ⟨_, PSs.nox (pss_cons (ps_set (i := 3) scLWord.nd rfl (.inl rfl) (pe_callB (call_min2 rfl) (by rfl) mmin boot_min (pa_cons (pv 2) (pa_cons
        (pe_call FO hr (by rfl) gO kO bO .nil pass0 (pa_cons (pv 0) (pa_cons (pe_lst (pa_cons pe_int (pa_cons pe_int (pa_cons pe_int (pa_cons pe_int (pa_cons pe_int (pa_cons pe_int (pa_cons pe_int (pa_cons pe_int (pa_cons pe_int pa_nil)))))))))) pa_nil))) pa_nil))))
      (pss_one (ps_ret (pe_join pe_str (pe_lc (own := [("turn", 4)]) (g := gName 4) (tt := tYes) rfl scLWord.nd (pi_range1 (by rfl) mrange (pa_cons (pv 3) pa_nil)) (blkOk_by (N := lwN) (sc := defScope (top iLWord)) (by decide +kernel))
        (fun _ _ _ _ _ => pg_name (i := 4) scLWord.nd rfl (Or.inl rfl)) (fun _ _ _ _ _ => pts_nil) (fun _ _ _ _ _ => pe_call FO hr (by rfl) gO kO bO .nil pass0 (pa_cons (pv 0) (pa_cons (pv 1) pa_nil)))))))), ?_⟩
    refine ⟨_, rfl, _, rfl, by show 9 ≤ sizeLine; decide, fun l hl => ?_⟩
    have npl : p ≠ l := ne_of_none hp hl
    refine ⟨p, a, b, c, _, _, rfl, by rw [upd_ne npl]; exact hp, .inl ⟨l, rfl, .inl (.of upd_same)⟩, List.cons_ne_nil _ _, by show 9 ≤ sizeLine; decide, fun a' b' c' => .inl ⟨l, rfl, .inl (.of (by rw [upd_ne npl.symm, upd_same]))⟩, fun a1 b1 c1 i x hx => ?_⟩
    have hv : ∃ n : Int, x = .int n ∧ 0 ≤ n ∧ n ≤ 6 := by
      have hm := List.mem_of_getElem? hx
      simp only [List.mem_cons, List.not_mem_nil, or_false] at hm
      rcases hm with rfl | rfl | rfl | rfl | rfl | rfl | rfl | rfl | rfl <;> exact ⟨_, rfl, by decide, by decide⟩
    obtain ⟨n, rfl, n0, n6⟩ := hv
    have k1 : Keep p H (upd (upd H l (.lst [.int 0, .int 1, .int 1, .int 1, .int 2, .int 2, .int 3, .int 4, .int 6])) p (dk a1 b1 c1)) := (Keep.new hp hl).trans (.dice a1 b1 c1)
    refine ⟨_, _, rfl, ?_⟩
    generalize hsz : (if n < 2 then n else 2) = sz
    have hsz2 : 0 ≤ sz ∧ sz ≤ 2 := by
      rw [← hsz]
      split <;> omega
    refine ⟨⟨_, rfl⟩, _, rfl, sz, rfl, by omega, by omega, fun D hD => ?_⟩
    refine lc_range (lo := 0) (n := sz.toNat) (fun i H' => Keep p H H' ∧ ∃ ws : List Str, ws.length = i ∧ (ws.map (·.length)).sum = i ∧ (∀ z ∈ ws, sgAll z = true) ∧ H' D = some (.lst (ws.map V.str))) ⟨k1.new2 hD, [], rfl, rfl, (fun z m => nomatch m), upd_same⟩ (fun i H' hi hP => ?_) (fun H' hP => ?_)
    · obtain ⟨kk, ws, hw, hsum, hsg, hDD⟩ := hP
      obtain ⟨a2, b2, c2, hp2⟩ := kk.2
      have hTs : ∀ a b c : Int, SqT K (upd H' p (dk a b c)) sg (cs.map oneV) := fun a b c => same_tup hid_out (same_tup (hid_keep (kk.trans (.dice a b c))) hT)
      have hT2 : SqT K H' sg (cs.map oneV) := same_tup hid_out (same_tup (hid_keep kk) hT)
      refine ⟨rfl, _, rfl, _, rfl, p, a2, b2, c2, _, _, rfl, hp2, .inl ⟨sg, rfl, .inr hT2⟩, by simpa using ne, by rw [List.length_map]; exact small5 (by omega) |> Nat.le_of_lt, fun a b c => .inl ⟨sg, rfl, .inr (hTs a b c)⟩, fun a3 b3 c3 j x hx => ?_⟩
      rw [List.getElem?_map] at hx
      cases hc : cs[j]? with
      | none => rw [hc] at hx; cases hx
      | some cc =>
        rw [hc] at hx
        cases hx
        have nDp : D ≠ p := fun e => by
          rw [e, hp2] at hDD
          have z : HO.lst _ = HO.lst _ := Option.some.inj hDD
          injection z with z
          have z2 := congrArg (·.map fun v => match v with | V.int _ => true | _ => false) z
          cases ws <;> simp at z2
        refine ⟨ws.map V.str, by rw [upd_ne nDp]; exact hDD, ?_, ?_⟩
        · rw [List.length_map, hw]
          exact small1000 (by omega)
        · refine ⟨?_, ws ++ [oneS cc], by rw [List.length_append, hw]; rfl, by rw [List.map_append, List.sum_append, hsum]; rfl, fun z m => ?_, by rw [upd_same, List.map_append]; rfl⟩
          · exact ⟨fun b o hb e => by rw [upd_ne (ne_of_none (k1.1 b o hb e) hD), upd_ne hb]; exact kk.1 b o hb e, a3, b3, c3, by rw [upd_ne nDp.symm, upd_same]⟩
          · rcases List.mem_append.mp m with m | m
            · exact hsg z m
            · rw [List.mem_singleton.mp m]
              exact sg_one (mem cc (List.mem_of_getElem? hc))
    · obtain ⟨kk, ws, hw, hsum, hsg, hDD⟩ := hP
      refine ⟨_, D, ws, rfl, rfl, .inl (.of hDD), by rw [hsum]; show _ + ws.length * 0 ≤ _; omega, q H' _ kk (sg_glued ws hsg) ?_⟩
      have e := PySem.size_glued ("" : Str) ws
      show (Builtin.Str.glued ("" : Str) ws).length ≤ 2
      rw [e, hsum]
      show _ + (ws.length - 1) * 0 ≤ 2
      omega
end
end K0
end
/-! ### LRG -/
section
set_option Elab.async false
set_option linter.all false
set_option maxRecDepth 100000
set_option maxHeartbeats 4000000
/-! range(n) as a value, list(range(n)), n 1 or 2. -/
namespace K0
open PySem PySem.Spec PyProof.Rows L2
def r12 (n : Int) : List V := if n = 1 then [.int 0] else [.int 0, .int 1]
section
variable {X : Cx}
theorem cr_range1 : CallR X (.type "range") (fun vs H Q => ∃ i, vs = [V.int i] ∧ ∀ p, H p = none → Q (.ref p) (upd H p (.rng 0 i))) := by
  intro pins s σ H vs us Q I r h
  obtain ⟨i, rfl, q⟩ := h
  obtain ⟨u, rfl, t, rfl⟩ := vals1 r
  refine call_range_1 ⟨.ref s.heap.objs.size, upd H s.heap.objs.size (.rng 0 i), I.laid (t' := s.toks + 1 + 1) (fun b o e => Heap.get?_push_of_some _ e) (Nat.le_refl _) ?_, rfl, q _ (I.hok.fresh (Nat.le_refl _))⟩
  exact ⟨s.toks, t, s.toks + 1, Heap.get?_push_size _ rfl⟩
theorem call_list_r12 (hc : X.calm = true) : CallR X (.type "list") (fun xs H Q => ∃ p n, xs = [.ref p] ∧ H p = some (.rng 0 n) ∧ (n = 1 ∨ n = 2) ∧ ∀ l, H l = none → Q (.ref l) (upd H l (.lst (r12 n)))) := by
  intro pins s σ H xs us Q I r h
  obtain ⟨p, n, rfl, hp, hn, q⟩ := h
  obtain ⟨u, rfl, ru⟩ := vals1 r
  obtain rfl : u = Value.ref p := ru
  obtain ⟨t, u2, v, hr⟩ := I.hok p _ hp
  have vals : ∀ {acc : Array Value}, ItemsOf (fun i v => ∃ t, v = Value.int (0 + i * 1) t) acc n.toNat → Vals (r12 n) acc.toList := by
    intro acc h
    obtain ⟨l⟩ := acc
    obtain ⟨h1, h2⟩ := h
    rcases hn with rfl | rfl
    · match l, h1 with
      | [x], _ =>
        obtain ⟨t, e⟩ := h2 0 x rfl
        subst e
        exact .cons ⟨t, rfl⟩ .nil
    · match l, h1 with
      | [x, y], _ =>
        obtain ⟨t, e⟩ := h2 0 x rfl
        obtain ⟨t2, e2⟩ := h2 1 y rfl
        subst e
        subst e2
        exact .cons ⟨t, rfl⟩ (.cons ⟨t2, rfl⟩ .nil)
  have sm : Builtin.Range.small 0 n 1 = true := by rcases hn with rfl | rfl <;> decide +kernel
  have sz : Builtin.Range.rangeSize 0 n 1 = n.toNat := by rcases hn with rfl | rfl <;> decide +kernel
  refine call_list_range (n := n.toNat) (I.ok.hd hc) hr sm sz (by rcases hn with rfl | rfl <;> decide) fun h' tk acc c kp e it => ?_
  refine ⟨.ref s.heap.objs.size, _, I.laid (t' := tk) kp (Nat.le_refl _) (show ObjOk X.prog X.w _ h' _ (.lst (r12 n)) from ⟨?_, acc.toList, c, vals it, by simpa using e⟩), rfl, q _ (I.hok.fresh (Nat.le_refl _))⟩
  rcases hn with rfl | rfl <;> decide
end
end K0
end
/-! ### WC0 -/
section
set_option Elab.async false
set_option linter.all false
set_option maxRecDepth 100000
set_option maxHeartbeats 4000000
/-! Draws: the dice's contracts in terms of Keep; heaps with some places hidden. -/
namespace K0
open PySem PySem.Spec PyProof.Rows L2
open MD (dM KeysV KeyV)
theorem keep_dice {p : Addr} {H H' : Hp} (k : Keep p H H') : Dice p H' := k.2
theorem Dice.keep {p : Addr} {H : Hp} (d : Dice p H) : Keep p H H := ⟨fun _ _ _ e => e, d⟩
theorem roll_at {p : Addr} {H : Hp} {t : Int} {Q : VK} {E : XK} (d : Dice p H) (h1 : 1 ≤ t) (h2 : t ≤ 1000) (q : ∀ r, 0 ≤ r → r < t → ∀ H', Keep p H H' → Q (.int r) H') : spRoll [.ref p, .int t] H Q E := by
  obtain ⟨a, b, c, e⟩ := d
  obtain ⟨n, rfl⟩ : ∃ n : Nat, t = n := ⟨t.toNat, by omega⟩
  exact ⟨p, a, b, c, n, rfl, e, len_div (by omega) (by rw [sizeLine_eq]; omega), fun a' b' c' r h0 hr => q r h0 hr _ (.dice a' b' c')⟩
theorem one_at {K : PySem.W.Frag} {p : Addr} {H : Hp} {v : V} {xs : List V} {Q : VK} {E : XK} (d : Dice p H) (hs : Its K (hid p H) v xs) (ne : xs ≠ []) (sz : xs.length ≤ 1000) (q : ∀ x ∈ xs, ∀ H', Keep p H H' → Q x H') : spOne K [.ref p, v] H Q E := by
  obtain ⟨a, b, c, e⟩ := d
  have mv : ∀ H', Keep p H H' → Its K H' v xs := fun H' k => by
    have s := (hid_keep k).trans hid_out
    rcases hs with ⟨l, rfl, h | h⟩ | ⟨z, rfl, h1, h2⟩
    · exact .inl ⟨l, rfl, .inl (s.seq h)⟩
    · exact .inl ⟨l, rfl, .inr (same_tup s h)⟩
    · exact .inr ⟨z, rfl, h1, h2⟩
  exact ⟨p, a, b, c, v, xs, rfl, e, mv H (Keep.refl e), ne, by rw [sizeLine_eq]; omega, fun a' b' c' => mv _ (.dice a' b' c'), fun a' b' c' i x hx => q x (List.mem_of_getElem? hx) _ (.dice a' b' c')⟩
theorem one_new {K : PySem.W.Frag} {p l : Addr} {H : Hp} {xs : List V} {Q : VK} {E : XK} (d : Dice p H) (nl : H l = none) (ne : xs ≠ []) (sz : xs.length ≤ 1000) (q : ∀ x ∈ xs, ∀ H', Keep p H H' → Q x H') : spOne K [.ref p, .ref l] (upd H l (.lst xs)) Q E := by
  obtain ⟨a, b, c, e⟩ := d
  have k := Keep.new (o := .lst xs) e nl
  refine one_at k.2 (.inl ⟨l, rfl, .inl (.of ?_)⟩) ne sz fun x m H' k2 => q x m H' (k.trans k2)
  rw [hid_ne (ne_of_none e nl).symm, upd_same]
/-- some places hidden -/
def hids (S : List Addr) (H : Hp) : Hp := fun b => if b ∈ S then none else H b
def KeepS (S : List Addr) (H H' : Hp) : Prop := ∀ b o, b ∉ S → H b = some o → H' b = some o
theorem hids_of {S : List Addr} {H : Hp} {b : Addr} (h : b ∉ S) : hids S H b = H b := if_neg h
theorem hids_some {S : List Addr} {H : Hp} {b : Addr} {o : HO} (h : hids S H b = some o) : b ∉ S ∧ H b = some o := by
  unfold hids at h
  split at h
  · cases h
  · exact ⟨by assumption, h⟩
theorem KeepS.hids {S : List Addr} {H H' : Hp} (k : KeepS S H H') : Same (K0.hids S H) (K0.hids S H') := fun b o h => by
  obtain ⟨h1, h2⟩ := hids_some h
  rw [hids_of h1]
  exact k b o h1 h2
theorem hids_out {S : List Addr} {H : Hp} : Same (hids S H) H := fun b o h => (hids_some h).2
theorem hids_sub {S S' : List Addr} {H : Hp} (h : ∀ b ∈ S, b ∈ S') : Same (hids S' H) (hids S H) := fun b o e => by
  obtain ⟨h1, h2⟩ := hids_some e
  rw [hids_of fun m => h1 (h b m)]
  exact h2
theorem hid_hids {p : Addr} {H : Hp} : Same (hids [p] H) (hid p H) := fun b o e => by
  obtain ⟨h1, h2⟩ := hids_some e
  rw [hid_ne fun z => h1 (by rw [z]; exact List.mem_singleton.mpr rfl)]
  exact h2
theorem hids_hid {p : Addr} {H : Hp} : Same (hid p H) (hids [p] H) := fun b o e => by
  have h : b ≠ p := fun z => by
    unfold hid at e
    rw [if_pos z] at e
    cases e
  rw [hid_ne h] at e
  rw [hids_of fun m => h (List.mem_singleton.mp m)]
  exact e
theorem KeepS.refl (S : List Addr) (H : Hp) : KeepS S H H := fun _ _ _ e => e
theorem KeepS.trans {S : List Addr} {H H1 H2 : Hp} (a : KeepS S H H1) (b : KeepS S H1 H2) : KeepS S H H2 := fun c o h e => b c o h (a c o h e)
theorem KeepS.more {S S' : List Addr} {H H' : Hp} (k : KeepS S H H') (h : ∀ b ∈ S, b ∈ S') : KeepS S' H H' := fun b o n e => k b o (fun m => n (h b m)) e
theorem Keep.s {p : Addr} {S : List Addr} {H H' : Hp} (k : Keep p H H') (h : p ∈ S) : KeepS S H H' := fun b o n e => k.1 b o (fun z => n (by rw [z]; exact h)) e
theorem KeepS.same {S : List Addr} {H H' : Hp} (h : Same H H') : KeepS S H H' := fun b o _ e => h b o e
theorem KeepS.mut {S : List Addr} {H : Hp} {m : Addr} {o : HO} (h : m ∈ S) : KeepS S H (upd H m o) := fun b u n e => by rw [upd_ne fun z => n (by rw [z]; exact h)]; exact e
theorem KeepS.new {S : List Addr} {H H' : Hp} {m : Addr} (k : KeepS (m :: S) H H') (n : H m = none) : KeepS S H H' := fun b o h e => k b o (fun z => (List.mem_cons.mp z).elim (fun z => by rw [z, n] at e; cases e) h) e
theorem KeepS.keep {p : Addr} {H H' : Hp} (k : KeepS [p] H H') (d : Dice p H') : Keep p H H' := ⟨fun b o n e => k b o (fun m => n (List.mem_singleton.mp m)) e, d⟩
end K0
end
/-! ### WC1 -/
section
set_option Elab.async false
set_option linter.all false
set_option maxRecDepth 100000
set_option maxHeartbeats 4000000
/-! _law_wild_cleaner. -/
namespace K0
open PySem PySem.Spec PyProof.Rows L2
open MD (dM KeysV KeyV)
def fitK (d : PyData) : Bool := d.showable && d.leavesShort 60 && decide (d.bulk ≤ 1000) && decide (d.depth ≤ 8)
theorem fitK_ok {d : PyData} (h : fitK d = true) : Fit d ∧ d.bulk ≤ 1000 := by
  unfold fitK at h
  rw [Bool.and_eq_true, Bool.and_eq_true, Bool.and_eq_true, decide_eq_true_iff, decide_eq_true_iff] at h
  exact ⟨⟨h.1.1.1, h.1.1.2, by omega, h.2⟩, h.1.2⟩
theorem signs_fit : (allSigns.cps.toList.all fun c => fitK (.str (oneS c)) && fitK (.tuple [.str (oneS c), .none]) && fitK (.tuple [.str (oneS c), .int 0]) && fitK (.tuple [.str (oneS c), .int 1]) && isSignD (.str (oneS c))) = true := by decide +kernel
abbrev wiN : List Str := ["dice", "signs", "views", "size", "rows", "state", "moves", "sign", "view", "words", "back", "some", "starts"]
theorem scWild : FnScope wiN ["dice", "signs"] (defScope (top iWild)) := ⟨rfl, rfl, rfl, by decide +kernel, rfl, by decide +kernel, by decide +kernel⟩
/-- a drawn cleaner's parts -/
structure WildAt (K : PySem.W.Frag) (w : World) (H : Hp) (t R B S : Addr) (xs ys zs : List V) (ws ls : List StD) (ds : List PyData) : Prop where
  tup : SqT K H t [.ref R, .ref B, .ref S]
  rl : SqL K H R xs
  bl : SqL K H B ys
  sl : SqL K H S zs
  rows : Paired (StX K w H 3) xs ws
  back : Paired (StX K w H 2) ys ls
  starts : DvAll K H zs ds
theorem WildAt.same {K : PySem.W.Frag} {w : World} {H H' : Hp} {t R B S : Addr} {xs ys zs : List V} {ws ls : List StD} {ds : List PyData} (h : WildAt K w H t R B S xs ys zs ws ls ds) (e : Same H H') : WildAt K w H' t R B S xs ys zs ws ls ds :=
  ⟨same_tup e h.tup, e.seq h.rl, e.seq h.bl, e.seq h.sl, pairedI2 (fun _ _ z => z.same e) h.rows, pairedI2 (fun _ _ z => z.same e) h.back, DvAll.same e _ _ h.starts⟩
def fewS : StD → Prop
  | .bad => False
  | .good rs _ _ => rs.length ≤ 9
def fewB : StD → Bool
  | .bad => false
  | .good rs _ _ => decide (rs.length ≤ 9)
theorem few_of {s : StD} (h : fewB s = true) : fewS s := by
  cases s with
  | bad => cases h
  | good rs ys ds =>
    have h : decide (rs.length ≤ 9) = true := h
    exact (of_decide_eq_true h : rs.length ≤ 9)
structure WildOk (ws ls : List StD) (ds : List PyData) : Prop where
  nw : 1 ≤ ws.length ∧ ws.length ≤ 3
  nl : ls.length = 1 ∨ ls.length = 2
  w : ∀ s ∈ ws, wStD ws.length ls.length s = true
  l : ∀ s ∈ ls, lStD ls.length s = true
  nf : ds.length = ls.length
  f : ∀ d ∈ ds, isViewD ws.length d = true
  fb : ∀ d ∈ ds, d.bulk ≤ 10
  fw : ∀ s ∈ ws, fewS s
  fl : ∀ s ∈ ls, fewS s
theorem WildOk.parts {ws ls : List StD} {ds : List PyData} (h : WildOk ws ls ds) : partsD (.sts ws) (.sts ls) (.tuple ds) = true := by
  have := h.nw
  have := h.nl
  have a1 : lookD (.sts ls) = true := by
    show (decide (0 < ls.length) && decide (ls.length ≤ 3) && ls.all (lStD ls.length)) = true
    rw [decide_eq_true (by omega), decide_eq_true (by omega), Bool.true_and, Bool.true_and]
    exact List.all_eq_true.mpr h.l
  have a2 : writerD (lenD (.sts ls)) (.sts ws) = true := by
    show (decide (0 < ws.length) && decide (ws.length ≤ 4) && ws.all (wStD ws.length ls.length)) = true
    rw [decide_eq_true (by omega), decide_eq_true (by omega), Bool.true_and, Bool.true_and]
    exact List.all_eq_true.mpr h.w
  have a3 : firstsD (lenD (.sts ls)) (lenD (.sts ws)) (.tuple ds) = true := by
    show (decide ((ds.length : Int) = ls.length) && ds.all (isViewD ws.length)) = true
    rw [decide_eq_true (by have := h.nf; omega), Bool.true_and]
    exact List.all_eq_true.mpr h.f
  show (lookD (.sts ls) && writerD (lenD (.sts ls)) (.sts ws) && firstsD (lenD (.sts ls)) (lenD (.sts ws)) (.tuple ds)) = true
  rw [a1, a2, a3]
  rfl
def spWild (K : PySem.W.Frag) (w : World) : Sp := fun vs H Q _ => ∃ (p sg : Addr) (cs : List Nat), vs = [.ref p, .ref sg] ∧ Dice p H ∧ SqT K (hid p H) sg (cs.map oneV) ∧ cs.Nodup ∧ cs ≠ [] ∧ cs.length ≤ 3 ∧ (∀ c ∈ cs, c ∈ allSigns.cps.toList) ∧
  ∀ H' t R B S xs ys zs ws ls ds, Keep p H H' → WildAt K w (hid p H') t R B S xs ys zs ws ls ds → WildOk ws ls ds → Q (.ref t) H'
/-- the moves drawn so far -/
structure MovesAt (K : PySem.W.Frag) (w : World) (H : Hp) (S : List Addr) (m : Addr) (size views : Int) (taken : List Nat) (rs : List RX) : Prop where
  at_ : H m = some (dM w m (rs.map (·.1)))
  ok : RowsX K (hids S H) rs
  good : ∀ r ∈ rs, (isSeenD views r.2.1 && isMoveD size r.2.2) = true
  keys : ∀ r ∈ rs, ∃ c ∈ taken, ∃ nk, r.1.1 = .tup [.text (oneS c), nk]
  len : rs.length ≤ taken.length
theorem MovesAt.keep {K : PySem.W.Frag} {w : World} {H H' : Hp} {S : List Addr} {m : Addr} {size views : Int} {taken : List Nat} {rs : List RX} (h : MovesAt K w H S m size views taken rs) (k : KeepS S H H') (e : H' m = H m) : MovesAt K w H' S m size views taken rs :=
  ⟨e.trans h.at_, h.ok.same k.hids, h.good, h.keys, h.len⟩
theorem MovesAt.more {K : PySem.W.Frag} {w : World} {H : Hp} {S : List Addr} {m : Addr} {size views : Int} {taken : List Nat} {rs : List RX} (h : MovesAt K w H S m size views taken rs) (c : Nat) : MovesAt K w H S m size views (taken ++ [c]) rs :=
  ⟨h.at_, h.ok, h.good, fun r hr => let ⟨x, hx, y⟩ := h.keys r hr; ⟨x, List.mem_append_left _ hx, y⟩, by rw [List.length_append]; exact Nat.le_succ_of_le h.len⟩
/-- a view that a draw gives -/
def ViewV (views : Int) (v : V) (d : PyData) (nk : MD.NK) : Prop := (v = .non ∧ d = .none ∧ nk = .none) ∨ ∃ i : Int, v = .int i ∧ d = .int i ∧ nk = .num i ∧ 0 ≤ i ∧ i < views
theorem view_dv {K : PySem.W.Frag} {H : Hp} {views : Int} {v : V} {d : PyData} {nk : MD.NK} (h : ViewV views v d nk) : Dv K H v d ∧ KeyV K H v nk ∧ isViewD views d = true ∧ nk.depth = 0 := by
  rcases h with ⟨rfl, rfl, rfl⟩ | ⟨i, rfl, rfl, rfl, h0, h1⟩
  · exact ⟨.non, .atom rfl, rfl, rfl⟩
  · refine ⟨.int i, .atom rfl, ?_, rfl⟩
    show (decide (0 ≤ i) && decide (i ≤ views - 1)) = true
    rw [decide_eq_true h0, decide_eq_true (by omega)]
    rfl
theorem str_bulk {z : Str} (h : z.length ≤ 2) : (PyData.str z).bulk ≤ 10 := by
  show z.length ≤ 10
  omega
def mvRow (c : Nat) (nk : MD.NK) (vd : PyData) (z : Str) (i : Int) (T2 T3 : Addr) : RX := ((.tup [.text (oneS c), nk], .ref T3, .ref T2), .tuple [.str (oneS c), vd], .tuple [.str z, .int i])
theorem MovesAt.put {K : PySem.W.Frag} {w : World} {H : Hp} {S : List Addr} {m : Addr} {size views : Int} {taken : List Nat} {rs : List RX} {c : Nat} {vv : V} {vd : PyData} {nk : MD.NK} {z : Str} {i : Int} {T2 T3 : Addr} (h : MovesAt K w H S m size views taken rs) (hm : m ∈ S) (hc : c ∈ allSigns.cps.toList) (new : c ∉ taken) (hv : ViewV views vv vd nk) (v12 : views = 1 ∨ views = 2)
    (hz : sgAll z = true) (lz : z.length ≤ 2) (h0 : 0 ≤ i) (h1 : i < size) (s3 : size ≤ 1000) (t15 : taken.length ≤ 100) (e2 : SqT K (hids S H) T2 [.str z, .int i]) (e3 : SqT K (hids S H) T3 [.str (oneS c), vv]) :
    MD.put (rs.map (·.1)) (.tup [.text (oneS c), nk]) (.ref T3) (.ref T2) = (rs ++ [mvRow c nk vd z i T2 T3]).map (·.1) ∧
      MovesAt K w (upd H m (dM w m ((rs ++ [mvRow c nk vd z i T2 T3]).map (·.1)))) S m size views (taken ++ [c]) (rs ++ [mvRow c nk vd z i T2 T3]) := by
  have fresh : ∀ r ∈ rs, r.1.1 ≠ .tup [.text (oneS c), nk] := fun r hr e => by
    obtain ⟨x, hx, y, ey⟩ := h.keys r hr
    rw [ey] at e
    have e1 : oneS x = oneS c := by
      injection e with e
      injection e with e
      injection e
    have : x = c := by
      have := congrArg codeS e1
      exact this
    exact new (this ▸ hx)
  have nn : MD.look (rs.map (·.1)) (.tup [.text (oneS c), nk]) = none := MD.look_none fun j y hj => by
    obtain ⟨r, hr, rfl⟩ := List.mem_map.mp (List.mem_of_getElem? hj)
    exact fresh r hr
  obtain ⟨vd1, vk, vok, vdep⟩ := view_dv (K := K) (H := hids S H) hv
  have fits := List.all_eq_true.mp signs_fit c hc
  rw [Bool.and_eq_true, Bool.and_eq_true, Bool.and_eq_true, Bool.and_eq_true] at fits
  have kf : fitK (.tuple [.str (oneS c), vd]) = true := by
    rcases hv with ⟨_, rfl, _⟩ | ⟨i, _, rfl, _, g0, g1⟩
    · exact fits.1.1.1.2
    · have : i = 0 ∨ i = 1 := by omega
      rcases this with rfl | rfl
      · exact fits.1.1.2
      · exact fits.1.2
  have sameM : Same (hids S H) (hids S (upd H m (dM w m ((rs ++ [mvRow c nk vd z i T2 T3]).map (·.1))))) := (KeepS.mut hm).hids
  refine ⟨?_, ?_⟩
  · unfold MD.put
    rw [nn, if_neg (by simp), List.map_append]
    rfl
  refine ⟨upd_same, RowsX.same ⟨?_, ?_, ?_, ?_, ?_⟩ sameM, ?_, ?_, ?_⟩
  · rw [List.map_append]
    intro q hq
    rcases List.mem_append.mp hq with hq | hq
    · exact h.ok.ks q hq
    · rw [List.mem_singleton.mp hq]
      refine ⟨.tup e3 (.cons (.atom rfl) (.cons vk .nil)), ?_⟩
      rcases hv with ⟨_, _, rfl⟩ | ⟨i, _, _, rfl, _⟩ <;> (show 1 ≤ 8; decide)
  · rw [List.map_append, List.map_append, List.nodup_append]
    refine ⟨h.ok.nd, by simp, fun a ha b hb => ?_⟩
    obtain ⟨q, hq, rfl⟩ := List.mem_map.mp ha
    obtain ⟨r, hr, rfl⟩ := List.mem_map.mp hq
    rw [List.mem_singleton.mp hb]
    exact fresh r hr
  · rw [List.length_append]
    have := h.len
    show rs.length + 1 ≤ 1000
    omega
  · intro r hr
    rcases List.mem_append.mp hr with hr | hr
    · exact h.ok.dat r hr
    · rw [List.mem_singleton.mp hr]
      exact ⟨.tup e3 (.cons (.str _) (.cons vd1 .nil)), .tup e2 (.cons (.str _) (.cons (.int _) .nil))⟩
  · intro r hr
    rcases List.mem_append.mp hr with hr | hr
    · exact h.ok.small r hr
    · rw [List.mem_singleton.mp hr]
      obtain ⟨f1, f2⟩ := fitK_ok kf
      refine ⟨f2, ?_, f1⟩
      show PyData.bulkAll [.str z, .int i] ≤ 10000
      rw [PyData.bulkAll, PyData.bulkAll, PyData.bulkAll]
      have := str_bulk lz
      have : (PyData.int i).bulk ≤ 10 := by show 0 ≤ 10; decide
      omega
  · intro r hr
    rcases List.mem_append.mp hr with hr | hr
    · exact h.good r hr
    · rw [List.mem_singleton.mp hr]
      show (isSignD (.str (oneS c)) && isViewD views vd && ((sgAll z && decide (z.length ≤ 2)) && (decide (0 ≤ i) && decide (i ≤ size - 1)))) = true
      rw [fits.2, vok, hz, decide_eq_true lz, decide_eq_true h0, decide_eq_true (by omega)]
      rfl
  · intro r hr
    rcases List.mem_append.mp hr with hr | hr
    · obtain ⟨x, hx, y⟩ := h.keys r hr
      exact ⟨x, List.mem_append_left _ hx, y⟩
    · rw [List.mem_singleton.mp hr]
      exact ⟨c, List.mem_append_right _ (List.mem_singleton.mpr rfl), nk, rfl⟩
  · rw [List.length_append, List.length_append]
    exact Nat.succ_le_succ h.len
end K0
end
/-! ### NKD -/
section
set_option Elab.async false
set_option linter.all false
set_option maxRecDepth 100000
set_option maxHeartbeats 4000000
/-! Data as keys; a row more, or another value in a row. -/
namespace K0
open PySem PySem.Spec PyProof.Rows L2
open MD (dM KeysV KeyV)
mutual
def nkD : PyData → Option MD.NK
  | .none => some .none
  | .bool b => some (.num (if b = true then 1 else 0))
  | .int i => some (.num i)
  | .str x => some (.text x)
  | .tuple ds => (nkDs ds).map .tup
  | _ => none
def nkDs : List PyData → Option (List MD.NK)
  | [] => some []
  | d :: ds => match nkD d, nkDs ds with
    | some k, some ks => some (k :: ks)
    | _, _ => none
end
mutual
theorem dv_key {K : PySem.W.Frag} {H : Hp} : ∀ (d : PyData) (v : V) (k : MD.NK), Dv K H v d → nkD d = some k → KeyV K H v k
  | .none, _, _, h, e => by cases h; rw [nkD] at e; cases e; exact .atom rfl
  | .bool b, _, _, h, e => by cases h; rw [nkD] at e; cases e; exact .atom rfl
  | .int i, _, _, h, e => by cases h; rw [nkD] at e; cases e; exact .atom rfl
  | .str x, _, _, h, e => by cases h; rw [nkD] at e; cases e; exact .atom rfl
  | .tuple ds, _, _, h, e => by
    rw [nkD] at e
    obtain ⟨ks, e1, rfl⟩ := Option.map_eq_some_iff.mp e
    cases h with
    | tup h1 h2 => exact .tup h1 (dv_keys ds _ ks h2 e1)
  | .list _, _, _, _, e => by rw [nkD] at e <;> first | cases e | simp
  | .dict _, _, _, _, e => by rw [nkD] at e <;> first | cases e | simp
theorem dv_keys {K : PySem.W.Frag} {H : Hp} : ∀ (ds : List PyData) (vs : List V) (ks : List MD.NK), DvAll K H vs ds → nkDs ds = some ks → MD.KeyVs K H vs ks
  | [], _, _, h, e => by cases h; rw [nkDs] at e; cases e; exact .nil
  | d :: ds, _, _, h, e => by
    rw [nkDs] at e
    cases h with
    | cons h1 h2 =>
      split at e
      · rename_i k ks e1 e2
        cases e
        exact .cons (dv_key d _ k h1 e1) (dv_keys ds _ ks h2 e2)
      · cases e
end
theorem RowsX.put {K : PySem.W.Frag} {H : Hp} {rs : List RX} {k : MD.NK} {kv vv : V} {kd vd : PyData} (h : RowsX K H rs) (hk : KeyV K H kv k) (dk : k.depth ≤ 8) (hkd : Dv K H kv kd) (hvd : Dv K H vv vd) (fk : fitK kd = true) (bv : vd.bulk ≤ 10000) (few : rs.length < 1000) :
    ∃ rs' : List RX, rs'.map (fun x : RX => x.1) = MD.put (rs.map (fun x : RX => x.1)) k kv vv ∧ RowsX K H rs' ∧ rs'.length ≤ rs.length + 1 := by
  obtain ⟨f1, f2⟩ := fitK_ok fk
  by_cases e : (MD.look (rs.map (fun x : RX => x.1)) k).isSome = true
  · refine ⟨rs.map fun r => if r.1.1 = k then ((r.1.1, r.1.2.1, vv), r.2.1, vd) else r, ?_, ⟨?_, ?_, ?_, ?_, ?_⟩, ?_⟩
    · unfold MD.put
      rw [if_pos e, List.map_map, List.map_map]
      refine List.map_congr_left fun r _ => ?_
      show (if r.1.1 = k then ((r.1.1, r.1.2.1, vv), r.2.1, vd) else r).1 = if r.1.1 = k then (r.1.1, r.1.2.1, vv) else r.1
      split <;> rfl
    · intro p hp
      obtain ⟨r, hr, rfl⟩ := List.mem_map.mp hp
      obtain ⟨q, hq, rfl⟩ := List.mem_map.mp hr
      have z := h.ks q.1 (List.mem_map.mpr ⟨q, hq, rfl⟩)
      by_cases c : q.1.1 = k
      · rw [if_pos c]; exact z
      · rw [if_neg c]; exact z
    · have z : (rs.map fun r => if r.1.1 = k then ((r.1.1, r.1.2.1, vv), r.2.1, vd) else r).map (fun x : RX => x.1.1) = rs.map (fun x : RX => x.1.1) := by
        rw [List.map_map]
        refine List.map_congr_left fun r _ => ?_
        show (if r.1.1 = k then ((r.1.1, r.1.2.1, vv), r.2.1, vd) else r).1.1 = r.1.1
        split <;> rfl
      have y := h.nd
      rw [List.map_map] at y ⊢
      show ((rs.map fun r => if r.1.1 = k then ((r.1.1, r.1.2.1, vv), r.2.1, vd) else r).map (fun x : RX => x.1.1)).Nodup
      rw [z]
      exact y
    · rw [List.length_map]; exact h.few
    · intro r hr
      obtain ⟨q, hq, rfl⟩ := List.mem_map.mp hr
      by_cases c : q.1.1 = k
      · rw [if_pos c]; exact ⟨(h.dat q hq).1, hvd⟩
      · rw [if_neg c]; exact h.dat q hq
    · intro r hr
      obtain ⟨q, hq, rfl⟩ := List.mem_map.mp hr
      by_cases c : q.1.1 = k
      · rw [if_pos c]; exact ⟨(h.small q hq).1, bv, (h.small q hq).2.2⟩
      · rw [if_neg c]; exact h.small q hq
    · rw [List.length_map]; omega
  · have fresh : ∀ r ∈ rs, r.1.1 ≠ k := fun r hr c => e (by
      obtain ⟨i, hi⟩ := List.mem_iff_getElem?.mp hr
      rw [← c, MD.look_some h.nd h.nd (show (rs.map (fun x : RX => x.1))[i]? = some r.1 by rw [List.getElem?_map, hi]; rfl)]
      rfl)
    refine ⟨rs ++ [((k, kv, vv), kd, vd)], ?_, ⟨?_, ?_, ?_, ?_, ?_⟩, ?_⟩
    · unfold MD.put
      rw [if_neg e, List.map_append]
      rfl
    · rw [List.map_append]
      intro q hq
      rcases List.mem_append.mp hq with hq | hq
      · exact h.ks q hq
      · rw [List.mem_singleton.mp hq]
        exact ⟨hk, dk⟩
    · rw [List.map_append, List.map_append, List.nodup_append]
      refine ⟨h.nd, by simp, fun a ha b hb => ?_⟩
      obtain ⟨q, hq, rfl⟩ := List.mem_map.mp ha
      obtain ⟨r, hr, rfl⟩ := List.mem_map.mp hq
      rw [List.mem_singleton.mp hb]
      exact fresh r hr
    · rw [List.length_append]
      show rs.length + 1 ≤ 1000
      omega
    · intro r hr
      rcases List.mem_append.mp hr with hr | hr
      · exact h.dat r hr
      · rw [List.mem_singleton.mp hr]; exact ⟨hkd, hvd⟩
    · intro r hr
      rcases List.mem_append.mp hr with hr | hr
      · exact h.small r hr
      · rw [List.mem_singleton.mp hr]; exact ⟨f2, bv, f1⟩
    · rw [List.length_append]; exact Nat.le_refl _
end K0
end
/-! ### JX -/
section
set_option Elab.async false
set_option linter.all false
set_option maxRecDepth 100000
set_option maxHeartbeats 4000000
/-! The draws' promises and the tuples' rules under names that do not unfold. -/
namespace K0.J
open PySem PySem.Spec PyProof.Rows L2
@[irreducible] def spOne (K : PySem.W.Frag) : Sp := K0.spOne K
@[irreducible] def spRoll : Sp := K0.spRoll
@[irreducible] def spMixed (K : PySem.W.Frag) : Sp := K0.spMixed K
@[irreducible] def spLWord (K : PySem.W.Frag) : Sp := K0.spLWord K
@[irreducible] def rRepA (K : PySem.W.Frag) : R2 := K0.rRepA K
@[irreducible] def rCatA (K : PySem.W.Frag) : R2 := L2.rCatA K
@[irreducible] def rSlA (K : PySem.W.Frag) : V → Option Int → Option Int → Hp → VK → Prop := L2.rSlA K
theorem spOne_eq (K : PySem.W.Frag) : spOne K = K0.spOne K := by unfold spOne; rfl
theorem spRoll_eq : spRoll = K0.spRoll := by unfold spRoll; rfl
theorem spMixed_eq (K : PySem.W.Frag) : spMixed K = K0.spMixed K := by unfold spMixed; rfl
theorem spLWord_eq (K : PySem.W.Frag) : spLWord K = K0.spLWord K := by unfold spLWord; rfl
theorem rRepA_eq (K : PySem.W.Frag) : rRepA K = K0.rRepA K := by unfold rRepA; rfl
theorem rCatA_eq (K : PySem.W.Frag) : rCatA K = L2.rCatA K := by unfold rCatA; rfl
theorem rSlA_eq (K : PySem.W.Frag) : rSlA K = L2.rSlA K := by unfold rSlA; rfl
theorem op_repA {X : Cx} : OpR X (binaryOp .Mult) (rRepA X.K) := by rw [rRepA_eq]; exact K0.op_repA
theorem op_catA {X : Cx} : OpR X (binaryOp .Add) (rCatA X.K) := by rw [rCatA_eq]; exact L2.op_catA
theorem sl_tupA {X : Cx} : SlR X (rSlA X.K) := by rw [rSlA_eq]; exact L2.sl_tupA
theorem roll_at {p : Addr} {H : Hp} {t : Int} {Q : VK} {E : XK} (d : Dice p H) (h1 : 1 ≤ t) (h2 : t ≤ 1000) (q : ∀ r, 0 ≤ r → r < t → ∀ H', Keep p H H' → Q (.int r) H') : spRoll [.ref p, .int t] H Q E := by
  rw [spRoll_eq]
  exact K0.roll_at d h1 h2 q
theorem one_at {K : PySem.W.Frag} {p : Addr} {H : Hp} {v : V} {xs : List V} {Q : VK} {E : XK} (d : Dice p H) (hs : Its K (hid p H) v xs) (ne : xs ≠ []) (sz : xs.length ≤ 1000) (q : ∀ x ∈ xs, ∀ H', Keep p H H' → Q x H') : spOne K [.ref p, v] H Q E := by
  rw [spOne_eq]
  exact K0.one_at d hs ne sz q
theorem one_new {K : PySem.W.Frag} {p l : Addr} {H : Hp} {xs : List V} {Q : VK} {E : XK} (d : Dice p H) (nl : H l = none) (ne : xs ≠ []) (sz : xs.length ≤ 1000) (q : ∀ x ∈ xs, ∀ H', Keep p H H' → Q x H') : spOne K [.ref p, .ref l] (upd H l (.lst xs)) Q E := by
  rw [spOne_eq]
  exact K0.one_new d nl ne sz q
section
variable {P : Program} {w : World} {K : PySem.W.Frag} {mg : Str → Option Value} {base : Heap} {CX : CXT} {k : Nat} {f : Addr} {fd : FuncData} {ps : List Str}
theorem one (F : FnOk P w K mg base CX k f fd ps (K0.spOne K)) : FnOk P w K mg base CX k f fd ps (spOne K) := by rw [spOne_eq]; exact F
theorem roll (F : FnOk P w K mg base CX k f fd ps K0.spRoll) : FnOk P w K mg base CX k f fd ps spRoll := by rw [spRoll_eq]; exact F
theorem mixed (F : FnOk P w K mg base CX k f fd ps (K0.spMixed K)) : FnOk P w K mg base CX k f fd ps (spMixed K) := by rw [spMixed_eq]; exact F
theorem lword (F : FnOk P w K mg base CX k f fd ps (K0.spLWord K)) : FnOk P w K mg base CX k f fd ps (spLWord K) := by rw [spLWord_eq]; exact F
end
end K0.J
end
/-! ### OD -/
section
set_option Elab.async false
set_option linter.all false
set_option maxRecDepth 100000
set_option maxHeartbeats 4000000
/-! Displays told over a heap that is there; _law_odd, _law_spoilt_move. -/
namespace K0
open PySem PySem.Spec PyProof.Rows L2
section
variable {K : PySem.W.Frag} {p : Addr} {σ : L2.St} {H0 : Hp}
def EvB (K : PySem.W.Frag) (p : Addr) (H0 : Hp) (σ : L2.St) (te : TE) (d : PyData) : Prop := ∀ H Q, Dice p H → Same (hid p H0) (hid p H) → (∀ x H', Same H H' → Dv K (hid p H') x d → Q x H') → te σ H Q
def EvBs (K : PySem.W.Frag) (p : Addr) (H0 : Hp) (σ : L2.St) (ta : TA) (ds : List PyData) : Prop := ∀ H Q, Dice p H → Same (hid p H0) (hid p H) → (∀ xs H', Same H H' → DvAll K (hid p H') xs ds → Q xs H') → ta σ H Q
theorem evb_of {te : TE} {d : PyData} (h : Ev1 K p σ te d) : EvB K p H0 σ te d := fun H Q D _ q => h H Q D q
theorem same_hid2 {H H' : Hp} (s : Same H H') : Same (hid p H) (hid p H') := hid_same fun b o _ z => s b o z
theorem evb_var {i : Nat} {v : V} {d : PyData} (e : σ[i]? = some (some v)) (h : Dv K (hid p H0) v d) : EvB K p H0 σ (tVar i) d := fun H Q D s q => ⟨v, e, q v H (Same.refl H) (h.same' s)⟩
theorem evb_less {i : Nat} {n m : Int} (e : σ[i]? = some (some (.int n))) : EvB K p H0 σ (tOp (rI0 fun i j => .int (i - j)) (tVar i) (tC (.int m))) (.int (n - m)) := fun H Q D s q => ⟨_, e, n, m, rfl, rfl, q _ H (Same.refl H) (.int _)⟩
theorem evb_nil : EvBs K p H0 σ tNil [] := fun H Q _ _ q => q _ H (Same.refl H) .nil
theorem evb_cons {te : TE} {ta : TA} {d : PyData} {ds : List PyData} (h : EvB K p H0 σ te d) (g : EvBs K p H0 σ ta ds) : EvBs K p H0 σ (tCons te ta) (d :: ds) := fun H Q D s q =>
  h H _ D s fun x H1 e1 v1 => g H1 _ (D.same e1) (s.trans (same_hid2 e1)) fun xs H2 e2 v2 => q _ H2 (e1.trans e2) (.cons (v1.same (same_hid2 e2)) v2)
theorem evb_tup {ta : TA} {ds : List PyData} (g : EvBs K p H0 σ ta ds) (hl : ds.length ≤ 1000) : EvB K p H0 σ (tTup ta) (.tuple ds) := fun H Q D s q =>
  g H _ D s fun xs H1 e1 v1 => ⟨by rw [v1.length]; exact Nat.le_of_lt (small1000 hl), fun a na => q _ _ (e1.trans (same_upd na)) (.tup (xs := xs) (.of (by rw [hid_ne ((D.same e1).ne na), upd_same])) (v1.same (same_hid2 (same_upd na))))⟩
theorem evb_lst {ta : TA} {ds : List PyData} (g : EvBs K p H0 σ ta ds) (hl : ds.length ≤ 1000) : EvB K p H0 σ (tLst ta) (.list ds) := fun H Q D s q =>
  g H _ D s fun xs H1 e1 v1 => ⟨by rw [v1.length]; exact Nat.le_of_lt (small1000 hl), fun a na => q _ _ (e1.trans (same_upd na)) (.lst (xs := xs) (.of (by rw [hid_ne ((D.same e1).ne na), upd_same])) (v1.same (same_hid2 (same_upd na))))⟩
/-- a list display, read -/
theorem rd_lstB {H : Hp} {Q : VK} {ta : TA} {ds : List PyData} (ev : EvBs K p H0 σ ta ds) (D0 : Dice p H) (s : Same (hid p H0) (hid p H)) (hl : ds.length ≤ 1000) (k : ∀ xs H1 l, Same H H1 → DvAll K (hid p H1) xs ds → H1 l = none → Q (.ref l) (upd H1 l (.lst xs))) : tLst ta σ H Q :=
  ev H _ D0 s fun xs H1 e1 v1 => ⟨by rw [v1.length]; exact Nat.le_of_lt (small1000 hl), fun l n => k xs H1 l e1 v1 n⟩
theorem ev_dictS {k z : Str} : Ev1 K p σ (tDisp [(tC (.str k), tC (.str z))]) (.dict [(.str k, .str z)]) := fun H Q D q => fun a na => by
  refine ⟨upd_same, [(.inr k, .str z)], rfl, (by show 1 ≤ 15; decide), ?_⟩
  rw [upd_upd]
  exact q _ _ (same_upd na) (.dic (kvs := [(.inr k, .str z)]) (by rw [hid_ne (D.ne na), upd_same]; rfl) rfl (.cons (.str z) .nil))
end
theorem sq_asg {te : TE} {i : Nat} {u : TS} {D : Ends} {σ : L2.St} {H : Hp} (h : te σ H fun x H1 => u D (σ.set i (some x)) H1) : tSeq (tAsg te (gName i)) u D σ H := h
def odd1 : List PyData := [.none, .bool true, .bool false, .int 0, .int 1, .int (-1), .int (10 ^ Int.toNat 30), .tuple [], .list [], .dict [], .str "a b", .str "h", .str "\n", .tuple [.str "a"], .list [.str "a"], .dict [(.str "a", .str "a")], .str "A"]
def odd2 : List PyData := [.str "abc", .tuple [.str "a", .int 0], .tuple [.str "", .int 0], .tuple [.dict [], .int 0], .tuple [.dict [], .int 0, .str ""], .tuple [.tuple []], .tuple [.int 0], .tuple [.none]]
theorem odd_small : ((odd1 ++ odd2).all fun d => decide (d.bulk ≤ 100)) = true := by decide +kernel
theorem scOdd : FnScope ["dice", "some"] ["dice"] (defScope (top iOdd)) := ⟨rfl, rfl, rfl, by decide +kernel, rfl, by decide +kernel, by decide +kernel⟩
theorem scSMove : FnScope ["dice", "size", "odd", "some"] ["dice", "size"] (defScope (top iSMove)) := ⟨rfl, rfl, rfl, by decide +kernel, rfl, by decide +kernel, by decide +kernel⟩
def spOdd (K : PySem.W.Frag) : Sp := fun vs H Q _ => ∃ p : Addr, vs = [.ref p] ∧ Dice p H ∧ ∀ H' x d, Keep p H H' → Dv K (hid p H') x d → d.bulk ≤ 100 → Q x H'
def spSMove (K : PySem.W.Frag) : Sp := fun vs H Q _ => ∃ (p : Addr) (n : Int), vs = [.ref p, .int n] ∧ Dice p H ∧ ∀ H' x d, Keep p H H' → Dv K (hid p H') x d → d.bulk ≤ 1000 → Q x H'
/-- one of a list whose items are known data -/
theorem one_data {K : PySem.W.Frag} {p l : Addr} {H : Hp} {xs : List V} {ds : List PyData} {Q : VK} {E : XK} (d : Dice p H) (hl : H l = some (.lst xs)) (lp : l ≠ p) (dv : DvAll K (hid p H) xs ds) (ne : ds ≠ []) (sz : ds.length ≤ 1000)
    (q : ∀ x dd H', dd ∈ ds → Keep p H H' → Dv K (hid p H') x dd → Q x H') : spOne K [.ref p, .ref l] H Q E := by
  have ll := dv.length
  refine one_at d (.inl ⟨l, rfl, .inl (.of (by rw [hid_ne lp]; exact hl))⟩) (fun z => ne (by rw [z] at ll; exact List.eq_nil_of_length_eq_zero ll.symm)) (by omega) fun x mx H' k => ?_
  obtain ⟨i, hi⟩ := List.mem_iff_getElem?.mp mx
  obtain ⟨dd, hd, hv⟩ := dv.get hi
  exact q x dd H' (List.mem_of_getElem? hd) k (hv.same' (hid_keep k))
namespace J
theorem one_data {K : PySem.W.Frag} {p l : Addr} {H : Hp} {xs : List V} {ds : List PyData} {Q : VK} {E : XK} (d : Dice p H) (hl : H l = some (.lst xs)) (lp : l ≠ p) (dv : DvAll K (hid p H) xs ds) (ne : ds ≠ []) (sz : ds.length ≤ 1000)
    (q : ∀ x dd H', dd ∈ ds → Keep p H H' → Dv K (hid p H') x dd → Q x H') : spOne K [.ref p, .ref l] H Q E := by
  rw [spOne_eq]
  exact K0.one_data d hl lp dv ne sz q
@[irreducible] def spSMove (K : PySem.W.Frag) : Sp := K0.spSMove K
theorem spSMove_eq (K : PySem.W.Frag) : spSMove K = K0.spSMove K := by unfold spSMove; rfl
theorem smove {P : Program} {w : World} {K : PySem.W.Frag} {mg : Str → Option Value} {base : Heap} {CX : CXT} {k : Nat} {f : Addr} {fd : FuncData} {ps : List Str} (F : FnOk P w K mg base CX k f fd ps (K0.spSMove K)) : FnOk P w K mg base CX k f fd ps (spSMove K) := by rw [spSMove_eq]; exact F
section
variable {P : Program} {w : World} {K : PySem.W.Frag} {mg : Str → Option Value} {base : Heap} {f fO fD : Addr} {fd fdO fdD : FuncData}
theorem ok_odd {k : Nat} (F : FnP K "_law_odd" iOdd f fd) (FO : FnOk P w K mg base CX0 (k + 2) fO fdO ["dice", "items"] (spOne K)) (gO : mg "_law_one_of" = some (.ref fO)) (kO : PySem.W.keepIn K (.ref fO) = true) (bO : Binds K fdO ["dice", "items"] []) :
    FnOk P w K mg base CX0 (k + 3) f fd ["dice"] (spOdd K) := by
  refine F.ok scOdd (fun vs H Q E h => ?_) (fun cdv A outer s H vs Q E hr h => ?_)
  · obtain ⟨p, rfl, _⟩ := h
    rfl
  · obtain ⟨p, rfl, D0, q⟩ := h
    refine ⟨_, PSs.nox (pss_cons (ps_set (i := 1) scOdd.nd rfl (.inl rfl) (pe_lst (pa_cons pe_non (pa_cons pe_bl (pa_cons pe_bl (pa_cons pe_int (pa_cons pe_int (pa_cons (pe_un un_neg pe_int) (pa_cons (pe_op op_powBits pe_int pe_int) (pa_cons (pe_tup pa_nil) (pa_cons (pe_lst pa_nil) (pa_cons pe_dnewK (pa_cons pe_str (pa_cons pe_str (pa_cons pe_str (pa_cons (pe_tup (pa_cons pe_str pa_nil)) (pa_cons (pe_lst (pa_cons pe_str pa_nil)) (pa_cons (pe_disp (pps_cons pe_str pe_str pps_nil) rfl rfl (by simp) (by decide)) (pa_cons pe_str pa_nil)))))))))))))))))))
      (pss_one (ps_ret (pe_call FO hr (by rfl) gO kO bO .nil pass0 (pa_cons (pv 0) (pa_cons (pe_op op_cat (pv 1) (pe_lst (pa_cons pe_str (pa_cons (pe_tup (pa_cons pe_str (pa_cons pe_int pa_nil))) (pa_cons (pe_tup (pa_cons pe_str (pa_cons pe_int pa_nil))) (pa_cons (pe_tup (pa_cons pe_dnewK (pa_cons pe_int pa_nil))) (pa_cons (pe_tup (pa_cons pe_dnewK (pa_cons pe_int (pa_cons pe_str pa_nil)))) (pa_cons (pe_tup (pa_cons (pe_tup pa_nil) pa_nil)) (pa_cons (pe_tup (pa_cons pe_int pa_nil)) (pa_cons (pe_tup (pa_cons pe_non pa_nil)) pa_nil)))))))))) pa_nil)))))), ?_⟩
    refine sq_asg (rd_lstB (H0 := H) (ds := odd1) (p := p) (K := K) (evb_cons (evb_of ev_non) (evb_cons (evb_of ev_bl) (evb_cons (evb_of ev_bl) (evb_cons (evb_of ev_int) (evb_cons (evb_of ev_int) (evb_cons (evb_of ev_neg) (evb_cons (evb_of (ev_pow ⟨by decide, by decide +kernel⟩)) (evb_cons (evb_tup evb_nil (by decide)) (evb_cons (evb_lst evb_nil (by decide)) (evb_cons (evb_of ev_dict0) (evb_cons (evb_of ev_str) (evb_cons (evb_of ev_str) (evb_cons (evb_of ev_str) (evb_cons (evb_tup (evb_cons (evb_of ev_str) evb_nil) (by decide)) (evb_cons (evb_lst (evb_cons (evb_of ev_str) evb_nil) (by decide)) (evb_cons (evb_of ev_dictS) (evb_cons (evb_of ev_str) evb_nil))))))))))))))))) D0 (Same.refl _) (by decide) fun xs1 H1 l1 e1 v1 n1 => ?_)
    have s1 : Same H (upd H1 l1 (.lst xs1)) := e1.trans (same_upd n1)
    refine ⟨_, rfl, _, rfl, rd_lstB (H0 := H) (ds := odd2) (p := p) (K := K) (evb_cons (evb_of ev_str) (evb_cons (evb_tup (evb_cons (evb_of ev_str) (evb_cons (evb_of ev_int) evb_nil)) (by decide)) (evb_cons (evb_tup (evb_cons (evb_of ev_str) (evb_cons (evb_of ev_int) evb_nil)) (by decide)) (evb_cons (evb_tup (evb_cons (evb_of ev_dict0) (evb_cons (evb_of ev_int) evb_nil)) (by decide)) (evb_cons (evb_tup (evb_cons (evb_of ev_dict0) (evb_cons (evb_of ev_int) (evb_cons (evb_of ev_str) evb_nil))) (by decide)) (evb_cons (evb_tup (evb_cons (evb_tup evb_nil (by decide)) evb_nil) (by decide)) (evb_cons (evb_tup (evb_cons (evb_of ev_int) evb_nil) (by decide)) (evb_cons (evb_tup (evb_cons (evb_of ev_non) evb_nil) (by decide)) evb_nil)))))))) (D0.same s1) (same_hid2 s1) (by decide) fun xs2 H2 l2 e2 v2 n2 => ?_⟩
    have s2 : Same (upd H1 l1 (.lst xs1)) (upd H2 l2 (.lst xs2)) := e2.trans (same_upd n2)
    have hlen : (xs1 ++ xs2).length = 25 := by rw [List.length_append, v1.length, v2.length]; rfl
    refine ⟨l1, l2, xs1, xs2, rfl, rfl, s2 _ _ upd_same, upd_same, by rw [← List.length_append, hlen]; decide, fun l3 n3 => ?_⟩
    have s3 : Same (upd H2 l2 (.lst xs2)) (upd (upd H2 l2 (.lst xs2)) l3 (.lst (xs1 ++ xs2))) := same_upd n3
    have s123 := (s1.trans s2).trans s3
    have V1 := v1.same (same_hid2 (((same_upd n1).trans s2).trans s3))
    have V2 := v2.same (same_hid2 ((same_upd n2).trans s3))
    refine one_data (D0.same s123) upd_same ((D0.same (s1.trans s2)).ne n3) (V1.append V2) (by decide) (by decide) fun x dd H' md k hv => q H' x dd ⟨fun b o n e => k.1 b o n (s123 b o e), k.2⟩ hv (of_decide_eq_true (List.all_eq_true.mp odd_small dd md))
theorem ok_smove {k : Nat} (F : FnP K "_law_spoilt_move" iSMove f fd) (FO : FnOk P w K mg base CX0 (k + 3) fO fdO ["dice", "items"] (spOne K)) (gO : mg "_law_one_of" = some (.ref fO)) (kO : PySem.W.keepIn K (.ref fO) = true) (bO : Binds K fdO ["dice", "items"] [])
    (FD : FnOk P w K mg base CX0 (k + 3) fD fdD ["dice"] (spOdd K)) (gD : mg "_law_odd" = some (.ref fD)) (kD : PySem.W.keepIn K (.ref fD) = true) (bD : Binds K fdD ["dice"] []) :
    FnOk P w K mg base CX0 (k + 4) f fd ["dice", "size"] (K0.spSMove K) := by
  refine F.ok scSMove (fun vs H Q E h => ?_) (fun cdv A outer s H vs Q E hr h => ?_)
  · obtain ⟨p, n, rfl, _⟩ := h
    rfl
  · obtain ⟨p, n, rfl, D0, q⟩ := h
    refine ⟨_, PSs.nox (C8.pss_cut (ps_set (i := 2) scSMove.nd rfl (.inl rfl) (pe_call FD hr (by rfl) gD kD bD .nil pass0 (pa_cons (pv 0) pa_nil)))
      (pss_cons (ps_set (i := 3) scSMove.nd rfl (.inl rfl) (pe_lst (pa_cons (pe_tup (pa_cons pe_str (pa_cons (pv 1) pa_nil))) (pa_cons (pe_tup (pa_cons pe_str (pa_cons (pe_un un_neg pe_int) pa_nil))) (pa_cons (pe_tup (pa_cons pe_str (pa_cons pe_int pa_nil))) (pa_cons (pe_tup (pa_cons pe_str (pa_cons (pe_op op_sub (pv 1) pe_int) pa_nil))) (pa_cons (pe_tup (pa_cons pe_str (pa_cons pe_bl pa_nil))) (pa_cons (pe_tup (pa_cons pe_str (pa_cons pe_non pa_nil))) (pa_cons (pe_tup (pa_cons pe_str pa_nil)) (pa_cons (pe_tup (pa_cons pe_str (pa_cons pe_int (pa_cons pe_int pa_nil)))) pa_nil))))))))))
      (pss_cons (ps_set (i := 3) scSMove.nd rfl (.inl rfl) (pe_op op_cat (pv 3) (pe_lst (pa_cons (pe_lst (pa_cons pe_str (pa_cons pe_int pa_nil))) (pa_cons (pv 2) (pa_cons (pe_tup (pa_cons (pv 2) (pa_cons pe_int pa_nil))) (pa_cons (pe_tup (pa_cons pe_str (pa_cons (pv 2) pa_nil))) (pa_cons (pe_tup (pa_cons pe_non (pa_cons pe_int pa_nil))) (pa_cons pe_str (pa_cons (pe_tup (pa_cons pe_str (pa_cons pe_int pa_nil))) (pa_cons (pe_tup (pa_cons pe_int (pa_cons pe_str pa_nil))) pa_nil)))))))))))
      (pss_one (ps_ret (pe_call FO hr (by rfl) gO kO bO .nil pass0 (pa_cons (pv 0) (pa_cons (pv 3) pa_nil)))))))), ?_⟩
    refine ⟨fun σ' H1 => ∃ vo d, σ' = [some (.ref p), some (.int n), some vo, none] ∧ Keep p H H1 ∧ Dv K (hid p H1) vo d ∧ d.bulk ≤ 100, ⟨_, rfl, p, rfl, D0, fun H1 vo d k1 hvo bo => ⟨vo, d, rfl, k1, hvo, bo⟩⟩, ?_⟩
    rintro σ1 H1 ⟨vo, d, rfl, k1, hvo, bo⟩
    obtain ⟨mv1, hmv1⟩ : ∃ mv1 : List PyData, mv1 = [.tuple [.str "a", .int n], .tuple [.str "a", .int (-1)], .tuple [.str "abc", .int 0], .tuple [.str "ab", .int (n - 1)], .tuple [.str "a", .bool true], .tuple [.str "a", .none], .tuple [.str "a"], .tuple [.str "a", .int 0, .int 0]] := ⟨_, rfl⟩
    refine sq_asg (rd_lstB (H0 := H1) (ds := mv1) (p := p) (K := K) ?_ k1.2 (Same.refl _) (by rw [hmv1]; show 8 ≤ 1000; decide) fun xs1 H2 l1 e1 v1 n1 => ?_)
    · rw [hmv1]
      exact (evb_cons (evb_tup (evb_cons (evb_of ev_str) (evb_cons (evb_var (by rfl) (.int n)) evb_nil)) (by show 2 ≤ 1000; decide)) (evb_cons (evb_tup (evb_cons (evb_of ev_str) (evb_cons (evb_of ev_neg) evb_nil)) (by decide)) (evb_cons (evb_tup (evb_cons (evb_of ev_str) (evb_cons (evb_of ev_int) evb_nil)) (by decide)) (evb_cons (evb_tup (evb_cons (evb_of ev_str) (evb_cons (evb_less (by rfl)) evb_nil)) (by show 2 ≤ 1000; decide)) (evb_cons (evb_tup (evb_cons (evb_of ev_str) (evb_cons (evb_of ev_bl) evb_nil)) (by decide)) (evb_cons (evb_tup (evb_cons (evb_of ev_str) (evb_cons (evb_of ev_non) evb_nil)) (by decide)) (evb_cons (evb_tup (evb_cons (evb_of ev_str) evb_nil) (by decide)) (evb_cons (evb_tup (evb_cons (evb_of ev_str) (evb_cons (evb_of ev_int) (evb_cons (evb_of ev_int) evb_nil))) (by decide)) evb_nil))))))))
    have s1 : Same H1 (upd H2 l1 (.lst xs1)) := e1.trans (same_upd n1)
    obtain ⟨mv2, hmv2⟩ : ∃ mv2 : List PyData, mv2 = [.list [.str "a", .int 0], d, .tuple [d, .int 0], .tuple [.str "a", d], .tuple [.none, .int 0], .str "a", .tuple [.str "", .int 0], .tuple [.int 0, .str "a"]] := ⟨_, rfl⟩
    refine sq_asg ⟨_, rfl, rd_lstB (H0 := H1) (ds := mv2) (p := p) (K := K) ?_ (Dice.same k1.2 s1) (same_hid2 s1) (by rw [hmv2]; show 8 ≤ 1000; decide) fun xs2 H3 l2 e2 v2 n2 => ?_⟩
    · rw [hmv2]
      exact (evb_cons (evb_lst (evb_cons (evb_of ev_str) (evb_cons (evb_of ev_int) evb_nil)) (by decide)) (evb_cons (evb_var (by rfl) hvo) (evb_cons (evb_tup (evb_cons (evb_var (by rfl) hvo) (evb_cons (evb_of ev_int) evb_nil)) (by show 2 ≤ 1000; decide)) (evb_cons (evb_tup (evb_cons (evb_of ev_str) (evb_cons (evb_var (by rfl) hvo) evb_nil)) (by show 2 ≤ 1000; decide)) (evb_cons (evb_tup (evb_cons (evb_of ev_non) (evb_cons (evb_of ev_int) evb_nil)) (by decide)) (evb_cons (evb_of ev_str) (evb_cons (evb_tup (evb_cons (evb_of ev_str) (evb_cons (evb_of ev_int) evb_nil)) (by decide)) (evb_cons (evb_tup (evb_cons (evb_of ev_int) (evb_cons (evb_of ev_str) evb_nil)) (by decide)) evb_nil))))))))
    have s2 : Same (upd H2 l1 (.lst xs1)) (upd H3 l2 (.lst xs2)) := e2.trans (same_upd n2)
    have hlen : (xs1 ++ xs2).length = 16 := by rw [List.length_append, v1.length, v2.length, hmv1, hmv2]; rfl
    refine ⟨l1, l2, xs1, xs2, rfl, rfl, s2 _ _ upd_same, upd_same, by rw [← List.length_append, hlen]; decide, fun l3 n3 => ?_⟩
    have s3 : Same (upd H3 l2 (.lst xs2)) (upd (upd H3 l2 (.lst xs2)) l3 (.lst (xs1 ++ xs2))) := same_upd n3
    have s123 := (s1.trans s2).trans s3
    have V1 := v1.same (same_hid2 (((same_upd n1).trans s2).trans s3))
    have V2 := v2.same (same_hid2 ((same_upd n2).trans s3))
    have dvl := (V1.append V2).length
    have smalls : ∀ dd ∈ mv1 ++ mv2, dd.bulk ≤ 1000 := by
      intro dd hd
      rw [hmv1, hmv2] at hd
      simp only [List.mem_append, List.mem_cons, List.not_mem_nil, or_false] at hd
      rcases hd with (rfl | rfl | rfl | rfl | rfl | rfl | rfl | rfl) | (rfl | rfl | rfl | rfl | rfl | rfl | rfl | rfl)
      · show 3 ≤ 1000; decide
      · show 3 ≤ 1000; decide
      · show 5 ≤ 1000; decide
      · show 4 ≤ 1000; decide
      · show 3 ≤ 1000; decide
      · show 3 ≤ 1000; decide
      · show 2 ≤ 1000; decide
      · show 4 ≤ 1000; decide
      · show 3 ≤ 1000; decide
      · omega
      · show d.bulk + 1 + (0 + 1 + 0) ≤ 1000; omega
      · show 1 + 1 + (d.bulk + 1 + 0) ≤ 1000; omega
      · show 2 ≤ 1000; decide
      · show 1 ≤ 1000; decide
      · show 2 ≤ 1000; decide
      · show 3 ≤ 1000; decide
    refine ⟨_, rfl, _, rfl, one_data (Dice.same k1.2 s123) upd_same (Dice.ne (Dice.same k1.2 (s1.trans s2)) n3) (V1.append V2) (fun z => by rw [z] at dvl; rw [hlen] at dvl; cases dvl) (by rw [← dvl, hlen]; decide) fun x dd H' md k hv => q H' x dd ⟨fun b o n e => k.1 b o n (s123 b o (k1.1 b o n e)), k.2⟩ hv (smalls dd md)⟩
end
end J
end K0
end
/-! ### WC2 -/
section
set_option Elab.async false
set_option linter.all false
set_option maxRecDepth 100000
set_option maxHeartbeats 4000000
namespace K0
open PySem PySem.Spec PyProof.Rows L2
open MD (dM KeysV KeyV)
theorem notin {H : Hp} {t : Addr} {S : List Addr} (n : H t = none) (h : ∀ b ∈ S, ∃ o, H b = some o) : t ∉ S := fun m => by
  obtain ⟨o, e⟩ := h t m
  rw [e] at n
  cases n
theorem Dice.at {p : Addr} {H : Hp} (d : Dice p H) : ∃ o, H p = some o := let ⟨a, b, c, e⟩ := d; ⟨_, e⟩
theorem Dice.new {p q : Addr} {H : Hp} {o : HO} (d : Dice p H) (n : H q = none) : Dice p (upd H q o) := d.same (same_upd n)
theorem lword_at {K : PySem.W.Frag} {p sg : Addr} {cs : List Nat} {H : Hp} {Q : VK} {E : XK} (d : Dice p H) (hT : SqT K (hid p H) sg (cs.map oneV)) (ne : cs ≠ []) (l3 : cs.length ≤ 15) (mem : ∀ c ∈ cs, c ∈ allSigns.cps.toList) (q : ∀ z H', Keep p H H' → sgAll z = true → z.length ≤ 2 → Q (.str z) H') : spLWord K [.ref p, .ref sg, .int 2] H Q E := by
  obtain ⟨a, b, c, e⟩ := d
  exact ⟨p, sg, a, b, c, cs, rfl, e, hT, ne, l3, mem, fun H' z k h1 h2 => q z H' k h1 h2⟩
theorem mixed_at {K : PySem.W.Frag} {p q0 : Addr} {xs : List V} {H : Hp} {Q : VK} {E : XK} (d : Dice p H) (hs : SqL K H q0 xs) (sz : xs.length ≤ 1000) (q : ∀ H' l ys, Keep p H H' → ys.Perm xs → H' l = some (.lst ys) → l ≠ p → Q (.ref l) H') : spMixed K [.ref p, .ref q0] H Q E := by
  obtain ⟨a, b, c, e⟩ := d
  exact ⟨p, a, b, c, q0, xs, rfl, e, hs, sz, q⟩
theorem sqt_hid {K : PySem.W.Frag} {p a : Addr} {H H' : Hp} {xs : List V} (k : KeepS [p] H H') (h : SqT K (hid p H) a xs) : SqT K (hid p H') a xs := same_tup hid_hids (same_tup k.hids (same_tup hids_hid h))
theorem ps_mputK {X : Cx} {K : PySem.W.Frag} {w : World} {o i value : Expr} {pos pos' : Pos} {td ty tv : TE} (eK : X.K = K) (ew : X.w = w) (hu : X.A.units + 64 < cLine) (ho : PE X o td) (hi : PE X i ty) (hv : PE X value tv) (hs : swapsWith value (some (.Subscript o i pos')) pos.line X.env = pure false) :
    PS X (.Assign [.Subscript o i pos'] value pos) (MD.sMPut K w td ty tv) := by
  subst eK ew
  exact MD.ps_mput hu ho hi hv hs
theorem call_mdictK {X : Cx} {K : PySem.W.Frag} {w : World} (eK : X.K = K) (ew : X.w = w) (hc : X.calm = true) (hu : X.A.units + 64 < cLine) : CallR X (.type "dict") (MD.rMDict K w) := by
  subst eK ew
  exact MD.call_mdict hc hu
/-- states drawn so far, in a list -/
def RowsIn (K : PySem.W.Frag) (w : World) (S : List Addr) (n : Nat) (g : StD → Bool) (H : Hp) (R : Addr) (k : Nat) : Prop := ∃ xs ws, H R = some (.lst xs) ∧ ws.length = k ∧ Paired (StX K w (hids S H) n) xs ws ∧ ∀ s ∈ ws, g s = true
section
variable {P : Program} {w : World} {K : PySem.W.Frag} {mg : Str → Option Value} {base : Heap} {f fR fO fM fW : Addr} {fd fdR fdO fdM fdW : FuncData}
def lkRow (q : Nat × Int) : RX := ((.text (oneS q.1), oneV q.1, .int q.2), .str (oneS q.1), .int q.2)
theorem oneS_inj {c e : Nat} (h : oneS c = oneS e) : c = e := congrArg codeS h
theorem lkRows {K : PySem.W.Frag} {H : Hp} {vw : Int} {ps : List (Nat × Int)} (nd : (ps.map (·.1)).Nodup) (few : ps.length ≤ 100) (mem : ∀ q ∈ ps, q.1 ∈ allSigns.cps.toList) (num : ∀ q ∈ ps, 0 ≤ q.2 ∧ q.2 < vw) :
    RowsX K H (ps.map lkRow) ∧ ((ps.map lkRow).all fun r => isSignD r.2.1 && isNumD 0 (vw - 1) r.2.2) = true := by
  refine ⟨⟨fun r hr => ?_, ?_, by rw [List.length_map]; omega, fun r hr => ?_, fun r hr => ?_⟩, List.all_eq_true.mpr fun r hr => ?_⟩
  · obtain ⟨x, hx, rfl⟩ := List.mem_map.mp hr
    obtain ⟨q, hq, rfl⟩ := List.mem_map.mp hx
    exact ⟨.atom rfl, by show 0 ≤ 8; decide⟩
  · rw [List.map_map, List.map_map]
    have e : ((fun x : MD.Row => x.1) ∘ (fun x : RX => x.1) ∘ lkRow) = (fun c => (.text (oneS c) : MD.NK)) ∘ (fun q : Nat × Int => q.1) := rfl
    have z : (ps.map (((fun x : MD.Row => x.1) ∘ (fun x : RX => x.1) ∘ lkRow))).Nodup := by
      rw [e, ← List.map_map]
      refine List.Pairwise.map _ (fun a b h z => h ?_) nd
      injection z with z
      exact oneS_inj z
    exact z
  · obtain ⟨q, hq, rfl⟩ := List.mem_map.mp hr
    exact ⟨.str _, .int _⟩
  · obtain ⟨q, hq, rfl⟩ := List.mem_map.mp hr
    have fits := List.all_eq_true.mp signs_fit q.1 (mem q hq)
    rw [Bool.and_eq_true, Bool.and_eq_true, Bool.and_eq_true, Bool.and_eq_true] at fits
    obtain ⟨f1, f2⟩ := fitK_ok fits.1.1.1.1
    exact ⟨f2, by show 0 ≤ 10000; decide, f1⟩
  · obtain ⟨q, hq, rfl⟩ := List.mem_map.mp hr
    have fits := List.all_eq_true.mp signs_fit q.1 (mem q hq)
    rw [Bool.and_eq_true] at fits
    obtain ⟨n0, n1⟩ := num q hq
    show (isSignD (.str (oneS q.1)) && (decide (0 ≤ q.2) && decide (q.2 ≤ vw - 1))) = true
    rw [fits.2, decide_eq_true n0, decide_eq_true (by omega)]
    rfl
namespace J
theorem lword_at {K : PySem.W.Frag} {p sg : Addr} {cs : List Nat} {H : Hp} {Q : VK} {E : XK} (d : Dice p H) (hT : SqT K (hid p H) sg (cs.map oneV)) (ne : cs ≠ []) (l3 : cs.length ≤ 15) (mem : ∀ c ∈ cs, c ∈ allSigns.cps.toList) (q : ∀ z H', Keep p H H' → sgAll z = true → z.length ≤ 2 → Q (.str z) H') : spLWord K [.ref p, .ref sg, .int 2] H Q E := by
  rw [spLWord_eq]
  exact K0.lword_at d hT ne l3 mem q
theorem mixed_at {K : PySem.W.Frag} {p q0 : Addr} {xs : List V} {H : Hp} {Q : VK} {E : XK} (d : Dice p H) (hs : SqL K H q0 xs) (sz : xs.length ≤ 1000) (q : ∀ H' l ys, Keep p H H' → ys.Perm xs → H' l = some (.lst ys) → l ≠ p → Q (.ref l) H') : spMixed K [.ref p, .ref q0] H Q E := by
  rw [spMixed_eq]
  exact K0.mixed_at d hs sz q
set_option maxHeartbeats 8000000 in
theorem ok_wild {k : Nat} (F : FnP K "_law_wild_cleaner" iWild f fd) (mlist : mg "list" = none) (mrange : mg "range" = none) (mdict : mg "dict" = none)
    (FR : FnOk P w K mg base CX0 (k + 3) fR fdR ["dice", "total"] spRoll) (gR : mg "_law_roll" = some (.ref fR)) (kR : PySem.W.keepIn K (.ref fR) = true) (bR : Binds K fdR ["dice", "total"] [])
    (FO : FnOk P w K mg base CX0 (k + 3) fO fdO ["dice", "items"] (spOne K)) (gO : mg "_law_one_of" = some (.ref fO)) (kO : PySem.W.keepIn K (.ref fO) = true) (bO : Binds K fdO ["dice", "items"] [])
    (FM : FnOk P w K mg base CX0 (k + 3) fM fdM ["dice", "items"] (spMixed K)) (gM : mg "_law_mixed" = some (.ref fM)) (kM : PySem.W.keepIn K (.ref fM) = true) (bM : Binds K fdM ["dice", "items"] [])
    (FW : FnOk P w K mg base CX0 (k + 3) fW fdW ["dice", "signs", "upto"] (spLWord K)) (gW : mg "_law_word" = some (.ref fW)) (kW : PySem.W.keepIn K (.ref fW) = true) (bW : Binds K fdW ["dice", "signs", "upto"] []) :
    FnOk P w K mg base CX0 (k + 4) f fd ["dice", "signs"] (spWild K w) := by
  refine F.ok scWild (fun vs H Q E h => ?_) (fun cdv A outer s H vs Q E hr h => ?_)
  · obtain ⟨p, sg, cs, rfl, _⟩ := h
    rfl
  · obtain ⟨p, sg, cs, rfl, d0, hT, nd, ne, l3, mem, q⟩ := h
    refine ⟨_, PSs.nox (C8.pss_cut (ps_asg (pe_tup (pa_cons (pe_call FO hr (by rfl) gO kO bO .nil pass0 (pa_cons (pv 0) (pa_cons (pe_lst (pa_cons pe_int (pa_cons pe_int (pa_cons pe_int pa_nil)))) pa_nil)))
          (pa_cons (pe_op op_add pe_int (pe_call FR hr (by rfl) gR kR bR .nil pass0 (pa_cons (pv 0) (pa_cons pe_int pa_nil)))) (pa_cons (pe_lst pa_nil) pa_nil)))) (pg_tup rfl (pgs_cons (pg_name (i := 2) scWild.nd rfl (.inr rfl)) (pgs_cons (pg_name (i := 3) scWild.nd rfl (.inr rfl)) (pgs_cons (pg_name (i := 4) scWild.nd rfl (.inl rfl)) pgs_nil)))))
      (C8.pss_cut (ps_for PassesOwn.never rfl (pi_range1 (by rfl) mrange (pa_cons (pv 3) pa_nil)) (pg_name (i := 5) scWild.nd rfl (.inl rfl))
        (pss_cons (ps_set (i := 6) scWild.nd rfl (.inl rfl) MD.pe_mnew)
        (C8.pss_cut (ps_for PassesOwn.never rfl (pi_list (pe_call FM hr (by rfl) gM kM bM .nil pass0 (pa_cons (pv 0) (pa_cons (pe_callTy call_list_of (by rfl) mlist (by decide +kernel) (pa_cons (pv 1) pa_nil)) pa_nil)))) (pg_name (i := 7) scWild.nd rfl (.inl rfl))
          (pss_one (ps_if (pt_cmpR op_eq (pe_call FR hr (by rfl) gR kR bR .nil pass0 (pa_cons (pv 0) (pa_cons pe_int pa_nil))) pe_int (nomark _))
            (pss_cons (ps_set (i := 8) scWild.nd rfl (.inl rfl) (pe_call FO hr (by rfl) gO kO bO .nil pass0 (pa_cons (pv 0) (pa_cons (pe_op op_cat (pe_lst (pa_cons pe_non pa_nil)) (pe_callTy (call_list_r12 rfl) (by rfl) mlist (by decide +kernel) (pa_cons (pe_callTy cr_range1 (by rfl) mrange (by decide +kernel) (pa_cons (pv 2) pa_nil)) pa_nil))) pa_nil))))
            (pss_cons (ps_set (i := 9) scWild.nd rfl (.inl rfl) (pe_lst (pa_cons pe_str (pa_cons pe_str (pa_cons (pv 7) (pa_cons (pe_call FW hr (by rfl) gW kW bW .nil pass0 (pa_cons (pv 0) (pa_cons (pv 1) (pa_cons pe_int pa_nil)))) pa_nil))))))
            (pss_one (ps_mputK (K := K) (w := w) rfl rfl hr.units (pv 6) (pe_tup (pa_cons (pv 7) (pa_cons (pv 8) pa_nil))) (pe_tup (pa_cons (pe_call FO hr (by rfl) gO kO bO .nil pass0 (pa_cons (pv 0) (pa_cons (pv 9) pa_nil))) (pa_cons (pe_call FR hr (by rfl) gR kR bR .nil pass0 (pa_cons (pv 0) (pa_cons (pv 3) pa_nil))) pa_nil))) rfl)))) pss_nil)))
        (pss_one (ps_expr (pe_bm PySem.F.plainAttrs_list PySem.F.slot_list_append PySem.F.type_list_append mt_append (pv 4) (pa_cons (pe_tup (pa_cons (pv 6) (pa_cons (pe_call FR hr (by rfl) gR kR bR .nil pass0 (pa_cons (pv 0) (pa_cons (pv 3) pa_nil)))
          (pa_cons (pe_call FO hr (by rfl) gO kO bO .nil pass0 (pa_cons (pv 0) (pa_cons (pe_lst (pa_cons pe_str (pa_cons pe_str (pa_cons pe_str (pa_cons (pe_call FW hr (by rfl) gW kW bW .nil pass0 (pa_cons (pv 0) (pa_cons (pv 1) (pa_cons pe_int pa_nil)))) pa_nil))))) pa_nil))) pa_nil)))) pa_nil)))))))
      (pss_cons (ps_set (i := 10) scWild.nd rfl (.inl rfl) (pe_lst pa_nil))
      (C8.pss_cut (ps_for PassesOwn.never rfl (pi_range1 (by rfl) mrange (pa_cons (pv 2) pa_nil)) (pg_name (i := 8) scWild.nd rfl (.inl rfl))
        (C8.pss_cut (ps_setLc (i := 11) (own := [("sign", 7)]) (g := gName 7) (te := tVar 7) (by rfl) scWild.nd rfl rfl (sw_true rfl rfl rfl rfl) (pi_tup (pv 1)) (blkOk_by (N := wiN) (sc := defScope (top iWild)) (by decide +kernel))
          (fun _ _ _ _ _ => pg_name (i := 7) scWild.nd rfl (Or.inl rfl)) (fun _ _ _ _ _ => pts_one (pt_cmpR op_eq (pe_call FR hr (by rfl) gR kR bR .nil pass0 (pa_cons (pv 0) (pa_cons pe_int pa_nil))) pe_int (nomark _))) (fun _ _ _ _ _ => pv 7))
        (pss_one (ps_expr (pe_bm PySem.F.plainAttrs_list PySem.F.slot_list_append PySem.F.type_list_append mt_append (pv 10) (pa_cons (pe_tup (pa_cons (pe_callTy (call_mdictK (K := K) (w := w) rfl rfl rfl hr.units) (by rfl) mdict (by decide +kernel) (pa_cons
            (pe_lc (own := [("sign", 7)]) (g := gName 7) (tt := tYes) rfl scWild.nd (pi_list (pv 11)) (blkOk_by (N := wiN) (sc := defScope (top iWild)) (by decide +kernel))
              (fun _ _ _ _ _ => pg_name (i := 7) scWild.nd rfl (Or.inl rfl)) (fun _ _ _ _ _ => pts_nil) (fun _ _ _ _ _ => pe_tup (pa_cons (pv 7) (pa_cons (pe_call FR hr (by rfl) gR kR bR .nil pass0 (pa_cons (pv 0) (pa_cons (pv 2) pa_nil))) pa_nil)))) pa_nil))
          (pa_cons (pe_call FR hr (by rfl) gR kR bR .nil pass0 (pa_cons (pv 0) (pa_cons (pv 2) pa_nil))) pa_nil))) pa_nil))))))
      (C8.pss_cut (ps_setLc (i := 12) (own := [("view", 8)]) (g := gName 8) (tt := tYes) (by rfl) scWild.nd rfl rfl (sw_true rfl rfl rfl rfl) (pi_range1 (by rfl) mrange (pa_cons (pv 2) pa_nil)) (blkOk_by (N := wiN) (sc := defScope (top iWild)) (by decide +kernel))
          (fun _ _ _ _ _ => pg_name (i := 8) scWild.nd rfl (Or.inl rfl)) (fun _ _ _ _ _ => pts_nil) (fun _ _ _ _ _ => pe_call FO hr (by rfl) gO kO bO .nil pass0 (pa_cons (pv 0) (pa_cons (pe_lst (pa_cons pe_int (pa_cons pe_int (pa_cons pe_int (pa_cons pe_int (pa_cons
            (pe_call FR hr (by rfl) gR kR bR .nil pass0 (pa_cons (pv 0) (pa_cons (pv 3) pa_nil))) (pa_cons pe_non pa_nil))))))) pa_nil))))
      (pss_one (ps_ret (pe_tup (pa_cons (pv 4) (pa_cons (pv 10) (pa_cons (pv 12) pa_nil)))))))))))
      , ?_⟩
    have sl : sizeLine = 16777216 := sizeLine_eq
    have kh0 : Keep p H H := d0.keep
    -- views, size, rows
    refine ⟨fun σ' H' => ∃ (vw : Int) (n : Nat) (R : Addr) (H2 : Hp), σ' = [some (.ref p), some (.ref sg), some (.int vw), some (.int (n : Nat)), some (.ref R), none, none, none, none, none, none, none, none] ∧ (vw = 1 ∨ vw = 2) ∧ 1 ≤ n ∧ n ≤ 3 ∧ Keep p H H2 ∧ H2 R = none ∧ Same (upd H2 R (.lst [])) H', ?_, ?_⟩
    · refine ⟨_, rfl, by show 3 ≤ sizeLine; omega, fun l nl => one_new d0 nl (by simp) (by decide) fun x mx H1 k1 => ?_⟩
      obtain ⟨vw, rfl, hv⟩ : ∃ vw : Int, x = .int vw ∧ (vw = 1 ∨ vw = 2) := by
        simp only [List.mem_cons, List.not_mem_nil, or_false] at mx
        rcases mx with rfl | rfl | rfl
        · exact ⟨1, rfl, .inl rfl⟩
        · exact ⟨1, rfl, .inl rfl⟩
        · exact ⟨2, rfl, .inr rfl⟩
      refine ⟨_, rfl, roll_at k1.2 (by decide) (by decide) fun r r0 r1 H2 k2 => ⟨_, _, rfl, rfl, by show 0 ≤ sizeLine; omega, fun R nR => ?_⟩⟩
      refine ⟨by show 3 ≤ sizeLine; omega, fun T nT => ⟨T, _, rfl, .of upd_same, rfl, _, _, rfl, _, _, rfl, _, _, rfl, rfl, vw, (1 + r).toNat, R, H2, ?_, hv, by omega, by omega, k1.trans k2, nR, same_upd nT⟩⟩
      rw [show (((1 + r).toNat : Nat) : Int) = 1 + r by omega]
      rfl
    rintro σ1 H1 ⟨vw, n, R, H2, rfl, hv, n1, n3, k2, nR, s1⟩
    have hR1 : H1 R = some (.lst []) := s1 _ _ upd_same
    have kS1 : KeepS [p] H2 H1 := .same ((same_upd nR).trans s1)
    have d2 : Dice p H2 := k2.2
    have d1 : Dice p H1 := (d2.new nR).same s1
    have Rp : R ≠ p := fun z => by
      obtain ⟨a, b, c, e⟩ := d2
      rw [z, e] at nR
      cases nR
    -- the rows
    refine ⟨fun σ' H' => ∃ x5 x6 x7 x8 x9, σ' = [some (.ref p), some (.ref sg), some (.int vw), some (.int (n : Nat)), some (.ref R), x5, x6, x7, x8, x9, none, none, none] ∧ Dice p H' ∧ KeepS [p] H2 H' ∧ RowsIn K w [p, R] 3 (fun s => wStD n vw s && fewB s) H' R n, ?_, ?_⟩
    · refine ⟨_, rfl, _, rfl, by omega, by omega, for_it (walk_range (lo := 0) (n := ((n : Nat) : Int).toNat)) (fun i σ' H' => ∃ x5 x6 x7 x8 x9, σ' = [some (.ref p), some (.ref sg), some (.int vw), some (.int (n : Nat)), some (.ref R), x5, x6, x7, x8, x9, none, none, none] ∧ Dice p H' ∧ KeepS [p] H2 H' ∧ RowsIn K w [p, R] 3 (fun s => wStD n vw s && fewB s) H' R i)
        ⟨none, none, none, none, none, rfl, d1, kS1, [], [], hR1, rfl, .nil, fun _ m => nomatch m⟩ (fun _ _ _ _ _ => trivial) (fun i x σ' H'0 H' hi hP hY => ?_) (fun σ' H' hP => ?_)⟩
      · obtain ⟨x5, x6, x7, x8, x9, rfl, d3, k3, xs, ws, hR, wl, hPr, gd⟩ := hP
        obtain ⟨rfl, rfl⟩ := hY
        intro m nm
        have Rm : m ≠ R := (ne_of_none hR nm).symm
        have pm : m ≠ p := fun z => by
          obtain ⟨a, b, c, e⟩ := d3
          rw [z, e] at nm
          cases nm
        have s3 := same_upd (o := dM w m []) nm
        have d3' := d3.same s3
        -- the moves
        refine ⟨fun σ' Hx => ∃ x7 x8 x9, σ' = [some (.ref p), some (.ref sg), some (.int vw), some (.int (n : Nat)), some (.ref R), some (.int (0 + (i : Nat))), some (.ref m), x7, x8, x9, none, none, none] ∧ Dice p Hx ∧ KeepS [p] H' Hx ∧ ∃ rs tk, MovesAt K w Hx [p, m, R] m n vw tk rs ∧ tk.length ≤ 3, ?_, ?_⟩
        · refine ⟨_, rfl, _, rfl, sg, _, rfl, .inr (same_tup hid_out (sqt_hid ((k2.s (List.mem_singleton.mpr rfl)).trans (k3.trans (.same s3))) hT)), fun q0 nq => mixed_at (d3'.new nq) (.of upd_same) (by rw [List.length_map]; omega) fun H4 l ys k4 pm' el nlp => ⟨l, rfl, ⟨ys, .of el⟩, ?_⟩⟩
          obtain ⟨cs2, pc, rfl⟩ := perm_codes (f := oneV) (g := codeV) (fun c => rfl) pm'
          have cl := pc.length_eq
          have s4 : Same (upd H' m (dM w m [])) (upd (upd H' m (dM w m [])) q0 (.lst (cs.map oneV))) := same_upd nq
          have m4 : H4 m = some (dM w m []) := k4.1 _ _ pm (s4 _ _ upd_same)
          have nlm : l ≠ m := fun z => by
            rw [z, m4] at el
            cases el
          have kH4 : KeepS [p] H' H4 := (KeepS.same (s3.trans s4)).trans (k4.s (List.mem_singleton.mpr rfl))
          refine for_it (walk_list (xs := cs2.map oneV)) (fun j σ' Hj => ∃ x7 x8 x9, σ' = [some (.ref p), some (.ref sg), some (.int vw), some (.int (n : Nat)), some (.ref R), some (.int (0 + (i : Nat))), some (.ref m), x7, x8, x9, none, none, none] ∧ Dice p Hj ∧ KeepS [p, m] H4 Hj ∧ ∃ rs, MovesAt K w Hj [p, m, R] m n vw (cs2.take j) rs)
            ⟨x7, x8, x9, rfl, k4.2, KeepS.refl _ _, [], m4, ⟨fun _ z => (nomatch z), List.nodup_nil, by decide, fun _ z => (nomatch z), fun _ z => (nomatch z)⟩, fun _ z => (nomatch z), fun _ z => (nomatch z), Nat.zero_le _⟩ (fun j σ' Hj _ hP => ?_) (fun j x σ' Hj Hj' hj hP hY => ?_) (fun σ' Hj hP => ?_)
          · obtain ⟨_, _, _, _, _, kj, _⟩ := hP
            exact .of (kj _ _ (by simp [nlp, nlm]) el)
          · obtain ⟨y7, y8, y9, rfl, dj, kj, rs, mv⟩ := hP
            obtain ⟨rfl, hx⟩ := hY
            rw [List.getElem?_map] at hx
            obtain ⟨c, hc, rfl⟩ := Option.map_eq_some_iff.mp hx
            have mc : c ∈ allSigns.cps.toList := mem c (pc.mem_iff.mp (List.mem_of_getElem? hc))
            have tk : cs2.take (j + 1) = cs2.take j ++ [c] := by rw [List.take_add_one, hc]; rfl
            have newc : c ∉ cs2.take j := fun z => by
              have nd2 := pc.nodup_iff.mpr nd
              obtain ⟨i2, hi2⟩ := List.mem_iff_getElem?.mp z
              have lt := (List.getElem?_eq_some_iff.mp hi2).1
              rw [List.length_take] at lt
              rw [List.getElem?_take_of_lt (by omega)] at hi2
              have := (List.getElem?_inj (List.getElem?_eq_some_iff.mp hi2).1 nd2).mp (hi2.trans hc.symm)
              omega
            have hRj : ∃ o, Hj' R = some o := ⟨_, kj _ _ (by simp [Rm.symm, Rp]) (kH4 _ _ (by simp [Rp]) hR)⟩
            refine ⟨_, rfl, roll_at dj (by decide) (by decide) fun r r0 r1 H5 k5 => ⟨rfl, _, rfl, ite2 (fun e => ?_) (fun e => ?_)⟩⟩
            · refine ⟨_, rfl, by show 1 ≤ sizeLine; omega, fun l1 nl1 => ⟨_, rfl, vw, rfl, fun rg nrg => ⟨rg, vw, rfl, upd_same, hv, fun l2 nl2 => ?_⟩⟩⟩
              have a1 := k5.new2 (o := .lst [.non]) nl1
              have a2 := a1.new2 (o := .rng 0 vw) nrg
              have a3 := a2.new2 (o := .lst (r12 vw)) nl2
              have e1 : upd (upd (upd H5 l1 (.lst [.non])) rg (.rng 0 vw)) l2 (.lst (r12 vw)) l1 = some (.lst [.non]) := by
                rw [upd_ne (ne_of_none (by rw [upd_ne (ne_of_none upd_same nrg), upd_same]) nl2), upd_ne (ne_of_none upd_same nrg), upd_same]
              have rl : (r12 vw).length ≤ 2 := by rcases hv with rfl | rfl <;> decide
              refine ⟨l1, l2, _, _, rfl, rfl, e1, upd_same, by show 1 + _ ≤ sizeLine; omega, fun q1 nq1 => one_new a3.2 nq1 (by simp) (by rw [List.length_append]; show 1 + _ ≤ 1000; omega) fun vv mvv H6 k6 => ?_⟩
              obtain ⟨vd, nk, hview⟩ : ∃ vd nk, ViewV vw vv vd nk := by
                rcases List.mem_append.mp mvv with z | z
                · rw [List.mem_singleton.mp z]
                  exact ⟨_, _, .inl ⟨rfl, rfl, rfl⟩⟩
                · rcases hv with rfl | rfl
                  · have z : vv ∈ [V.int 0] := z
                    rw [List.mem_singleton.mp z]
                    exact ⟨_, _, .inr ⟨0, rfl, rfl, rfl, by decide, by decide⟩⟩
                  · have z : vv ∈ [V.int 0, V.int 1] := z
                    simp only [List.mem_cons, List.not_mem_nil, or_false] at z
                    rcases z with rfl | rfl
                    · exact ⟨_, _, .inr ⟨0, rfl, rfl, rfl, by decide, by decide⟩⟩
                    · exact ⟨_, _, .inr ⟨1, rfl, rfl, rfl, by decide, by decide⟩⟩
              have a4 := a3.trans k6
              have kj' : KeepS [p, m] H' Hj' := (kH4.more (by simp)).trans kj
              have tHj : KeepS [p] H' Hj' := KeepS.new (m := m) (kj'.more (by simp)) nm
              have hT6 : SqT K (hid p H6) sg (cs.map oneV) := sqt_hid ((k2.s (List.mem_singleton.mpr rfl)).trans (k3.trans (tHj.trans (a4.s (List.mem_singleton.mpr rfl))))) hT
              refine ⟨_, rfl, _, rfl, _, rfl, lword_at a4.2 hT6 ne (by omega) mem fun wd H7 k7 sg7 l7 => ⟨by show 4 ≤ sizeLine; omega, fun L nL => ?_⟩⟩
              have a5 := a4.trans k7
              have a6 := a5.new2 (o := .lst [.str "", .str "", oneV c, .str wd]) nL
              have Lp : L ≠ p := fun z => by
                obtain ⟨a, b, c, e⟩ := a5.2
                rw [z, e] at nL
                cases nL
              refine ⟨_, rfl, _, rfl, one_at (xs := [.str "", .str "", oneV c, .str wd]) a6.2 (.inl ⟨L, rfl, .inl (.of (by rw [hid_ne Lp]; exact upd_same))⟩) (by simp) (by show 4 ≤ 1000; decide) fun zv mz H8 k8 => ?_⟩
              obtain ⟨z, rfl, hz, lz⟩ : ∃ z : Str, zv = .str z ∧ sgAll z = true ∧ z.length ≤ 2 := by
                simp only [List.mem_cons, List.not_mem_nil, or_false] at mz
                rcases mz with rfl | rfl | rfl | rfl
                · exact ⟨_, rfl, by decide +kernel, by decide⟩
                · exact ⟨_, rfl, by decide +kernel, by decide⟩
                · exact ⟨_, rfl, sg_one mc, by show 1 ≤ 2; decide⟩
                · exact ⟨_, rfl, sg7, l7⟩
              have a7 := a6.trans k8
              refine ⟨_, rfl, _, rfl, roll_at a7.2 (by omega) (by omega) fun r2 g0 g1 H9 k9 => ⟨by show 2 ≤ sizeLine; omega, fun T2 nT2 => ⟨_, rfl, _, rfl, _, rfl, by show 2 ≤ sizeLine; omega, fun T3 nT3 => ?_⟩⟩⟩
              have a8 := a7.trans k9
              have a9 := a8.new2 (o := .tup [.str z, .int r2]) nT2
              have a10 := a9.new2 (o := .tup [oneV c, vv]) nT3
              have inS : ∀ Hc, Keep p Hj' Hc → ∀ b ∈ [p, m, R], ∃ o, Hc b = some o := fun Hc kc b hb => by
                simp only [List.mem_cons, List.not_mem_nil, or_false] at hb
                rcases hb with rfl | rfl | rfl
                · exact Dice.at kc.2
                · exact ⟨_, kc.1 _ _ pm mv.at_⟩
                · obtain ⟨o, e⟩ := hRj
                  exact ⟨o, kc.1 _ _ Rp e⟩
              have t2 := notin nT2 (inS _ a8)
              have t3 := notin nT3 (inS _ a9)
              have mv10 : MovesAt K w _ [p, m, R] m n vw (cs2.take j) rs := mv.keep (a10.s (by simp)) ((a10.1 _ _ pm mv.at_).trans mv.at_.symm)
              have e2 : SqT K (hids [p, m, R] (upd (upd H9 T2 (.tup [.str z, .int r2])) T3 (.tup [oneV c, vv]))) T2 [.str z, .int r2] := .of (by rw [hids_of t2]; exact same_upd nT3 _ _ upd_same)
              have e3 : SqT K (hids [p, m, R] (upd (upd H9 T2 (.tup [.str z, .int r2])) T3 (.tup [oneV c, vv]))) T3 [.str (oneS c), vv] := .of (by rw [hids_of t3]; exact upd_same)
              obtain ⟨pe, mvp⟩ := MovesAt.put mv10 (by simp) mc newc hview hv hz lz g0 g1 (by omega) (by rw [List.length_take]; omega) e2 e3
              have few : (cs2.take j).length ≤ 3 := by rw [List.length_take]; omega
              have lrs := mv.len
              refine ⟨m, .tup [.text (oneS c), nk], rs.map (·.1), rfl, mv10.at_, mv10.ok.ks.same hids_out, .tup (same_tup hids_out e3) (.cons (.atom rfl) (.cons (view_dv hview).2.1 .nil)), ?_, by rw [List.length_map]; omega, ?_⟩
              · rcases hview with ⟨_, _, rfl⟩ | ⟨_, _, _, rfl, _⟩ <;> (show 1 ≤ 8; decide)
              · rw [pe, tk]
                refine ⟨_, _, _, rfl, ?_, ?_, _, mvp⟩
                · obtain ⟨a, b, c, e⟩ := a10.2
                  exact ⟨a, b, c, by rw [upd_ne pm.symm]; exact e⟩
                · exact (kj.trans (a10.s (by simp))).trans (KeepS.mut (by simp))
            · refine ⟨_, _, _, rfl, k5.2, kj.trans (k5.s (by simp)), rs, ?_⟩
              rw [tk]
              exact (mv.keep (k5.s (by simp)) ((k5.1 _ _ pm mv.at_).trans mv.at_.symm)).more c
          · obtain ⟨y7, y8, y9, rfl, dj, kj, rs, mv⟩ := hP
            exact ⟨y7, y8, y9, rfl, dj, KeepS.new (m := m) (((kH4.more (by simp)).trans kj).more (by simp)) nm, rs, _, mv, by rw [List.length_take]; omega⟩
        rintro σ4 Hx ⟨y7, y8, y9, rfl, dx, kx, rs, tk, mv, tk3⟩
        have hRx : Hx R = some (.lst xs) := kx _ _ (by simp [Rp]) hR
        have inS : ∀ Hc, Keep p Hx Hc → ∀ b ∈ [p, m, R], ∃ o, Hc b = some o := fun Hc kc b hb => by
          simp only [List.mem_cons, List.not_mem_nil, or_false] at hb
          rcases hb with rfl | rfl | rfl
          · exact Dice.at kc.2
          · exact ⟨_, kc.1 _ _ pm mv.at_⟩
          · exact ⟨_, kc.1 _ _ Rp hRx⟩
        refine ⟨_, rfl, .inl ⟨rfl, xs, .of hRx⟩, _, rfl, _, rfl, _, rfl, roll_at dx (by omega) (by omega) fun r r0 r1 H5 k5 => ?_⟩
        have hT5 : SqT K (hid p H5) sg (cs.map oneV) := sqt_hid ((k2.s (List.mem_singleton.mpr rfl)).trans (k3.trans (kx.trans (k5.s (List.mem_singleton.mpr rfl))))) hT
        refine ⟨_, rfl, _, rfl, _, rfl, lword_at k5.2 hT5 ne (by omega) mem fun wd H6 k6 sg6 l6 => ⟨by show 4 ≤ sizeLine; omega, fun L nL => one_new k6.2 nL (by simp) (by show 4 ≤ 1000; decide) fun zv mz H7 k7 => ?_⟩⟩
        obtain ⟨z, rfl, hz, lz⟩ : ∃ z : Str, zv = .str z ∧ sgAll z = true ∧ z.length ≤ 2 := by
          simp only [List.mem_cons, List.not_mem_nil, or_false] at mz
          rcases mz with rfl | rfl | rfl | rfl
          · exact ⟨_, rfl, by decide +kernel, by decide⟩
          · exact ⟨_, rfl, by decide +kernel, by decide⟩
          · exact ⟨_, rfl, by decide +kernel, by decide⟩
          · exact ⟨_, rfl, sg6, l6⟩
        have b1 := (k5.trans k6).trans k7
        refine ⟨by show 3 ≤ sizeLine; omega, fun T nT => ?_⟩
        have b2 := b1.new2 (o := .tup [.ref m, .int r, .str z]) nT
        have tT := notin nT (inS _ b1)
        have hRT := b2.1 _ _ Rp hRx
        have nTp : T ≠ R := fun e => tT (by simp [e])
        have wf : wStD n vw (.good rs [.int r, .str z] [.int r, .str z]) = true := by
          show (decide (0 ≤ r) && decide (r ≤ (n : Int) - 1) && (sgAll z && decide (z.length ≤ 2)) && rs.all fun q => isSeenD vw q.2.1 && isMoveD n q.2.2) = true
          rw [decide_eq_true r0, decide_eq_true (by omega), hz, decide_eq_true lz, show (rs.all fun q => isSeenD vw q.2.1 && isMoveD n q.2.2) = true from List.all_eq_true.mpr mv.good]
          rfl
        have kpR : KeepS [p, R] H' (upd (upd H7 T (.tup [.ref m, .int r, .str z])) R (.lst (xs ++ [.ref T]))) := ((kx.more (by simp)).trans (b2.s (by simp))).trans (KeepS.mut (by simp))
        have kpM : KeepS [p, m, R] Hx (upd (upd H7 T (.tup [.ref m, .int r, .str z])) R (.lst (xs ++ [.ref T]))) := (b2.s (by simp)).trans (KeepS.mut (by simp))
        have mRx : upd (upd H7 T (.tup [.ref m, .int r, .str z])) R (.lst (xs ++ [.ref T])) m = some (dM w m (rs.map (·.1))) := by
          rw [upd_ne Rm]
          exact b2.1 _ _ pm mv.at_
        have sub2 : ∀ b ∈ [p, R], b ∈ [p, m, R] := fun b hb => by
          simp only [List.mem_cons, List.not_mem_nil, or_false] at hb
          rcases hb with rfl | rfl <;> simp
        have st : StX K w (hids [p, R] (upd (upd H7 T (.tup [.ref m, .int r, .str z])) R (.lst (xs ++ [.ref T])))) 3 (.ref T) (.good rs [.int r, .str z] [.int r, .str z]) := by
          refine ⟨T, m, rfl, .of ?_, .cons (.int r) (.cons (.str z) .nil), rfl, ?_, (mv.ok.same kpM.hids).same (hids_sub sub2), fun dd hd => ?_⟩
          · rw [hids_of (fun e => tT (sub2 _ e)), upd_ne nTp, upd_same]
          · rw [hids_of (by simp [pm, Rm])]
            exact mRx
          · simp only [List.mem_cons, List.not_mem_nil, or_false] at hd
            rcases hd with rfl | rfl
            · show 0 ≤ 1000; decide
            · show z.length ≤ 1000; omega
        refine ⟨R, xs, .ref T, rfl, rfl, hRT, by have := MD.paired_len hPr; omega, _, _, _, _, _, rfl, ?_, KeepS.new (m := R) (((k3.trans kx).trans (b2.s (by simp))).more (by simp) |>.trans (KeepS.mut (by simp))) nR, xs ++ [.ref T], ws ++ [.good rs [.int r, .str z] [.int r, .str z]], upd_same, by rw [List.length_append, wl]; rfl, paired_snoc st (pairedI2 (fun _ _ y => y.same kpR.hids) hPr), fun s ms => ?_⟩
        · obtain ⟨a, b, c, e⟩ := b2.2
          exact ⟨a, b, c, by rw [upd_ne Rp.symm]; exact e⟩
        · rcases List.mem_append.mp ms with ms | ms
          · exact gd s ms
          · rw [List.mem_singleton.mp ms]
            show (wStD n vw (.good rs [.int r, .str z] [.int r, .str z]) && decide (rs.length ≤ 9)) = true
            rw [wf, decide_eq_true (by have := mv.len; omega)]
            rfl
      · rw [show ((n : Nat) : Int).toNat = n by omega] at hP
        exact hP
    rintro σ2 H3 ⟨x5, x6, x7, x8, x9, rfl, d3, k3, rowsR⟩
    obtain ⟨vn, rfl⟩ : ∃ vn : Nat, vw = vn := ⟨vw.toNat, by omega⟩
    obtain ⟨xsR, wsR, hR3, wl3, hP3, gd3⟩ := rowsR
    refine ⟨by show 0 ≤ sizeLine; omega, fun B nB => ?_⟩
    have Bp : B ≠ p := fun z => by
      obtain ⟨a, b, c, e⟩ := d3
      rw [z, e] at nB
      cases nB
    have RB : R ≠ B := ne_of_none hR3 nB
    have tS : ∀ {Hc : Hp}, KeepS [p] H3 Hc → SqT K (hid p Hc) sg (cs.map oneV) := fun kc => sqt_hid ((k2.s (List.mem_singleton.mpr rfl)).trans (k3.trans kc)) hT
    -- the back
    refine ⟨fun σ' H' => ∃ x5 x6 x7 x8 x9 x11, σ' = [some (.ref p), some (.ref sg), some (.int (vn : Nat)), some (.int (n : Nat)), some (.ref R), x5, x6, x7, x8, x9, some (.ref B), x11, none] ∧ Dice p H' ∧ KeepS [p] H3 H' ∧ RowsIn K w [p, B] 2 (fun s => lStD (vn : Nat) s && fewB s) H' B vn, ?_, ?_⟩
    · refine ⟨_, rfl, _, rfl, by omega, by omega, for_it (walk_range (lo := 0) (n := ((vn : Nat) : Int).toNat)) (fun i σ' H' => ∃ x5 x6 x7 x8 x9 x11, σ' = [some (.ref p), some (.ref sg), some (.int (vn : Nat)), some (.int (n : Nat)), some (.ref R), x5, x6, x7, x8, x9, some (.ref B), x11, none] ∧ Dice p H' ∧ KeepS [p] H3 H' ∧ RowsIn K w [p, B] 2 (fun s => lStD (vn : Nat) s && fewB s) H' B i)
        ⟨x5, x6, x7, x8, x9, none, rfl, d3.new nB, .same (same_upd nB), [], [], upd_same, rfl, .nil, fun _ m => nomatch m⟩ (fun _ _ _ _ _ => trivial) (fun i x σ' H'0 H' hi hP hY => ?_) (fun σ' H' hP => ?_)⟩
      · obtain ⟨y5, y6, y7, y8, y9, y11, rfl, d4, k4, ys, ls, hB, ll, hPb, gb⟩ := hP
        obtain ⟨rfl, rfl⟩ := hY
        -- the signs chosen
        refine ⟨fun σ' H5 => ∃ (L : Addr) (cs3 : List Nat), σ' = [some (.ref p), some (.ref sg), some (.int (vn : Nat)), some (.int (n : Nat)), some (.ref R), y5, y6, y7, some (.int (0 + (i : Nat))), y9, some (.ref B), some (.ref L), none] ∧ Dice p H5 ∧ KeepS [p] H' H5 ∧ H5 L = some (.lst (cs3.map oneV)) ∧ cs3.Sublist cs ∧ L ≠ p, ?_, ?_⟩
        · refine ⟨_, rfl, sg, rfl, ⟨_, same_tup hid_out (tS k4)⟩, fun D nD => lc_it (walk_tup (xs := cs.map oneV)) (fun j Hj => Dice p Hj ∧ KeepS [p] H' Hj ∧ ∃ cs3 : List Nat, Hj D = some (.lst (cs3.map oneV)) ∧ cs3.Sublist (cs.take j))
            ⟨d4.new nD, .same (same_upd nD), [], upd_same, by rw [List.take_zero]; exact List.Sublist.refl _⟩ (fun j Hj _ hP => ?_) (fun j x Hj Hj' hj hP hY => ?_) (fun Hj hP => ?_)⟩
          · exact same_tup hid_out (tS (k4.trans hP.2.1))
          · obtain ⟨dj, kj, cs3, hD, sub⟩ := hP
            obtain ⟨rfl, hx⟩ := hY
            rw [List.getElem?_map] at hx
            obtain ⟨c, hc, rfl⟩ := Option.map_eq_some_iff.mp hx
            have tk : cs.take (j + 1) = cs.take j ++ [c] := by rw [List.take_add_one, hc]; rfl
            have Dp : D ≠ p := fun z => by
              obtain ⟨a, b, c, e⟩ := d4
              rw [z, e] at nD
              cases nD
            refine ⟨rfl, _, rfl, roll_at dj (by decide) (by decide) fun r r0 r1 H6 k6 => ⟨rfl, _, rfl, ite2 (fun e => ?_) (fun e => ?_)⟩⟩
            · have lc := sub.length_le
              rw [List.length_take] at lc
              refine ⟨_, rfl, cs3.map oneV, k6.1 _ _ Dp hD, by rw [List.length_map]; exact small1000 (by omega), ?_, KeepS.new (m := D) (((kj.trans (k6.s (by simp))).more (by simp)).trans (KeepS.mut (by simp))) nD, cs3 ++ [c], by rw [upd_same, List.map_append]; rfl, by rw [tk]; exact sub.append (List.Sublist.refl _)⟩
              obtain ⟨a, b, c, e⟩ := k6.2
              exact ⟨a, b, c, by rw [upd_ne Dp.symm]; exact e⟩
            · exact ⟨k6.2, kj.trans (k6.s (by simp)), cs3, k6.1 _ _ Dp hD, by rw [tk]; exact List.Sublist.trans sub (List.sublist_append_left _ _)⟩
          · obtain ⟨dj, kj, cs3, hD, sub⟩ := hP
            rw [List.length_map, List.take_length] at sub
            refine ⟨D, cs3, rfl, dj, kj, hD, sub, fun z => ?_⟩
            obtain ⟨a, b, c, e⟩ := d4
            rw [z, e] at nD
            cases nD
        rintro σ5 H5 ⟨L, cs3, rfl, d5, k5, hL, sub, Lp⟩
        have hB5 : H5 B = some (.lst ys) := k5 _ _ (by simp [Bp]) hB
        have c3 := sub.length_le
        refine ⟨_, rfl, .inl ⟨rfl, ys, .of hB5⟩, _, rfl, L, rfl, ⟨_, .of hL⟩, fun D nD => lc_it (walk_list (xs := cs3.map oneV)) (fun j Hj => Dice p Hj ∧ KeepS [p] H5 Hj ∧ ∃ (Ts : List Addr) (ps : List (Nat × Int)), Hj D = some (.lst (Ts.map V.ref)) ∧ ps.map (·.1) = cs3.take j ∧ (∀ q ∈ ps, 0 ≤ q.2 ∧ q.2 < (vn : Nat)) ∧ Paired (fun T (q : Nat × Int) => SqT K (hids [p, D] Hj) T [oneV q.1, .int q.2]) Ts ps)
            ⟨d5.new nD, .same (same_upd nD), [], [], upd_same, rfl, (fun _ z => nomatch z), .nil⟩ (fun j Hj _ hP => ?_) (fun j x Hj Hj' hj hP hY => ?_) (fun Hj hP => ?_)⟩
        · exact .of (hP.2.1 _ _ (by simp [Lp]) hL)
        · obtain ⟨dj, kj, Ts, ps, hD, ep, num, hPt⟩ := hP
          obtain ⟨rfl, hx⟩ := hY
          rw [List.getElem?_map] at hx
          obtain ⟨c, hc, rfl⟩ := Option.map_eq_some_iff.mp hx
          have tk : cs3.take (j + 1) = cs3.take j ++ [c] := by rw [List.take_add_one, hc]; rfl
          have Dp : D ≠ p := fun z => by
            obtain ⟨a, b, c, e⟩ := d5
            rw [z, e] at nD
            cases nD
          refine ⟨rfl, _, rfl, _, rfl, _, rfl, roll_at dj (by omega) (by omega) fun r r0 r1 H6 k6 => ⟨by show 2 ≤ sizeLine; omega, fun T nT => ?_⟩⟩
          have kk := k6.new2 (o := .tup [oneV c, .int r]) nT
          have tT : T ∉ [p, D] := notin nT fun b hb => by
            simp only [List.mem_cons, List.not_mem_nil, or_false] at hb
            rcases hb with rfl | rfl
            · exact Dice.at k6.2
            · exact ⟨_, k6.1 _ _ Dp hD⟩
          have DT : T ≠ D := fun z => tT (by simp [z])
          have kS : KeepS [p, D] Hj' (upd (upd H6 T (.tup [oneV c, .int r])) D (.lst (Ts.map V.ref ++ [.ref T]))) := (kk.s (by simp)).trans (KeepS.mut (by simp))
          have lps : Ts.length ≤ 3 := by
            rw [MD.paired_len hPt, ← List.length_map (as := ps) (f := fun q => q.1), ep, List.length_take]
            omega
          refine ⟨Ts.map V.ref, kk.1 _ _ Dp hD, by rw [List.length_map]; omega, ?_, KeepS.new (m := D) (((kj.trans (kk.s (by simp))).more (by simp)).trans (KeepS.mut (by simp))) nD, Ts ++ [T], ps ++ [(c, r)], by rw [upd_same, List.map_append]; rfl, by rw [List.map_append, ep, tk]; rfl, fun q hq => ?_, paired_snoc ?_ (pairedI2 (fun _ _ y => same_tup kS.hids y) hPt)⟩
          · obtain ⟨a, b, c, e⟩ := kk.2
            exact ⟨a, b, c, by rw [upd_ne Dp.symm]; exact e⟩
          · rcases List.mem_append.mp hq with hq | hq
            · exact num q hq
            · rw [List.mem_singleton.mp hq]
              exact ⟨r0, r1⟩
          · exact .of (by rw [hids_of tT, upd_ne DT, upd_same])
        · obtain ⟨dj, kj, Ts, ps, hD, ep, num, hPt⟩ := hP
          rw [List.length_map, List.take_length] at ep
          have psm : ∀ q ∈ ps, q.1 ∈ cs := fun q hq => sub.subset (ep ▸ List.mem_map.mpr ⟨q, hq, rfl⟩)
          have psl : ps.length ≤ 3 := by rw [← List.length_map (as := ps) (f := fun q => q.1), ep]; omega
          have ndp : (ps.map (·.1)).Nodup := by rw [ep]; exact nd.sublist sub
          have er : (ps.map lkRow).map (·.1) = ps.map fun q => ((.text (oneS q.1), oneV q.1, .int q.2) : MD.Row) := by rw [List.map_map]; rfl
          have rows := lkRows (K := K) (H := Hj) (vw := (vn : Nat)) ndp (by omega) (fun q hq => mem _ (psm q hq)) num
          refine ⟨D, Ts, (ps.map lkRow).map (·.1), rfl, .of hD, ?_, rows.1.ks, rows.1.nd, fun m nm => ?_⟩
          · rw [er]
            have go : ∀ {Ts : List Addr} {ps : List (Nat × Int)}, Paired (fun T (q : Nat × Int) => SqT K (hids [p, D] Hj) T [oneV q.1, .int q.2]) Ts ps → Paired (fun T (r : MD.Row) => SqT K Hj T [r.2.1, r.2.2]) Ts (ps.map fun q => ((.text (oneS q.1), oneV q.1, .int q.2) : MD.Row)) := by
              intro Ts ps h
              induction h with
              | nil => exact .nil
              | cons h _ ih => exact .cons (same_tup hids_out h) ih
            exact go hPt
          · have sm := same_upd (o := dM w m ((ps.map lkRow).map (·.1))) nm
            have hBj : Hj B = some (.lst ys) := kj _ _ (by simp [Bp]) hB5
            refine ⟨_, rfl, _, rfl, roll_at (dj.same sm) (by omega) (by omega) fun r r0 r1 H7 k7 => ⟨by show 2 ≤ sizeLine; omega, fun T nT => ?_⟩⟩
            have kk := k7.new2 (o := .tup [.ref m, .int r]) nT
            have mp : m ≠ p := fun z => by
              obtain ⟨a, b, c, e⟩ := dj
              rw [z, e] at nm
              cases nm
            have mB : m ≠ B := (ne_of_none hBj nm).symm
            have hm7 := kk.1 _ _ mp (upd_same (H := Hj) (a := m))
            have hB7 := kk.1 _ _ Bp (sm _ _ hBj)
            have tT : T ∉ [p, B] := notin nT fun b hb => by
              simp only [List.mem_cons, List.not_mem_nil, or_false] at hb
              rcases hb with rfl | rfl
              · exact Dice.at k7.2
              · exact ⟨_, k7.1 _ _ Bp (sm _ _ hBj)⟩
            have TB : T ≠ B := fun z => tT (by simp [z])
            have kpB : KeepS [p, B] H' (upd (upd H7 T (.tup [.ref m, .int r])) B (.lst (ys ++ [.ref T]))) := (((k5.trans (kj.trans (.same sm))).trans (kk.s (by simp))).more (by simp)).trans (KeepS.mut (by simp))
            have st : StX K w (hids [p, B] (upd (upd H7 T (.tup [.ref m, .int r])) B (.lst (ys ++ [.ref T])))) 2 (.ref T) (.good (ps.map lkRow) [.int r] [.int r]) := by
              refine ⟨T, m, rfl, .of ?_, .cons (.int r) .nil, rfl, ?_, (lkRows (vw := (vn : Nat)) ndp (by omega) (fun q hq => mem _ (psm q hq)) num).1, fun dd hd => ?_⟩
              · rw [hids_of tT, upd_ne TB, upd_same]
              · rw [hids_of (by simp [mp, mB]), upd_ne mB]
                exact hm7
              · rw [List.mem_singleton.mp hd]
                show 0 ≤ 1000; decide
            refine ⟨B, ys, .ref T, rfl, rfl, hB7, by have := MD.paired_len hPb; omega, _, _, _, _, _, _, rfl, ?_, KeepS.new (m := B) (((k4.more (by simp)).trans ((((k5.trans (kj.trans (.same sm))).trans (kk.s (by simp))).more (by simp)))).trans (KeepS.mut (by simp))) nB, ys ++ [.ref T], ls ++ [.good (ps.map lkRow) [.int r] [.int r]], upd_same, by rw [List.length_append, ll]; rfl, paired_snoc st (pairedI2 (fun _ _ y => y.same kpB.hids) hPb), fun s ms => ?_⟩
            · obtain ⟨a, b, c, e⟩ := kk.2
              exact ⟨a, b, c, by rw [upd_ne Bp.symm]; exact e⟩
            · rcases List.mem_append.mp ms with ms | ms
              · exact gb s ms
              · rw [List.mem_singleton.mp ms]
                show ((decide (0 ≤ r) && decide (r ≤ ((vn : Nat) : Int) - 1) && (ps.map lkRow).all fun r => isSignD r.2.1 && isNumD 0 (((vn : Nat) : Int) - 1) r.2.2) && decide ((ps.map lkRow).length ≤ 9)) = true
                rw [decide_eq_true r0, decide_eq_true (by omega), rows.2, decide_eq_true (by rw [List.length_map]; omega)]
                rfl
      · rw [show ((vn : Nat) : Int).toNat = vn by omega] at hP
        exact hP
    rintro σ4 H4 ⟨y5, y6, y7, y8, y9, y11, rfl, d4, k4, ys, ls, hB4, ll, hPb, gb⟩
    -- the starts
    refine ⟨fun σ' H' => ∃ S zs ds, σ' = [some (.ref p), some (.ref sg), some (.int (vn : Nat)), some (.int (n : Nat)), some (.ref R), y5, y6, y7, y8, y9, some (.ref B), y11, some (.ref S)] ∧ Dice p H' ∧ KeepS [p] H4 H' ∧ H4 S = none ∧ H' S = some (.lst zs) ∧ ds.length = vn ∧ (∀ K H, DvAll K H zs ds) ∧ (∀ d ∈ ds, isViewD n d = true) ∧ ∀ d ∈ ds, d.bulk ≤ 10, ?_, ?_⟩
    · refine ⟨_, rfl, _, rfl, by omega, by omega, fun D nD => lc_it (walk_range (lo := 0) (n := ((vn : Nat) : Int).toNat)) (fun j Hj => Dice p Hj ∧ KeepS [p] H4 Hj ∧ ∃ zs ds, Hj D = some (.lst zs) ∧ ds.length = j ∧ (∀ K H, DvAll K H zs ds) ∧ (∀ d ∈ ds, isViewD n d = true) ∧ ∀ d ∈ ds, d.bulk ≤ 10)
        ⟨d4.new nD, .same (same_upd nD), [], [], upd_same, rfl, (fun _ _ => .nil), (fun _ z => nomatch z), fun _ z => nomatch z⟩ (fun _ _ _ _ => trivial) (fun j x Hj Hj' hj hP hY => ?_) (fun Hj hP => ?_)⟩
      · obtain ⟨dj, kj, zs, ds, hD, dl, dv, vi, bu⟩ := hP
        obtain ⟨rfl, rfl⟩ := hY
        have Dp : D ≠ p := fun z => by
          obtain ⟨a, b, c, e⟩ := d4
          rw [z, e] at nD
          cases nD
        refine ⟨rfl, _, rfl, _, rfl, _, rfl, roll_at dj (by omega) (by omega) fun r r0 r1 H6 k6 => ⟨by show 6 ≤ sizeLine; omega, fun l nl => one_new k6.2 nl (by simp) (by show 6 ≤ 1000; decide) fun zv mz H7 k7 => ?_⟩⟩
        obtain ⟨zd, hz1, hz2, hz3⟩ : ∃ zd : PyData, (∀ K H, Dv K H zv zd) ∧ isViewD n zd = true ∧ zd.bulk ≤ 10 := by
          have num : ∀ i : Int, 0 ≤ i → i < (n : Nat) → ∃ zd : PyData, (∀ K H, Dv K H (.int i) zd) ∧ isViewD n zd = true ∧ zd.bulk ≤ 10 := fun i h0 h1 => by
            refine ⟨.int i, fun _ _ => .int i, ?_, by show 0 ≤ 10; decide⟩
            show (decide (0 ≤ i) && decide (i ≤ (n : Int) - 1)) = true
            rw [decide_eq_true h0, decide_eq_true (by omega)]
            rfl
          simp only [List.mem_cons, List.not_mem_nil, or_false] at mz
          rcases mz with rfl | rfl | rfl | rfl | rfl | rfl
          · exact num 0 (by decide) (by omega)
          · exact num 0 (by decide) (by omega)
          · exact num 0 (by decide) (by omega)
          · exact num 0 (by decide) (by omega)
          · exact num r r0 r1
          · exact ⟨.none, fun _ _ => .non, rfl, by show 0 ≤ 10; decide⟩
        have kk := k6.trans k7
        refine ⟨zs, kk.1 _ _ Dp hD, by have := (dv K Hj').length; omega, ?_, KeepS.new (m := D) (((kj.trans (kk.s (by simp))).more (by simp)).trans (KeepS.mut (by simp))) nD, zs ++ [zv], ds ++ [zd], upd_same, by rw [List.length_append, dl]; rfl, fun K H => (dv K H).append (.cons (hz1 K H) .nil), fun d hd => ?_, fun d hd => ?_⟩
        · obtain ⟨a, b, c, e⟩ := kk.2
          exact ⟨a, b, c, by rw [upd_ne Dp.symm]; exact e⟩
        · rcases List.mem_append.mp hd with hd | hd
          · exact vi d hd
          · rw [List.mem_singleton.mp hd]; exact hz2
        · rcases List.mem_append.mp hd with hd | hd
          · exact bu d hd
          · rw [List.mem_singleton.mp hd]; exact hz3
      · obtain ⟨dj, kj, zs, ds, hD, dl, dv, vi, bu⟩ := hP
        exact ⟨D, zs, ds, rfl, dj, kj, nD, hD, by omega, dv, vi, bu⟩
    rintro σ5 H5 ⟨S, zs, ds, rfl, d5, k5, nS, hS, dl, dv, vi, bu⟩
    refine ⟨_, rfl, _, rfl, _, rfl, by show 3 ≤ sizeLine; omega, fun t nt => ?_⟩
    have s6 := same_upd (o := .tup [.ref R, .ref B, .ref S]) nt
    have kB : KeepS [p] H4 (upd H5 t (.tup [.ref R, .ref B, .ref S])) := k5.trans (.same s6)
    have kR : KeepS [p] H3 (upd H5 t (.tup [.ref R, .ref B, .ref S])) := k4.trans kB
    have kA : KeepS [p] H2 (upd H5 t (.tup [.ref R, .ref B, .ref S])) := k3.trans kR
    have d6 : Dice p (upd H5 t (.tup [.ref R, .ref B, .ref S])) := d5.new nt
    have tp : t ≠ p := fun z => by
      obtain ⟨a, b, c, e⟩ := d5
      rw [z, e] at nt
      cases nt
    have Sp' : S ≠ p := fun z => by
      obtain ⟨a, b, c, e⟩ := d4
      rw [z, e] at nS
      cases nS
    have toH : ∀ {X : Addr} {Hc : Hp}, KeepS [p] Hc (upd H5 t (.tup [.ref R, .ref B, .ref S])) → Same (hids [p, X] Hc) (hid p (upd H5 t (.tup [.ref R, .ref B, .ref S]))) := fun kc => ((kc.more (by simp)).hids).trans ((hids_sub (by simp)).trans hid_hids)
    refine q _ t R B S xsR ys zs wsR ls ds (k2.trans (kA.keep d6)) ⟨.of (by rw [hid_ne tp, upd_same]), .of (by rw [hid_ne Rp]; exact kR _ _ (by simp [Rp]) hR3), .of (by rw [hid_ne Bp]; exact kB _ _ (by simp [Bp]) hB4), .of (by rw [hid_ne Sp']; exact s6 _ _ hS), pairedI2 (fun _ _ y => y.same (toH kR)) hP3, pairedI2 (fun _ _ y => y.same (toH kB)) hPb, dv _ _⟩ ⟨by omega, by omega, fun s hs => ?_, fun s hs => ?_, by omega, fun d hd => ?_, bu, fun s hs => few_of (Bool.and_eq_true_iff.mp (gd3 s hs)).2, fun s hs => few_of (Bool.and_eq_true_iff.mp (gb s hs)).2⟩
    · rw [wl3, ll]; exact (Bool.and_eq_true_iff.mp (gd3 s hs)).1
    · rw [ll]; exact (Bool.and_eq_true_iff.mp (gb s hs)).1
    · rw [wl3]; exact vi d hd
end J
end
end K0
end
/-! ### MDT -/
section
set_option Elab.async false
set_option linter.all false
set_option maxRecDepth 100000
set_option maxHeartbeats 4000000
/-! tuple(d) of such a dict. -/
namespace MD
open PySem PySem.Spec PyProof.Rows L2 PySem.W
section
variable {prog : Program} {w : World} {A : Around} {E : Value → Shared → Prop} {s : Shared} {T : String} {r d : Addr} {n : Nat} {P : Nat → Value → Prop} {OK : Heap → Prop}
theorem collect_kdl (K : KdlSrc prog w T r d n P OK) (hh : A.handled = none) (hok : OK s.heap) {Q : List Value → Shared → Prop} (hn : n ≤ sizeLine)
    (hQ : ∀ (h' : Heap) (tk : Nat) (acc : Array Value), (∀ b o, s.heap.get? b = some o → h'.get? b = some o) → ItemsOf P acc n → Q acc.toList { s with heap := h', toks := tk }) : wpAny (model prog w) A (collect (.ref r)) Q E s := by
  unfold collect
  refine wpAny_bind (wpAny_runValue (codeAny_builtin PySem.F.entry_proto_collect ?_))
  rw [Around.under_plainId PySem.F.plain_proto_collect _]
  show wpAny _ A.in1 (newList [] >>= fun l => again (.builtin "list.__iadd__" ⟨[l, .ref r], []⟩)) _ _ s
  refine wpAny_bind (wpAny_newObj_type ?_)
  refine wpAny_pure ⟨plainId_quiet PySem.F.plain_list_iadd _, codeAny_builtin PySem.F.entry_list_iadd ?_⟩
  rw [Around.under_plainId PySem.F.plain_list_iadd _]
  show wpAny _ A.in1 (Builtin.List.listExtendWith (.ref s.heap.objs.size) (.ref r) (.ref s.heap.objs.size)) _ _ _
  obtain ⟨lr, ld⟩ := K.there _ hok
  refine kdl_extend (R := wants _ E) (s := { s with heap := s.heap.push { cls := .type "list", data := .seq ([] : List Value).toArray } }) K hh (K.keep s.heap _ hok fun b _ o e => Heap.get?_push_of_some _ e) s.heap.objs.size (Nat.ne_of_gt lr) (Nat.ne_of_gt ld) (.ref s.heap.objs.size) 0 (by exact Heap.get?_push_size _ rfl) (fun h' tk acc' c' kp hS' it => ?_) hn
  show wpAny _ A (load s.heap.objs.size >>= _) _ _ _
  refine wpAny_bind (wpAny_load hS' ?_)
  exact wpAny_pure (hQ h' tk acc' (fun b o e => kp b o (Nat.ne_of_lt (Heap.lt_size e)) (Heap.get?_push_of_some _ e)) it)
theorem code_tuple_new_kdl {Q₁ : Value → Shared → Prop} (K : KdlSrc prog w T r d n P OK) (hh : A.handled = none) (hok : OK s.heap) (hn : n ≤ sizeLine)
    (h : ∀ (h' : Heap) (tk : Nat) (acc : Array Value), (∀ b o, s.heap.get? b = some o → h'.get? b = some o) → ItemsOf P acc n → Q₁ (.ref h'.objs.size) { s with heap := h'.push { cls := .type "tuple", data := .seq acc }, toks := tk }) :
    codeAny (model prog w) A (.call (.builtin "tuple.__new__") ⟨[.type "tuple", .ref r], []⟩) (wants Q₁ E) s := by
  refine codeAny_of_tree ?_
  show wpAny _ A.in1 (do checkBuiltinCall "tuple.__new__" ⟨[.type "tuple", .ref r], []⟩; again (.builtin "tuple.__new__" ⟨[.type "tuple", .ref r], []⟩)) _ _ s
  refine wpAny_bind (wpAny_of_eq (PySem.F.newCall_tuple_1 _) (wpAny_pure ⟨plainId_quiet PySem.F.plain_tuple_new _, codeAny_builtin PySem.F.entry_tuple_new ?_⟩))
  rw [Around.under_plainId PySem.F.plain_tuple_new _]
  have hsub := sub_tuple_self
  have hinit := init_tuple_lookup
  have hmh := madeHere_tuple
  have hTI := K.type s hok
  have hh1 : A.in1.handled = none := hh
  have hnt := K.notTuple
  wp_walk using wpAny_typeOf hTI, collect_kdl (A := A.in1) K hh1 hok (hn := hn)
  intro h' tk acc hk hi
  show wpAny _ _ (Builtin.Tuple.tupleExact acc.toList.toArray >>= fun v => ret v) _ _ _
  unfold Builtin.Tuple.tupleExact
  refine wpAny_bind (wpAny_newObj_type ?_ (by show acc.toList.toArray.size ≤ sizeLine; simp only [Array.toArray_toList]; rw [hi.1]; exact hn))
  refine wpAny_pure ?_
  have e : acc.toList.toArray = acc := by simp
  rw [e]
  exact h h' tk acc hk hi
theorem call_tuple_kdl {Q : Value → Shared → Prop} (K : KdlSrc prog w T r d n P OK) (hh : A.handled = none) (hok : OK s.heap) (hn : n ≤ sizeLine)
    (h : ∀ (h' : Heap) (tk : Nat) (acc : Array Value), (∀ b o, s.heap.get? b = some o → h'.get? b = some o) → ItemsOf P acc n → Q (.ref h'.objs.size) { s with heap := h'.push { cls := .type "tuple", data := .seq acc }, toks := tk }) :
    wpAny (model prog w) A (call (.type "tuple") [.ref r]) Q E s := by
  refine callType_codes (Q₁ := fun obj s₁ => s₁.TypeIs obj "tuple" ∧ Q obj s₁) PySem.F.called_tuple (PySem.F.typeCall_tuple_1 _) PySem.F.entry_object_init
    (code_tuple_new_kdl (A := A.in1) K hh hok hn fun h' tk acc hk hacc => ⟨⟨_, Heap.get?_push_size _ rfl, rfl⟩, h h' tk acc hk hacc⟩) fun obj s₁ h₁ => ?_
  exact ⟨h₁.1, PySem.F.args_object_init_2 obj _, object_init_meets PySem.F.called_tuple.init.lookup PySem.F.called_tuple.made (by decide) prog w A.in1 _ s₁ ⟨h₁.1, rfl, h₁.2⟩⟩
end
def rMTuple (w : World) : List V → Hp → VK → Prop := fun vs H Q => ∃ (a : Addr) (kvs : List Row), vs = [.ref a] ∧ H a = some (dM w a kvs) ∧ ∀ p, H p = none → Q (.ref p) (upd H p (.tup (kvs.map (·.2.1))))
theorem call_mtuple {X : Cx} (hc : X.calm = true) : CallR X (.type "tuple") (rMTuple X.w) := by
  intro pins s σ H vs us Q I r h
  obtain ⟨a, kvs, rfl, ed, q⟩ := h
  obtain ⟨u, rfl, ru⟩ := vals1 r
  obtain rfl : u = Value.ref a := ru
  obtain ⟨hz, hsy, xs, rel, o, es, ep, h1, h2, h3, h4, h5⟩ := tab_of I ed
  have lz : es.size = kvs.length := by rw [ent_size h4, prs_len rel]
  refine call_tuple_kdl (KdlSrc.rawDict (prog := X.prog) (w := X.w) (es := es) (ep := ep) hsy) (I.ok.hd hc) ⟨o, h1, h2, h3⟩ (by rw [lz]; exact hz) fun h' tk acc up hacc => ?_
  have I1 : Inv X pins σ H { s with heap := h', toks := tk } := I.kept up
  have vals : ∀ {kvs : List Row} {xs : List (NK × Value × Value)}, Prs kvs xs → Vals (kvs.map (·.2.1)) (xs.map (·.2.1)) := by
    intro kvs xs r
    induction r with
    | nil => exact .nil
    | cons r _ ih => exact .cons r.2.1 ih
  have eacc : acc.toList = xs.map (·.2.1) := by
    refine List.ext_getElem? fun j => ?_
    rw [Array.getElem?_toList, List.getElem?_map]
    cases hj : xs[j]? with
    | none =>
      have z := List.getElem?_eq_none_iff.mp hj
      have := hacc.1
      rw [Option.map_none, Array.getElem?_eq_none (by rw [this, ent_size h4]; exact z)]
    | some x =>
      have lt : j < acc.size := by rw [hacc.1, ent_size h4]; exact (List.getElem?_eq_some_iff.mp hj).1
      obtain ⟨hi, e⟩ := hacc.2 j _ (Array.getElem?_eq_getElem lt)
      have z := ent_at h4 j
      rw [Array.getElem?_eq_getElem hi, hj, Option.map_some] at z
      rw [Array.getElem?_eq_getElem lt, e, Option.some.inj z]
      rfl
  have I2 : Inv X pins σ (upd H h'.objs.size (.tup (kvs.map (·.2.1)))) { s with heap := h'.push { cls := .type "tuple", data := .seq acc }, toks := tk } :=
    I1.laid (t' := tk) (fun b o e => Heap.get?_push_of_some _ e) (Nat.le_refl _) (show ObjOk X.prog X.w _ _ _ (.tup (kvs.map (·.2.1))) from ⟨by rw [List.length_map]; exact hz, acc.toList, by rw [eacc]; exact vals rel, by rw [Array.toArray_toList]; exact IsTup.new _ _⟩)
  exact ⟨.ref h'.objs.size, _, I2, rfl, q _ (I1.hok.fresh (Nat.le_refl _))⟩
end MD
end
/-! ### SRW -/
section
set_option Elab.async false
set_option linter.all false
set_option maxRecDepth 100000
set_option maxHeartbeats 4000000
/-! _law_spoilt_row. -/
namespace K0
open PySem PySem.Spec PyProof.Rows L2
open MD (dM KeysV KeyV)
abbrev srN : List Str := ["dice", "row", "size", "views", "moves", "other", "last", "way", "item", "some"]
theorem scSRow : FnScope srN ["dice", "row", "size", "views"] (defScope (top iSRow)) := ⟨rfl, rfl, rfl, by decide +kernel, rfl, by decide +kernel, by decide +kernel⟩
theorem dv_off {K : PySem.W.Frag} {w : World} {H H' : Hp} {m : Addr} {rows : List MD.Row} (e : H m = some (dM w m rows)) (k : ∀ b o, b ≠ m → H b = some o → H' b = some o) : ∀ {v : V} {d : PyData}, Dv K H v d → Dv K H' v d := by
  have sq : ∀ {a : Addr} {xs : List V}, SqT K H a xs → SqT K H' a xs := fun {a} {xs} h => by
    rcases h with (h | ⟨o, h⟩) | h
    · exact .inl (.inl (k _ _ (fun z => by rw [z, e] at h; cases h) h))
    · exact .inl (.inr ⟨o, k _ _ (fun z => by rw [z, e] at h; cases h) h⟩)
    · exact .inr h
  have sl : ∀ {a : Addr} {xs : List V}, SqL K H a xs → SqL K H' a xs := fun {a} {xs} h => by
    rcases h with (h | ⟨o, h⟩) | h
    · exact .inl (.inl (k _ _ (fun z => by rw [z, e] at h; cases h) h))
    · exact .inl (.inr ⟨o, k _ _ (fun z => by rw [z, e] at h; cases h) h⟩)
    · exact .inr h
  intro v d h
  refine Dv.rec (K := K) (H := H) (motive_1 := fun v d _ => Dv K H' v d) (motive_2 := fun vs ds _ => DvAll K H' vs ds) ?_ ?_ ?_ ?_ ?_ ?_ ?_ ?_ ?_ h
  · exact .non
  · exact fun b => .bl b
  · exact fun i => .int i
  · exact fun x => .str x
  · exact fun h1 _ h2 => .lst (sl h1) h2
  · exact fun h1 _ h2 => .tup (sq h1) h2
  · exact fun {a} {kvs} {ds} h1 h2 _ h3 => .dic (k _ _ (fun z => by rw [z, e] at h1; cases h1) h1) h2 h3
  · exact .nil
  · exact fun _ _ h1 h2 => .cons h1 h2
theorem dv_two {K : PySem.W.Frag} {w : World} {H : Hp} {p m : Addr} {rows : List MD.Row} (e : H m = some (dM w m rows)) (mp : m ≠ p) {v : V} {d : PyData} (h : Dv K (hid p H) v d) : Dv K (hids [p, m] H) v d :=
  dv_off (w := w) (rows := rows) (by rw [hid_ne mp]; exact e) (fun b o n z => by
    have bp : b ≠ p := fun y => by
      unfold hid at z
      rw [if_pos y] at z
      cases z
    rw [hid_ne bp] at z
    rw [hids_of (by simp [bp, n])]
    exact z) h
/-- the copy of a row under work -/
structure SpAt (K : PySem.W.Frag) (w : World) (p m : Addr) (H : Hp) (rs : List RX) (vs : List V) (ds : List PyData) : Prop where
  at_ : H m = some (dM w m (rs.map (fun x : RX => x.1)))
  ok : RowsX K (hids [p, m] H) rs
  dv : DvAll K (hids [p, m] H) vs ds
  bu : ∀ d ∈ ds, d.bulk ≤ 1000
theorem SpAt.keep {K : PySem.W.Frag} {w : World} {p m : Addr} {H H' : Hp} {rs : List RX} {vs : List V} {ds : List PyData} (h : SpAt K w p m H rs vs ds) (mp : m ≠ p) (k : Keep p H H') : SpAt K w p m H' rs vs ds :=
  ⟨k.1 _ _ mp h.at_, h.ok.same (k.s (by simp)).hids, DvAll.same (k.s (by simp)).hids _ _ h.dv, h.bu⟩
theorem SpAt.good {K : PySem.W.Frag} {w : World} {p m T : Addr} {H : Hp} {rs : List RX} {vs : List V} {ds : List PyData} {n : Nat} (h : SpAt K w p m H rs vs ds) (mp : m ≠ p) (nT : H T = none) (Tp : T ≠ p) (hn : ds.length + 1 = n) : StX K w (hid p (upd H T (.tup (.ref m :: vs)))) n (.ref T) (.good rs vs ds) := by
  have s := same_upd (o := .tup (.ref m :: vs)) nT
  have out : Same (hids [p, m] H) (hid p (upd H T (.tup (.ref m :: vs)))) := (hids_sub (S := [p]) (by simp)).trans (hid_hids.trans (same_hid2 s))
  exact ⟨T, m, rfl, .of (by rw [hid_ne Tp, upd_same]), DvAll.same out _ _ h.dv, hn, by rw [hid_ne mp]; exact s _ _ h.at_, h.ok.same out, h.bu⟩
theorem SpAt.put {K : PySem.W.Frag} {w : World} {p m : Addr} {H : Hp} {rs : List RX} {vs : List V} {ds : List PyData} {k : MD.NK} {kv vv : V} {kd vd : PyData} (h : SpAt K w p m H rs vs ds) (hk : KeyV K (hids [p, m] H) kv k) (dk : k.depth ≤ 8) (hkd : Dv K (hids [p, m] H) kv kd) (hvd : Dv K (hids [p, m] H) vv vd) (fk : fitK kd = true) (bv : vd.bulk ≤ 10000) (few : rs.length < 1000) :
    ∃ rs', SpAt K w p m (upd H m (dM w m (MD.put (rs.map (fun x : RX => x.1)) k kv vv))) rs' vs ds ∧ rs'.length ≤ rs.length + 1 := by
  obtain ⟨rs', e, ok, l⟩ := h.ok.put hk dk hkd hvd fk bv few
  have ms : Same (hids [p, m] H) (hids [p, m] (upd H m (dM w m (MD.put (rs.map (fun x : RX => x.1)) k kv vv)))) := (KeepS.mut (by simp)).hids
  exact ⟨rs', ⟨by rw [e]; exact upd_same, ok.same ms, DvAll.same ms _ _ h.dv, h.bu⟩, l⟩
def keyOk (d : PyData) : Bool := match nkD d with
  | some k => decide (k.depth ≤ 8) && fitK d
  | none => false
theorem keyOk_at {d : PyData} (h : keyOk d = true) : ∃ k, nkD d = some k ∧ k.depth ≤ 8 ∧ fitK d = true := by
  unfold keyOk at h
  cases e : nkD d with
  | none => rw [e] at h; cases h
  | some k =>
    rw [e] at h
    have h : (decide (k.depth ≤ 8) && fitK d) = true := h
    rw [Bool.and_eq_true, decide_eq_true_iff] at h
    exact ⟨k, rfl, h.1, h.2⟩
def kl1 (vw : Int) : List PyData := [.str "a", .tuple [.str "a"], .tuple [.str "a", .int vw], .tuple [.str "a", .int (-1)], .tuple [.str "a", .bool true], .tuple [.str "a", .int 0, .int 0], .tuple [.str "ab", .int 0], .tuple [.str "", .none], .tuple [.str "h", .none]]
def kl2 (vw : Int) : List PyData := [.none, .tuple [.int 0, .str "a"], .tuple [.none, .none], .tuple [.str "a", .str "0"], .tuple [.str "a", .int (vw - 1)], .tuple [.str "a", .tuple [.int 0]], .tuple [.str "a", .bool false]]
theorem kl_ok {vw : Int} (h : vw = 1 ∨ vw = 2) : ((kl1 vw ++ kl2 vw).all keyOk) = true := by
  rcases h with rfl | rfl <;> decide +kernel
def ol (n : Int) : List PyData := [.int n, .int (n - 1), .int (-1), .none, .bool true, .str "0", .tuple [.int 0], .int (10 ^ Int.toNat 40)]
def ll : List PyData := [.str "abc", .str "ab", .none, .int 0, .tuple [], .list [.str "a"], .str "h", .str "a "]
theorem ll_small : (ll.all fun d => decide (d.bulk ≤ 1000)) = true := by decide +kernel
theorem ol_small {n : Int} : ∀ d ∈ ol n, d.bulk ≤ 1000 := by
  intro d hd
  simp only [ol, List.mem_cons, List.not_mem_nil, or_false] at hd
  rcases hd with rfl | rfl | rfl | rfl | rfl | rfl | rfl | rfl
  · show 0 ≤ 1000; decide
  · show 0 ≤ 1000; decide
  · show 0 ≤ 1000; decide
  · show 0 ≤ 1000; decide
  · show 0 ≤ 1000; decide
  · show 1 ≤ 1000; decide
  · show 1 ≤ 1000; decide
  · show 0 ≤ 1000; decide
def spSRow (K : PySem.W.Frag) (w : World) : Sp := fun vs H Q _ => ∃ (p : Addr) (rv : V) (n vw : Int) (rs : List RX) (ys : List V) (ds : List PyData), vs = [.ref p, rv, .int n, .int vw] ∧ Dice p H ∧ StX K w (hid p H) 3 rv (.good rs ys ds) ∧ rs.length ≤ 9 ∧ (vw = 1 ∨ vw = 2) ∧
  ∀ H' x d, Keep p H H' → StX K w (hid p H') 3 x d → Q x H'
theorem smove_at {K : PySem.W.Frag} {p : Addr} {n : Int} {H : Hp} {Q : VK} {E : XK} (d : Dice p H) (q : ∀ H' x d, Keep p H H' → Dv K (hid p H') x d → d.bulk ≤ 1000 → Q x H') : spSMove K [.ref p, .int n] H Q E := ⟨p, n, rfl, d, q⟩
theorem asg {te : TE} {i : Nat} {D : Ends} {σ : L2.St} {H : Hp} (h : te σ H fun x H1 => D.nx (σ.set i (some x)) H1) : tAsg te (gName i) D σ H := h
theorem same_new2 {p m : Addr} {H : Hp} {o : HO} (n : H m = none) : Same (hid p H) (hids [p, m] (upd H m o)) := fun b u z => by
  have bp : b ≠ p := fun y => by
    unfold hid at z
    rw [if_pos y] at z
    cases z
  rw [hid_ne bp] at z
  have bm : b ≠ m := ne_of_none z n
  rw [hids_of (by simp [bp, bm]), upd_ne bm]
  exact z
theorem Keep.mut {p m : Addr} {H H' : Hp} {o : HO} (k : Keep p H H') (n : H m = none) (mp : m ≠ p) : Keep p H (upd H' m o) := ⟨fun b u bp e => by rw [upd_ne (ne_of_none e n)]; exact k.1 b u bp e, by
  obtain ⟨a, b, c, e⟩ := k.2
  exact ⟨a, b, c, by rw [upd_ne mp.symm]; exact e⟩⟩
/-- σ's form between the statements -/
def SrM (K : PySem.W.Frag) (w : World) (p : Addr) (rv : V) (n vw : Int) (H : Hp) (N : Nat) (w7 : Option V) : L2.St → Hp → Prop := fun σ' H' => ∃ (m : Addr) (vo vl : V) (x8 x9 : Option V) (rs : List RX) (ds : List PyData), σ' = [some (.ref p), some rv, some (.int n), some (.int vw), some (.ref m), some vo, some vl, w7, x8, x9] ∧ m ≠ p ∧ H m = none ∧ Keep p H H' ∧ SpAt K w p m H' rs [vo, vl] ds ∧ ds.length = 2 ∧ rs.length ≤ N
namespace J
theorem smove_at {K : PySem.W.Frag} {p : Addr} {n : Int} {H : Hp} {Q : VK} {E : XK} (d : Dice p H) (q : ∀ H' x d, Keep p H H' → Dv K (hid p H') x d → d.bulk ≤ 1000 → Q x H') : spSMove K [.ref p, .int n] H Q E := by
  rw [spSMove_eq]
  exact K0.smove_at d q
section
variable {P : Program} {w : World} {K : PySem.W.Frag} {mg : Str → Option Value} {base : Heap} {f fR fO fS : Addr} {fd fdR fdO fdS : FuncData}
set_option maxHeartbeats 8000000 in
theorem ok_srow {k : Nat} (F : FnP K "_law_spoilt_row" iSRow f fd) (mlist : mg "list" = none) (mtup : mg "tuple" = none) (mdict : mg "dict" = none)
    (FR : FnOk P w K mg base CX0 (k + 4) fR fdR ["dice", "total"] spRoll) (gR : mg "_law_roll" = some (.ref fR)) (kR : PySem.W.keepIn K (.ref fR) = true) (bR : Binds K fdR ["dice", "total"] [])
    (FO : FnOk P w K mg base CX0 (k + 4) fO fdO ["dice", "items"] (spOne K)) (gO : mg "_law_one_of" = some (.ref fO)) (kO : PySem.W.keepIn K (.ref fO) = true) (bO : Binds K fdO ["dice", "items"] [])
    (FS : FnOk P w K mg base CX0 (k + 4) fS fdS ["dice", "size"] (spSMove K)) (gS : mg "_law_spoilt_move" = some (.ref fS)) (kS : PySem.W.keepIn K (.ref fS) = true) (bS : Binds K fdS ["dice", "size"] []) :
    FnOk P w K mg base CX0 (k + 5) f fd ["dice", "row", "size", "views"] (spSRow K w) := by
  refine F.ok scSRow (fun vs H Q E h => ?_) (fun cdv A outer s H vs Q E hr h => ?_)
  · obtain ⟨p, rv, n, vw, rs, ys, ds, rfl, _⟩ := h
    rfl
  · obtain ⟨p, rv, n, vw, rs, ys, ds, rfl, d0, hS, l9, v12, q⟩ := h
    refine ⟨_, PSs.nox (C8.pss_cut (ps_par3 (i := 4) (j := 5) (l := 6) (by rfl) scSRow.nd rfl rfl rfl (by decide) (by decide) (by decide) rfl rfl rfl (pa_cons (MD.pe_mcopy (by rfl) mdict (by rfl) mlist (pe_ix ix_tup (pv 1) pe_int (fun _ _ => rfl)) rfl hr.units) (pa_cons (pe_ix ix_tup (pv 1) pe_int (fun _ _ => rfl)) (pa_cons (pe_ix ix_tup (pv 1) pe_int (fun _ _ => rfl)) pa_nil))) (by rfl))
      (C8.pss_cut (ps_set (i := 7) scSRow.nd rfl (.inl rfl) (pe_call FR hr (by rfl) gR kR bR .nil pass0 (pa_cons (pv 0) (pa_cons pe_int pa_nil))))
      (C8.pss_cut (ps_if (pt_cmpR op_lt (pv 7) pe_int (nomark _))
        (pss_cons (ps_set (i := 8) scSRow.nd rfl (.inl rfl) (pe_tup (pa_cons (pe_call FO hr (by rfl) gO kO bO .nil pass0 (pa_cons (pv 0) (pa_cons (pe_callTy (call_list_txt rfl) (by rfl) mlist (by decide +kernel) (pa_cons pe_str pa_nil)) pa_nil))) (pa_cons (pe_call FO hr (by rfl) gO kO bO .nil pass0 (pa_cons (pv 0) (pa_cons (pe_lst (pa_cons pe_non (pa_cons pe_int pa_nil))) pa_nil))) pa_nil))))
        (pss_one (ps_mputK (K := K) (w := w) rfl rfl hr.units (pv 4) (pv 8) (pe_call FS hr (by rfl) gS kS bS .nil pass0 (pa_cons (pv 0) (pa_cons (pv 2) pa_nil))) rfl))) pss_nil)
      (C8.pss_cut (ps_if (pt_cmpR op_eq (pv 7) pe_int (nomark _))
        (C8.pss_cut (ps_set (i := 9) scSRow.nd rfl (.inl rfl) (pe_lst (pa_cons pe_str (pa_cons (pe_tup (pa_cons pe_str pa_nil)) (pa_cons (pe_tup (pa_cons pe_str (pa_cons (pv 3) pa_nil))) (pa_cons (pe_tup (pa_cons pe_str (pa_cons (pe_un un_neg pe_int) pa_nil))) (pa_cons (pe_tup (pa_cons pe_str (pa_cons pe_bl pa_nil))) (pa_cons (pe_tup (pa_cons pe_str (pa_cons pe_int (pa_cons pe_int pa_nil)))) (pa_cons (pe_tup (pa_cons pe_str (pa_cons pe_int pa_nil))) (pa_cons (pe_tup (pa_cons pe_str (pa_cons pe_non pa_nil))) (pa_cons (pe_tup (pa_cons pe_str (pa_cons pe_non pa_nil))) pa_nil)))))))))))
        (C8.pss_cut (ps_set (i := 9) scSRow.nd rfl (.inl rfl) (pe_op op_cat (pv 9) (pe_lst (pa_cons pe_non (pa_cons (pe_tup (pa_cons pe_int (pa_cons pe_str pa_nil))) (pa_cons (pe_tup (pa_cons pe_non (pa_cons pe_non pa_nil))) (pa_cons (pe_tup (pa_cons pe_str (pa_cons pe_str pa_nil))) (pa_cons (pe_tup (pa_cons pe_str (pa_cons (pe_op op_sub (pv 3) pe_int) pa_nil))) (pa_cons (pe_tup (pa_cons pe_str (pa_cons (pe_tup (pa_cons pe_int pa_nil)) pa_nil))) (pa_cons (pe_tup (pa_cons pe_str (pa_cons pe_bl pa_nil))) pa_nil))))))))))
        (pss_one (ps_mputK (K := K) (w := w) rfl rfl hr.units (pv 4) (pe_call FO hr (by rfl) gO kO bO .nil pass0 (pa_cons (pv 0) (pa_cons (pv 9) pa_nil))) (pe_tup (pa_cons pe_str (pa_cons pe_int pa_nil))) rfl)))) pss_nil)
      (C8.pss_cut (ps_if (pt_cmpR op_eq (pv 7) pe_int (nomark _))
        (pss_one (ps_set (i := 5) scSRow.nd rfl (.inl rfl) (pe_call FO hr (by rfl) gO kO bO .nil pass0 (pa_cons (pv 0) (pa_cons (pe_lst (pa_cons (pv 2) (pa_cons (pe_op op_sub (pv 2) pe_int) (pa_cons (pe_un un_neg pe_int) (pa_cons pe_non (pa_cons pe_bl (pa_cons pe_str (pa_cons (pe_tup (pa_cons pe_int pa_nil)) (pa_cons (pe_op op_powBits pe_int pe_int) pa_nil))))))))) pa_nil))))) pss_nil)
      (C8.pss_cut (ps_if (pt_cmpR op_eq (pv 7) pe_int (nomark _))
        (pss_one (ps_set (i := 6) scSRow.nd rfl (.inl rfl) (pe_call FO hr (by rfl) gO kO bO .nil pass0 (pa_cons (pv 0) (pa_cons (pe_lst (pa_cons pe_str (pa_cons pe_str (pa_cons pe_non (pa_cons pe_int (pa_cons (pe_tup pa_nil) (pa_cons (pe_lst (pa_cons pe_str pa_nil)) (pa_cons pe_str (pa_cons pe_str pa_nil))))))))) pa_nil))))) pss_nil)
      (C8.pss_cut (ps_if (pt_cmpR op_eq (pv 7) pe_int (nomark _))
        (pss_cons (ps_set (i := 9) scSRow.nd rfl (.inl rfl) (pe_lst (pa_cons (pe_tup (pa_cons (pv 4) (pa_cons (pv 5) pa_nil))) (pa_cons (pe_tup (pa_cons (pv 4) (pa_cons (pv 5) (pa_cons (pv 6) (pa_cons (pv 6) pa_nil))))) (pa_cons (pe_lst (pa_cons (pv 4) (pa_cons (pv 5) (pa_cons (pv 6) pa_nil)))) (pa_cons (pv 4) (pa_cons pe_non (pa_cons (pe_tup pa_nil) pa_nil))))))))
        (pss_one (ps_ret (pe_call FO hr (by rfl) gO kO bO .nil pass0 (pa_cons (pv 0) (pa_cons (pv 9) pa_nil)))))) pss_nil)
      (pss_cons (ps_if (pt_cmpR op_eq (pv 7) pe_int (nomark _))
        (pss_one (ps_ret (pe_tup (pa_cons (pe_call FO hr (by rfl) gO kO bO .nil pass0 (pa_cons (pv 0) (pa_cons (pe_lst (pa_cons (pe_callTy (MD.call_mlist rfl) (by rfl) mlist (by decide +kernel) (pa_cons (pv 4) pa_nil)) (pa_cons pe_non (pa_cons (pe_tup pa_nil) (pa_cons (pe_callTy (MD.call_mtuple rfl) (by rfl) mtup (by decide +kernel) (pa_cons (pv 4) pa_nil)) pa_nil))))) pa_nil))) (pa_cons (pv 5) (pa_cons (pv 6) pa_nil)))))) pss_nil)
      (pss_one (ps_ret (pe_tup (pa_cons (pv 4) (pa_cons (pv 5) (pa_cons (pv 6) pa_nil)))))))))))))), ?_⟩
    have sl : sizeLine = 16777216 := sizeLine_eq
    -- the copy
    refine ⟨SrM K w p rv n vw H 9 none, ?_, ?_⟩
    · obtain ⟨a, m0, rfl, hT, hA, l1, hm, hR, sm⟩ := hS
      obtain ⟨vo, vl, rfl⟩ : ∃ vo vl, ys = [vo, vl] := two (by have := hA.length; omega)
      have hT0 := same_tup hid_out hT
      refine ⟨_, rfl, a, _, 0, .ref m0, rfl, rfl, hT0, rfl, m0, _, rfl, hid_out _ _ hm, hR.ks.same hid_out, fun m nm => ?_⟩
      have s1 := same_upd (o := dM w m (rs.map (fun x : RX => x.1))) nm
      have hT1 := same_tup s1 hT0
      have mp : m ≠ p := fun z => by
        obtain ⟨a, b, c, e⟩ := d0
        rw [z, e] at nm
        cases nm
      refine ⟨_, rfl, a, _, 1, vo, rfl, rfl, hT1, rfl, _, rfl, a, _, 2, vl, rfl, rfl, hT1, rfl, _, _, _, rfl, m, vo, vl, none, none, rs, ds, rfl, mp, nm, ⟨fun b o _ e => s1 b o e, d0.new nm⟩, ⟨upd_same, hR.same (same_new2 nm), DvAll.same (same_new2 nm) _ _ hA, sm⟩, by omega, l9⟩
    rintro σ1 H1 ⟨m, vo, vl, x8, x9, rs1, ds1, rfl, mp, nm, k1, sp1, l2, n1⟩
    -- the way
    refine ⟨fun σ' H' => ∃ r : Int, SrM K w p rv n vw H 9 (some (.int r)) σ' H', ?_, ?_⟩
    · exact ⟨_, rfl, roll_at k1.2 (by decide) (by decide) fun r r0 r1 H2 k2 => ⟨r, m, vo, vl, x8, x9, rs1, ds1, rfl, mp, nm, k1.trans k2, sp1.keep mp k2, l2, n1⟩⟩
    rintro σ2 H2 ⟨r, m, vo, vl, x8, x9, rs2, ds2, rfl, mp, nm, k2, sp2, l2, n2⟩
    -- a move more
    refine ⟨SrM K w p rv n vw H 10 (some (.int r)), ?_, ?_⟩
    · refine ⟨_, rfl, _, _, rfl, rfl, _, rfl, ite2 (fun e => ?_) (fun e => ?_)⟩
      · have es : signsV "ab$:" = [97, 98, 36, 58].map oneV := by decide +kernel
        refine ⟨_, rfl, "ab$:", rfl, by decide, fun l nl => one_new k2.2 nl (by rw [es]; simp) (by rw [es]; show 4 ≤ 1000; decide) fun x mx H3 k3 => ?_⟩
        rw [es] at mx
        obtain ⟨c, hc, rfl⟩ := List.mem_map.mp mx
        have mc : c ∈ allSigns.cps.toList := by
          simp only [List.mem_cons, List.not_mem_nil, or_false] at hc
          rcases hc with rfl | rfl | rfl | rfl <;> decide +kernel
        refine ⟨_, rfl, by show 2 ≤ sizeLine; omega, fun l3 nl3 => one_new k3.2 nl3 (by simp) (by show 2 ≤ 1000; decide) fun y my H4 k4 => ?_⟩
        obtain ⟨yd, nk, hview⟩ : ∃ yd nk, ViewV 1 y yd nk := by
          simp only [List.mem_cons, List.not_mem_nil, or_false] at my
          rcases my with rfl | rfl
          · exact ⟨_, _, .inl ⟨rfl, rfl, rfl⟩⟩
          · exact ⟨_, _, .inr ⟨0, rfl, rfl, rfl, by decide, by decide⟩⟩
        have b1 := k3.trans k4
        refine ⟨by show 2 ≤ sizeLine; omega, fun T nT => ?_⟩
        have b2 := b1.new2 (o := .tup [oneV c, y]) nT
        have Tp : T ≠ p := fun z => by
          obtain ⟨a, b, c, e⟩ := b1.2
          rw [z, e] at nT
          cases nT
        have Tm : T ≠ m := fun z => by
          rw [z, b1.1 _ _ mp sp2.at_] at nT
          cases nT
        refine ⟨_, rfl, _, rfl, smove_at b2.2 fun H5 xv xd k5 hv bv => ?_⟩
        have sp5 := sp2.keep mp (b2.trans k5)
        have hT5 : SqT K (hids [p, m] H5) T [oneV c, y] := .of (by rw [hids_of (by simp [Tp, Tm])]; exact k5.1 _ _ Tp upd_same)
        obtain ⟨yv, yk, _, ydep⟩ := view_dv (K := K) (H := hids [p, m] H5) hview
        have fits := List.all_eq_true.mp signs_fit c mc
        rw [Bool.and_eq_true, Bool.and_eq_true, Bool.and_eq_true, Bool.and_eq_true] at fits
        have kf : fitK (.tuple [.str (oneS c), yd]) = true := by
          rcases hview with ⟨_, rfl, _⟩ | ⟨i, _, rfl, _, g0, g1⟩
          · exact fits.1.1.1.2
          · have : i = 0 := by omega
            subst this
            exact fits.1.1.2
        have kk : KeyV K (hids [p, m] H5) (.ref T) (.tup [.text (oneS c), nk]) := .tup hT5 (.cons (.atom rfl) (.cons yk .nil))
        have kdep : NestedKey.depth (.tup [.text (oneS c), nk]) ≤ 8 := by
          rcases hview with ⟨_, _, rfl⟩ | ⟨_, _, _, rfl, _⟩ <;> (show 1 ≤ 8; decide)
        obtain ⟨rs', sp', ln⟩ := sp5.put kk kdep (.tup hT5 (.cons (.str _) (.cons yv .nil))) (dv_two sp5.at_ mp hv) kf (by omega) (by omega)
        refine ⟨_, rfl, _, rfl, m, _, _, rfl, sp5.at_, sp5.ok.ks.same hids_out, MD.KeyV.same hids_out _ _ kk, kdep, by rw [List.length_map]; omega, m, vo, vl, _, x9, rs', ds2, rfl, mp, nm, (k2.trans (b2.trans k5)).mut nm mp, sp', l2, by omega⟩
      · exact ⟨m, vo, vl, x8, x9, rs2, ds2, rfl, mp, nm, k2, sp2, l2, by omega⟩
    rintro σ3 H3 ⟨m, vo, vl, x8, x9, rs3, ds3, rfl, mp, nm, k3, sp3, l2, n3⟩
    -- another key
    refine ⟨SrM K w p rv n vw H 11 (some (.int r)), ?_, ?_⟩
    · refine ⟨_, rfl, rfl, _, rfl, ite2 (fun e => ?_) (fun e => ?_)⟩
      · refine ⟨fun σ' H' => ∃ l1 xs1, σ' = [some (.ref p), some rv, some (.int n), some (.int vw), some (.ref m), some vo, some vl, some (.int r), x8, some (.ref l1)] ∧ Keep p H H' ∧ SpAt K w p m H' rs3 [vo, vl] ds3 ∧ H' l1 = some (.lst xs1) ∧ DvAll K (hid p H') xs1 (kl1 vw), ?_, ?_⟩
        · refine asg (rd_lstB (H0 := H3) (ds := kl1 vw) (p := p) (K := K) ?_ k3.2 (Same.refl _) (by show 9 ≤ 1000; decide) fun xs1 H4 l1 e1 v1 nl1 => ?_)
          · exact evb_cons (evb_of ev_str) (evb_cons (evb_tup (evb_cons (evb_of ev_str) evb_nil) (by decide)) (evb_cons (evb_tup (evb_cons (evb_of ev_str) (evb_cons (evb_var (by rfl) (.int vw)) evb_nil)) (by show 2 ≤ 1000; decide)) (evb_cons (evb_tup (evb_cons (evb_of ev_str) (evb_cons (evb_of ev_neg) evb_nil)) (by decide)) (evb_cons (evb_tup (evb_cons (evb_of ev_str) (evb_cons (evb_of ev_bl) evb_nil)) (by decide)) (evb_cons (evb_tup (evb_cons (evb_of ev_str) (evb_cons (evb_of ev_int) (evb_cons (evb_of ev_int) evb_nil))) (by decide)) (evb_cons (evb_tup (evb_cons (evb_of ev_str) (evb_cons (evb_of ev_int) evb_nil)) (by decide)) (evb_cons (evb_tup (evb_cons (evb_of ev_str) (evb_cons (evb_of ev_non) evb_nil)) (by decide)) (evb_cons (evb_tup (evb_cons (evb_of ev_str) (evb_cons (evb_of ev_non) evb_nil)) (by decide)) evb_nil))))))))
          · have s4 : Same H3 (upd H4 l1 (.lst xs1)) := e1.trans (same_upd nl1)
            have k4 : Keep p H3 (upd H4 l1 (.lst xs1)) := ⟨fun b o _ e => s4 b o e, Dice.same k3.2 s4⟩
            exact ⟨l1, xs1, rfl, k3.trans k4, sp3.keep mp k4, upd_same, v1.same (same_hid2 (same_upd nl1))⟩
        rintro σ4 H4 ⟨l1, xs1, rfl, k4, sp4, hl1, dv1⟩
        have dl1 := dv1.length
        refine ⟨fun σ' H' => ∃ l2 xs2, σ' = [some (.ref p), some rv, some (.int n), some (.int vw), some (.ref m), some vo, some vl, some (.int r), x8, some (.ref l2)] ∧ Keep p H H' ∧ SpAt K w p m H' rs3 [vo, vl] ds3 ∧ H' l2 = some (.lst xs2) ∧ l2 ≠ p ∧ DvAll K (hid p H') xs2 (kl1 vw ++ kl2 vw), ?_, ?_⟩
        · refine asg ⟨_, rfl, rd_lstB (H0 := H4) (ds := kl2 vw) (p := p) (K := K) ?_ k4.2 (Same.refl _) (by show 7 ≤ 1000; decide) fun xs2 H5 l2 e2 v2 nl2 => ?_⟩
          · exact evb_cons (evb_of ev_non) (evb_cons (evb_tup (evb_cons (evb_of ev_int) (evb_cons (evb_of ev_str) evb_nil)) (by decide)) (evb_cons (evb_tup (evb_cons (evb_of ev_non) (evb_cons (evb_of ev_non) evb_nil)) (by decide)) (evb_cons (evb_tup (evb_cons (evb_of ev_str) (evb_cons (evb_of ev_str) evb_nil)) (by decide)) (evb_cons (evb_tup (evb_cons (evb_of ev_str) (evb_cons (evb_less (by rfl)) evb_nil)) (by show 2 ≤ 1000; decide)) (evb_cons (evb_tup (evb_cons (evb_of ev_str) (evb_cons (evb_tup (evb_cons (evb_of ev_int) evb_nil) (by decide)) evb_nil)) (by decide)) (evb_cons (evb_tup (evb_cons (evb_of ev_str) (evb_cons (evb_of ev_bl) evb_nil)) (by decide)) evb_nil))))))
          · have s5 : Same H4 (upd H5 l2 (.lst xs2)) := e2.trans (same_upd nl2)
            have dl2 := v2.length
            have z9 : (kl1 vw).length = 9 := rfl
            have z7 : (kl2 vw).length = 7 := rfl
            refine ⟨l1, l2, xs1, xs2, rfl, rfl, s5 _ _ hl1, upd_same, by omega, fun l3 nl3 => ?_⟩
            have s6 := s5.trans (same_upd (o := .lst (xs1 ++ xs2)) nl3)
            have k6 : Keep p H4 (upd (upd H5 l2 (.lst xs2)) l3 (.lst (xs1 ++ xs2))) := ⟨fun b o _ e => s6 b o e, Dice.same k4.2 s6⟩
            refine ⟨l3, _, rfl, k4.trans k6, sp4.keep mp k6, upd_same, Dice.ne (Dice.same k4.2 s5) nl3, (dv1.same (same_hid2 s6)).append (v2.same (same_hid2 ((same_upd nl2).trans (same_upd nl3))))⟩
        rintro σ5 H5 ⟨l3, xs3, rfl, k5, sp5, hl3, l3p, dv3⟩
        refine ⟨by show 2 ≤ sizeLine; omega, fun T nT => ⟨_, rfl, _, rfl, _, rfl, ?_⟩⟩
        have sT := same_upd (o := .tup [.str "a", .int 0]) nT
        have Tp : T ≠ p := fun z => by
          obtain ⟨a, b, c, e⟩ := k5.2
          rw [z, e] at nT
          cases nT
        have Tm : T ≠ m := fun z => by
          rw [z, sp5.at_] at nT
          cases nT
        have kT : Keep p H5 (upd H5 T (.tup [.str "a", .int 0])) := ⟨fun b o _ e => sT b o e, Dice.same k5.2 sT⟩
        refine one_data kT.2 (sT _ _ hl3) l3p (dv3.same (same_hid2 sT)) (by show kl1 vw ++ kl2 vw ≠ []; simp [kl1]) (by show 16 ≤ 1000; decide) fun x dd H6 md k6 hv => ?_
        obtain ⟨nk, e1, e2, e3⟩ := keyOk_at (List.all_eq_true.mp (kl_ok v12) dd md)
        have kk := kT.trans k6
        have sp6 := sp5.keep mp kk
        have hv2 := dv_two sp6.at_ mp hv
        have key := dv_key dd x nk hv2 e1
        have hT6 : SqT K (hids [p, m] H6) T [.str "a", .int 0] := .of (by rw [hids_of (by simp [Tp, Tm])]; exact k6.1 _ _ Tp upd_same)
        obtain ⟨rs', sp', ln⟩ := sp6.put key e2 hv2 (.tup hT6 (.cons (.str "a") (.cons (.int 0) .nil))) e3 (by show 1 + 1 + (0 + 1 + 0) ≤ 10000; decide) (by omega)
        exact ⟨m, nk, _, rfl, sp6.at_, sp6.ok.ks.same hids_out, MD.KeyV.same hids_out _ _ key, e2, by rw [List.length_map]; omega, m, vo, vl, x8, _, rs', ds3, rfl, mp, nm, (k5.trans kk).mut nm mp, sp', l2, by omega⟩
      · exact ⟨m, vo, vl, x8, x9, rs3, ds3, rfl, mp, nm, k3, sp3, l2, by omega⟩
    rintro σ4 H4 ⟨m, vo, vl, x8, x9, rs4, ds4, rfl, mp, nm, k4, sp4, l2, n4⟩
    obtain ⟨o4, l4, rfl⟩ := two l2
    -- another state
    refine ⟨SrM K w p rv n vw H 11 (some (.int r)), ?_, ?_⟩
    · refine ⟨_, rfl, rfl, _, rfl, ite2 (fun e => ?_) (fun e => ?_)⟩
      · refine ⟨_, rfl, rd_lstB (H0 := H4) (ds := ol n) (p := p) (K := K) ?_ k4.2 (Same.refl _) (by show 8 ≤ 1000; decide) fun xs1 H5 l1 e1 v1 nl1 => ?_⟩
        · exact evb_cons (evb_var (by rfl) (.int n)) (evb_cons (evb_less (by rfl)) (evb_cons (evb_of ev_neg) (evb_cons (evb_of ev_non) (evb_cons (evb_of ev_bl) (evb_cons (evb_of ev_str) (evb_cons (evb_tup (evb_cons (evb_of ev_int) evb_nil) (by decide)) (evb_cons (evb_of (ev_pow ⟨by decide, by decide +kernel⟩)) evb_nil)))))))
        · have s5 : Same H4 (upd H5 l1 (.lst xs1)) := e1.trans (same_upd nl1)
          have kL : Keep p H4 (upd H5 l1 (.lst xs1)) := ⟨fun b o _ e => s5 b o e, Dice.same k4.2 s5⟩
          refine one_data kL.2 upd_same (Dice.ne (Dice.same k4.2 e1) nl1) (v1.same (same_hid2 (same_upd nl1))) (by simp [ol]) (by show 8 ≤ 1000; decide) fun x dd H6 md k6 hv => ?_
          have kk := kL.trans k6
          have sp6 := sp4.keep mp kk
          cases sp6.dv with
          | cons g1 g2 =>
          exact ⟨m, x, vl, x8, x9, rs4, [dd, l4], rfl, mp, nm, k4.trans kk, ⟨sp6.at_, sp6.ok, .cons (dv_two sp6.at_ mp hv) g2, fun d hd => by
            rcases List.mem_cons.mp hd with rfl | hd
            · exact ol_small _ md
            · exact sp6.bu d (List.mem_cons_of_mem _ hd)⟩, rfl, n4⟩
      · exact ⟨m, vo, vl, x8, x9, rs4, _, rfl, mp, nm, k4, sp4, rfl, n4⟩
    rintro σ5 H5 ⟨m, vo, vl, x8, x9, rs5, ds5, rfl, mp, nm, k5, sp5, l2, n5⟩
    obtain ⟨o5, l5, rfl⟩ := two l2
    -- another end
    refine ⟨SrM K w p rv n vw H 11 (some (.int r)), ?_, ?_⟩
    · refine ⟨_, rfl, rfl, _, rfl, ite2 (fun e => ?_) (fun e => ?_)⟩
      · refine ⟨_, rfl, rd_lstB (H0 := H5) (ds := ll) (p := p) (K := K) ?_ k5.2 (Same.refl _) (by show 8 ≤ 1000; decide) fun xs1 H6 l1 e1 v1 nl1 => ?_⟩
        · exact evb_cons (evb_of ev_str) (evb_cons (evb_of ev_str) (evb_cons (evb_of ev_non) (evb_cons (evb_of ev_int) (evb_cons (evb_tup evb_nil (by decide)) (evb_cons (evb_lst (evb_cons (evb_of ev_str) evb_nil) (by decide)) (evb_cons (evb_of ev_str) (evb_cons (evb_of ev_str) evb_nil)))))))
        · have s6 : Same H5 (upd H6 l1 (.lst xs1)) := e1.trans (same_upd nl1)
          have kL : Keep p H5 (upd H6 l1 (.lst xs1)) := ⟨fun b o _ e => s6 b o e, Dice.same k5.2 s6⟩
          refine one_data kL.2 upd_same (Dice.ne (Dice.same k5.2 e1) nl1) (v1.same (same_hid2 (same_upd nl1))) (by simp [ll]) (by show 8 ≤ 1000; decide) fun x dd H7 md k7 hv => ?_
          have kk := kL.trans k7
          have sp7 := sp5.keep mp kk
          cases sp7.dv with
          | cons g1 g2 =>
          refine ⟨m, vo, x, x8, x9, rs5, [o5, dd], rfl, mp, nm, k5.trans kk, ⟨sp7.at_, sp7.ok, .cons g1 (.cons (dv_two sp7.at_ mp hv) .nil), fun d hd => ?_⟩, rfl, n5⟩
          rcases List.mem_cons.mp hd with rfl | hd
          · exact sp7.bu _ List.mem_cons_self
          · rw [List.mem_singleton.mp hd]
            exact of_decide_eq_true (List.all_eq_true.mp ll_small dd md)
      · exact ⟨m, vo, vl, x8, x9, rs5, _, rfl, mp, nm, k5, sp5, rfl, n5⟩
    rintro σ6 H6 ⟨m, vo, vl, x8, x9, rs6, ds6, rfl, mp, nm, k6, sp6, l2, n6⟩
    have hm6 := sp6.at_
    have hb : ∀ {Hc : Hp} {t : Addr}, Keep p H6 Hc → Hc t = none → t ≠ p := fun kc nt z => by
      obtain ⟨a, b, c, e⟩ := kc.2
      rw [z, e] at nt
      cases nt
    -- another shape
    refine ⟨SrM K w p rv n vw H 11 (some (.int r)), ?_, ?_⟩
    · refine ⟨_, rfl, rfl, _, rfl, ite2 (fun e => ?_) (fun e => ⟨m, vo, vl, x8, x9, rs6, ds6, rfl, mp, nm, k6, sp6, l2, n6⟩)⟩
      refine ⟨_, rfl, _, rfl, by show 2 ≤ sizeLine; omega, fun t1 n1 => ⟨_, rfl, _, rfl, _, rfl, _, rfl, by show 4 ≤ sizeLine; omega, fun t2 n2 => ⟨_, rfl, _, rfl, _, rfl, by show 3 ≤ sizeLine; omega, fun t3 n3 => ⟨_, rfl, by show 0 ≤ sizeLine; omega, fun t4 n4 => ⟨by show 6 ≤ sizeLine; omega, fun L nL => ?_⟩⟩⟩⟩⟩
      have u1 := same_upd (o := .tup [.ref m, vo]) n1
      have u2 := same_upd (o := .tup [.ref m, vo, vl, vl]) n2
      have u3 := same_upd (o := .lst [.ref m, vo, vl]) n3
      have u4 := same_upd (o := .tup []) n4
      have kk : ∀ {Hc : Hp}, Same H6 Hc → Keep p H6 Hc := fun sc => ⟨fun b o _ e => sc b o e, Dice.same k6.2 sc⟩
      have p1 := hb (kk (Same.refl _)) n1
      have p2 := hb (kk u1) n2
      have p3 := hb (kk (u1.trans u2)) n3
      have p4 := hb (kk ((u1.trans u2).trans u3)) n4
      have sL := same_upd (o := .lst [.ref t1, .ref t2, .ref t3, .ref m, .non, .ref t4]) nL
      have pL := hb (kk (((u1.trans u2).trans u3).trans u4)) nL
      have kL := kk ((((u1.trans u2).trans u3).trans u4).trans sL)
      refine ⟨_, rfl, _, rfl, one_at (xs := [.ref t1, .ref t2, .ref t3, .ref m, .non, .ref t4]) kL.2 (.inl ⟨L, rfl, .inl (.of (by rw [hid_ne pL]; exact upd_same))⟩) (by simp) (by show 6 ≤ 1000; decide) fun x mx H7 k7 => ?_⟩
      refine q H7 x .bad (k6.trans (kL.trans k7)) ?_
      have h1 : hid p H7 t1 = some (.tup [.ref m, vo]) := by rw [hid_ne p1]; exact k7.1 _ _ p1 (sL _ _ (u4 _ _ (u3 _ _ (u2 _ _ upd_same))))
      have h2 : hid p H7 t2 = some (.tup [.ref m, vo, vl, vl]) := by rw [hid_ne p2]; exact k7.1 _ _ p2 (sL _ _ (u4 _ _ (u3 _ _ upd_same)))
      have h3 : hid p H7 t3 = some (.lst [.ref m, vo, vl]) := by rw [hid_ne p3]; exact k7.1 _ _ p3 (sL _ _ (u4 _ _ upd_same))
      have h4 : hid p H7 t4 = some (.tup []) := by rw [hid_ne p4]; exact k7.1 _ _ p4 (sL _ _ upd_same)
      have hm7 : hid p H7 m = some (dM w m (rs6.map (fun x : RX => x.1))) := by rw [hid_ne mp]; exact (kL.trans k7).1 _ _ mp hm6
      simp only [List.mem_cons, List.not_mem_nil, or_false] at mx
      rcases mx with rfl | rfl | rfl | rfl | rfl | rfl
      · exact .inr ⟨t1, _, rfl, .of h1, .inl (by show 2 ≠ 3; decide)⟩
      · exact .inr ⟨t2, _, rfl, .of h2, .inl (by show 4 ≠ 3; decide)⟩
      · exact .inl (ist_lst (.of h3))
      · exact .inl (ist_mdt hm7)
      · exact .inl (ist_dv .non (kit_tup .none))
      · exact .inr ⟨t4, _, rfl, .of h4, .inl (by show 0 ≠ 3; decide)⟩
    clear hm6 hb
    rintro σ7 H7 ⟨m, vo, vl, x8, x9, rs7, ds7, rfl, mp, nm, k7, sp7, l2, n7⟩
    have hm7 := sp7.at_
    have hb : ∀ {Hc : Hp} {t : Addr}, Keep p H7 Hc → Hc t = none → t ≠ p := fun kc nt z => by
      obtain ⟨a, b, c, e⟩ := kc.2
      rw [z, e] at nt
      cases nt
    have kk : ∀ {Hc : Hp}, Same H7 Hc → Keep p H7 Hc := fun sc => ⟨fun b o _ e => sc b o e, Dice.same k7.2 sc⟩
    refine ⟨_, rfl, rfl, _, rfl, ite2 (fun e => ?_) (fun e => ?_)⟩
    · refine ⟨_, rfl, _, rfl, m, _, rfl, hm7, fun l1 n1 => ⟨by show 0 ≤ sizeLine; omega, fun t2 n2 => ?_⟩⟩
      have u1 := same_upd (o := .lst ((rs7.map (fun x : RX => x.1)).map (fun x : MD.Row => x.2.1))) n1
      have u2 := same_upd (o := .tup []) n2
      refine ⟨_, rfl, m, _, rfl, u2 _ _ (u1 _ _ hm7), fun t3 n3 => ⟨by show 4 ≤ sizeLine; omega, fun L nL => ?_⟩⟩
      have u3 := same_upd (o := .tup ((rs7.map (fun x : RX => x.1)).map (fun x : MD.Row => x.2.1))) n3
      have kc := kk ((u1.trans u2).trans u3)
      have p1 := hb (kk (Same.refl _)) n1
      have p2 := hb (kk u1) n2
      have p3 := hb (kk (u1.trans u2)) n3
      refine one_new kc.2 nL (by simp) (by show 4 ≤ 1000; decide) fun x mx H8 k8 => ?_
      have k78 := kc.trans k8
      refine ⟨_, rfl, _, rfl, by show 3 ≤ sizeLine; omega, fun T nT => ?_⟩
      have Tp := hb k78 nT
      have uT := same_upd (o := .tup [x, vo, vl]) nT
      refine q _ (.ref T) .bad ((k7.trans k78).new2 nT) (.inr ⟨T, _, rfl, .of (by rw [hid_ne Tp]; exact upd_same), .inr ⟨x, _, rfl, ?_⟩⟩)
      simp only [List.mem_cons, List.not_mem_nil, or_false] at mx
      rcases mx with rfl | rfl | rfl | rfl
      · exact ist_lstd (.of (by rw [hid_ne p1]; exact uT _ _ (k8.1 _ _ p1 (u3 _ _ (u2 _ _ upd_same)))))
      · exact ist_dv .non (kit_ty (by decide +kernel))
      · exact ist_tupd (.of (by rw [hid_ne p2]; exact uT _ _ (k8.1 _ _ p2 (u3 _ _ upd_same))))
      · exact ist_tupd (.of (by rw [hid_ne p3]; exact uT _ _ (k8.1 _ _ p3 upd_same)))
    · refine ⟨_, rfl, _, rfl, _, rfl, by show 3 ≤ sizeLine; omega, fun T nT => ?_⟩
      exact q _ (.ref T) (.good rs7 [vo, vl] ds7) (k7.new2 nT) (sp7.good mp nT (hb (kk (Same.refl _)) nT) (by omega))
end
end J
end K0
end
/-! ### SLK -/
section
set_option Elab.async false
set_option linter.all false
set_option maxRecDepth 100000
set_option maxHeartbeats 4000000
/-! _law_spoilt_look. -/
namespace K0
open PySem PySem.Spec PyProof.Rows L2
open MD (dM KeysV KeyV)
section
variable {K : PySem.W.Frag} {H : Hp} {Q : VK} {a b : Addr} {xs ys : List V}
theorem cutV_whole {lo hi : Option Int} (h : HT.sIx xs.length 0 lo = 0 ∧ HT.sIx xs.length xs.length hi = xs.length) : cutV xs lo hi = xs := by
  unfold cutV
  rw [h.1, h.2, List.drop_zero, Nat.sub_zero, List.take_length]
theorem slA {lo hi : Option Int} (h : SqT K H a xs) (q : ∀ c H', Same H H' → SqT K H' c (cutV xs lo hi) → Q (.ref c) H') : rSlA K (.ref a) lo hi H Q :=
  ⟨a, xs, rfl, h, fun hw => q a H (Same.refl H) (by rw [cutV_whole hw]; exact h), fun _ p np => q p _ (same_upd np) (.of upd_same)⟩
theorem catA (h : SqT K H a xs) (g : SqT K H b ys) (sz : xs.length + ys.length ≤ 1000) (q : ∀ c H', Same H H' → SqT K H' c (xs ++ ys) → Q (.ref c) H') : rCatA K (.ref a) (.ref b) H Q :=
  ⟨a, b, xs, ys, rfl, rfl, h, g, by rw [sizeLine_eq]; omega, fun e => q b H (Same.refl H) (by rw [e]; exact g), fun _ e => q a H (Same.refl H) (by rw [e, List.append_nil]; exact h), fun _ _ p np => q p _ (same_upd np) (.of upd_same)⟩
theorem repA {k : Int} (h : SqT K H a xs) (ne : xs ≠ []) (h1 : 1 ≤ k) (h2 : k ≤ 1000) (sz : xs.length ≤ 1000) (q : ∀ c H', Same H H' → SqT K H' c (List.replicate k.toNat xs).flatten → Q (.ref c) H') : rRepA K (.ref a) (.int k) H Q :=
  ⟨a, k, xs, rfl, rfl, h, ne, h1, h2, sz, fun e => q a H (Same.refl H) (by rw [e]; show SqT K H a (List.replicate 1 xs).flatten; rw [List.replicate_one, List.flatten_singleton]; exact h), fun _ p np => q p _ (same_upd np) (.of upd_same)⟩
end
theorem atI_nat {xs : List V} {i : Nat} {x : V} (h : xs[i]? = some x) : atI xs ((i : Nat) : Int) = some x := by
  have lt := (List.getElem?_eq_some_iff.mp h).1
  have e1 : ixN xs.length ((i : Nat) : Int) = some i := by
    unfold ixN
    rw [if_pos (Int.natCast_nonneg i), if_pos (by omega)]
    rfl
  unfold atI
  rw [e1]
  exact h
theorem pairedTake {α β : Type} {R : α → β → Prop} : ∀ {xs : List α} {ys : List β} (n : Nat), Paired R xs ys → Paired R (xs.take n) (ys.take n)
  | _, _, 0, _ => by rw [List.take_zero, List.take_zero]; exact .nil
  | _, _, n + 1, .nil => .nil
  | _, _, n + 1, .cons h t => .cons h (pairedTake n t)
theorem pairedDrop {α β : Type} {R : α → β → Prop} : ∀ {xs : List α} {ys : List β} (n : Nat), Paired R xs ys → Paired R (xs.drop n) (ys.drop n)
  | _, _, 0, h => by rw [List.drop_zero, List.drop_zero]; exact h
  | _, _, n + 1, .nil => .nil
  | _, _, n + 1, .cons h t => pairedDrop n t
theorem pairedApp {α β : Type} {R : α → β → Prop} : ∀ {xs us : List α} {ys vs : List β}, Paired R xs ys → Paired R us vs → Paired R (xs ++ us) (ys ++ vs)
  | _, _, _, _, .nil, g => g
  | _, _, _, _, .cons h t, g => .cons h (pairedApp t g)
theorem pairedRep {α β : Type} {R : α → β → Prop} {xs : List α} {ys : List β} (h : Paired R xs ys) : ∀ n : Nat, Paired R (List.replicate n xs).flatten (List.replicate n ys).flatten
  | 0 => .nil
  | n + 1 => by
    rw [List.replicate_succ, List.replicate_succ, List.flatten_cons, List.flatten_cons]
    exact pairedApp h (pairedRep h n)
theorem cut_pre (xs : List V) (n : Nat) : cutV xs none (some (n : Int)) = xs.take n := by
  show (xs.drop 0).take (HT.sIx xs.length xs.length (some (n : Int)) - 0) = _
  rw [HT.sIx_nat, List.drop_zero, Nat.sub_zero]
  by_cases h : n ≤ xs.length
  · rw [Nat.min_eq_left h]
  · rw [Nat.min_eq_right (by omega), List.take_length, List.take_of_length_le (by omega)]
theorem cut_suf (xs : List V) (n : Nat) : cutV xs (some (n : Int)) none = xs.drop n := by
  show (xs.drop (HT.sIx xs.length 0 (some (n : Int)))).take (xs.length - HT.sIx xs.length 0 (some (n : Int))) = _
  rw [HT.sIx_nat]
  by_cases h : n ≤ xs.length
  · rw [Nat.min_eq_left h, List.take_of_length_le (by rw [List.length_drop]; exact Nat.le_refl _)]
  · rw [Nat.min_eq_right (by omega), List.drop_length, List.take_nil, List.drop_of_length_le (by omega)]
abbrev slN : List Str := ["dice", "back", "at", "way", "size", "moves", "other", "row", "item", "some"]
theorem scSLook : FnScope slN ["dice", "back"] (defScope (top iSLook)) := ⟨rfl, rfl, rfl, by decide +kernel, rfl, by decide +kernel, by decide +kernel⟩
/-- a back of good states -/
structure BackAt (K : PySem.W.Frag) (w : World) (H : Hp) (tb : Addr) (xs : List V) (ls : List StD) : Prop where
  tup : SqT K H tb xs
  sts : Paired (StX K w H 2) xs ls
theorem BackAt.same {K : PySem.W.Frag} {w : World} {H H' : Hp} {tb : Addr} {xs : List V} {ls : List StD} (h : BackAt K w H tb xs ls) (e : Same H H') : BackAt K w H' tb xs ls := ⟨same_tup e h.tup, pairedI2 (fun _ _ z => z.same e) h.sts⟩
def spSLook (K : PySem.W.Frag) (w : World) : Sp := fun vs H Q _ => ∃ (p tb : Addr) (xs : List V) (ls : List StD), vs = [.ref p, .ref tb] ∧ Dice p H ∧ BackAt K w (hid p H) tb xs ls ∧ (ls.length = 1 ∨ ls.length = 2) ∧ (∀ s ∈ ls, lStD ls.length s = true ∧ fewS s) ∧
  ∀ H' x d, Keep p H H' → LookV K w (hid p H') x d → Q x H'
def kl (d : Nat) : List PyData := [.str "a", .str "b", .str "", .str "ab", .str "h", .int 0, .none, .tuple [.str "a"]]
theorem klk_ok : ((kl 0).all keyOk) = true := by decide +kernel
def vl1 (n : Int) : List PyData := [.int n, .int (-1), .none, .bool true, .str "0", .tuple [.int 0], .tuple [.str "", .int 0], .int (n - 1)]
def vl2 (n : Int) : List PyData := [.int n, .int (-1), .none, .bool true, .str "0", .int (n - 1)]
theorem vl1_small {n : Int} : ∀ d ∈ vl1 n, d.bulk ≤ 1000 := by
  intro d hd
  simp only [vl1, List.mem_cons, List.not_mem_nil, or_false] at hd
  rcases hd with rfl | rfl | rfl | rfl | rfl | rfl | rfl | rfl
  · show 0 ≤ 1000; decide
  · show 0 ≤ 1000; decide
  · show 0 ≤ 1000; decide
  · show 0 ≤ 1000; decide
  · show 1 ≤ 1000; decide
  · show 1 ≤ 1000; decide
  · show 2 ≤ 1000; decide
  · show 0 ≤ 1000; decide
theorem vl2_small {n : Int} : ∀ d ∈ vl2 n, d.bulk ≤ 1000 := by
  intro d hd
  simp only [vl2, List.mem_cons, List.not_mem_nil, or_false] at hd
  rcases hd with rfl | rfl | rfl | rfl | rfl | rfl
  · show 0 ≤ 1000; decide
  · show 0 ≤ 1000; decide
  · show 0 ≤ 1000; decide
  · show 0 ≤ 1000; decide
  · show 1 ≤ 1000; decide
  · show 0 ≤ 1000; decide
theorem sqt_unhid {K : PySem.W.Frag} {p a : Addr} {H : Hp} {xs : List V} (d : Dice p H) (h : SqT K H a xs) : SqT K (hid p H) a xs := by
  obtain ⟨i, j, l, e⟩ := d
  rcases h with (h | ⟨o, h⟩) | h
  · exact .inl (.inl (by rw [hid_ne (fun z => by rw [z, e] at h; cases h)]; exact h))
  · exact .inl (.inr ⟨o, by rw [hid_ne (fun z => by rw [z, e] at h; cases h)]; exact h⟩)
  · exact .inr h
/-- σ's form between the first statements: the row stands as a tuple -/
def LkA (K : PySem.W.Frag) (w : World) (p tb : Addr) (at' way size : Int) (H : Hp) (N : Nat) : L2.St → Hp → Prop := fun σ' H' => ∃ (m T : Addr) (o : Int) (x8 x9 : Option V) (rs : List RX), σ' = [some (.ref p), some (.ref tb), some (.int at'), some (.int way), some (.int size), some (.ref m), some (.int o), some (.ref T), x8, x9] ∧ m ≠ p ∧ H m = none ∧ Keep p H H' ∧ SpAt K w p m H' rs [.int o] [.int o] ∧ H' T = some (.tup [.ref m, .int o]) ∧ T ≠ p ∧ T ≠ m ∧ rs.length ≤ N
/-- behind them: the row is any state -/
def LkB (K : PySem.W.Frag) (w : World) (p tb : Addr) (at' way size : Int) (H : Hp) : L2.St → Hp → Prop := fun σ' H' => ∃ (m : Addr) (o : Int) (v : V) (d : StD) (x8 x9 : Option V) (rows : List MD.Row), σ' = [some (.ref p), some (.ref tb), some (.int at'), some (.int way), some (.int size), some (.ref m), some (.int o), some v, x8, x9] ∧ m ≠ p ∧ Keep p H H' ∧ H' m = some (dM w m rows) ∧ StX K w (hid p H') 2 v d
namespace J
section
variable {K : PySem.W.Frag} {H : Hp} {a b : Addr} {xs ys : List V} {Q : VK}
theorem slA {lo hi : Option Int} (h : SqT K H a xs) (q : ∀ c H', Same H H' → SqT K H' c (cutV xs lo hi) → Q (.ref c) H') : rSlA K (.ref a) lo hi H Q := by
  rw [rSlA_eq]
  exact K0.slA h q
theorem catA (h : SqT K H a xs) (g : SqT K H b ys) (sz : xs.length + ys.length ≤ 1000) (q : ∀ c H', Same H H' → SqT K H' c (xs ++ ys) → Q (.ref c) H') : rCatA K (.ref a) (.ref b) H Q := by
  rw [rCatA_eq]
  exact K0.catA h g sz q
theorem repA {k : Int} (h : SqT K H a xs) (ne : xs ≠ []) (h1 : 1 ≤ k) (h2 : k ≤ 1000) (sz : xs.length ≤ 1000) (q : ∀ c H', Same H H' → SqT K H' c (List.replicate k.toNat xs).flatten → Q (.ref c) H') : rRepA K (.ref a) (.int k) H Q := by
  rw [rRepA_eq]
  exact K0.repA h ne h1 h2 sz q
end
section
variable {P : Program} {w : World} {K : PySem.W.Frag} {mg : Str → Option Value} {base : Heap} {f fR fO : Addr} {fd fdR fdO : FuncData}
set_option maxHeartbeats 8000000 in
theorem ok_slook {k : Nat} (F : FnP K "_law_spoilt_look" iSLook f fd) (mlist : mg "list" = none) (mdict : mg "dict" = none) (mlen : mg "len" = none)
    (FR : FnOk P w K mg base CX0 (k + 4) fR fdR ["dice", "total"] spRoll) (gR : mg "_law_roll" = some (.ref fR)) (kR : PySem.W.keepIn K (.ref fR) = true) (bR : Binds K fdR ["dice", "total"] [])
    (FO : FnOk P w K mg base CX0 (k + 4) fO fdO ["dice", "items"] (spOne K)) (gO : mg "_law_one_of" = some (.ref fO)) (kO : PySem.W.keepIn K (.ref fO) = true) (bO : Binds K fdO ["dice", "items"] []) :
    FnOk P w K mg base CX0 (k + 5) f fd ["dice", "back"] (spSLook K w) := by
  refine F.ok scSLook (fun vs H Q E h => ?_) (fun cdv A outer s H vs Q E hr h => ?_)
  · obtain ⟨p, tb, xs, ls, rfl, _⟩ := h
    rfl
  · obtain ⟨p, tb, xs, ls, rfl, d0, hB, l12, good, q⟩ := h
    refine ⟨_, PSs.nox (C8.pss_cut (ps_par3 (i := 2) (j := 3) (l := 4) (by rfl) scSLook.nd rfl rfl rfl (by decide) (by decide) (by decide) rfl rfl rfl
        (pa_cons (pe_call FR hr (by rfl) gR kR bR .nil pass0 (pa_cons (pv 0) (pa_cons (pe_callB call_len_seq (by rfl) mlen PySem.boot_len (pa_cons (pv 1) pa_nil)) pa_nil))) (pa_cons (pe_call FR hr (by rfl) gR kR bR .nil pass0 (pa_cons (pv 0) (pa_cons pe_int pa_nil))) (pa_cons (pe_callB call_len_seq (by rfl) mlen PySem.boot_len (pa_cons (pv 1) pa_nil)) pa_nil))) (by rfl))
      (C8.pss_cut (ps_par (i := 5) (j := 6) (by rfl) scSLook.nd rfl rfl (by decide) rfl rfl (pa_cons (MD.pe_mcopy (by rfl) mdict (by rfl) mlist (pe_ix ix_tup (pe_ix ix_tup (pv 1) (pv 2) (fun _ _ => rfl)) pe_int (fun _ _ => rfl)) rfl hr.units) (pa_cons (pe_ix ix_tup (pe_ix ix_tup (pv 1) (pv 2) (fun _ _ => rfl)) pe_int (fun _ _ => rfl)) pa_nil)) (by rfl))
      (C8.pss_cut (ps_set (i := 7) scSLook.nd rfl (.inl rfl) (pe_tup (pa_cons (pv 5) (pa_cons (pv 6) pa_nil))))
      (C8.pss_cut (ps_if (pt_cmpR op_eq (pv 3) pe_int (nomark _))
        (C8.pss_cut (ps_set (i := 8) scSLook.nd rfl (.inl rfl) (pe_call FO hr (by rfl) gO kO bO .nil pass0 (pa_cons (pv 0) (pa_cons (pe_lst (pa_cons pe_str (pa_cons pe_str (pa_cons pe_str (pa_cons pe_str (pa_cons pe_str (pa_cons pe_int (pa_cons pe_non (pa_cons (pe_tup (pa_cons pe_str pa_nil)) pa_nil))))))))) pa_nil))))
        (pss_one (ps_mputK (K := K) (w := w) rfl rfl hr.units (pv 5) (pv 8) (pe_call FO hr (by rfl) gO kO bO .nil pass0 (pa_cons (pv 0) (pa_cons (pe_lst (pa_cons pe_int (pa_cons (pe_op op_sub (pv 4) pe_int) pa_nil))) pa_nil))) rfl))) pss_nil)
      (C8.pss_cut (ps_if (pt_cmpR op_eq (pv 3) pe_int (nomark _))
        (pss_one (ps_mputK (K := K) (w := w) rfl rfl hr.units (pv 5) pe_str (pe_call FO hr (by rfl) gO kO bO .nil pass0 (pa_cons (pv 0) (pa_cons (pe_lst (pa_cons (pv 4) (pa_cons (pe_un un_neg pe_int) (pa_cons pe_non (pa_cons pe_bl (pa_cons pe_str (pa_cons (pe_tup (pa_cons pe_int pa_nil)) (pa_cons (pe_tup (pa_cons pe_str (pa_cons pe_int pa_nil))) (pa_cons (pe_op op_sub (pv 4) pe_int) pa_nil))))))))) pa_nil))) rfl)) pss_nil)
      (C8.pss_cut (ps_if (pt_cmpR op_eq (pv 3) pe_int (nomark _))
        (pss_one (ps_set (i := 7) scSLook.nd rfl (.inl rfl) (pe_tup (pa_cons (pv 5) (pa_cons (pe_call FO hr (by rfl) gO kO bO .nil pass0 (pa_cons (pv 0) (pa_cons (pe_lst (pa_cons (pv 4) (pa_cons (pe_un un_neg pe_int) (pa_cons pe_non (pa_cons pe_bl (pa_cons pe_str (pa_cons (pe_op op_sub (pv 4) pe_int) pa_nil))))))) pa_nil))) pa_nil))))) pss_nil)
      (C8.pss_cut (ps_if (pt_cmpR op_eq (pv 3) pe_int (nomark _))
        (pss_cons (ps_set (i := 9) scSLook.nd rfl (.inl rfl) (pe_lst (pa_cons (pe_tup (pa_cons (pv 5) pa_nil)) (pa_cons (pe_tup (pa_cons (pv 5) (pa_cons (pv 6) (pa_cons pe_str pa_nil)))) (pa_cons (pe_lst (pa_cons (pv 5) (pa_cons (pv 6) pa_nil))) (pa_cons (pv 5) (pa_cons pe_non (pa_cons (pe_tup (pa_cons (pv 6) (pa_cons (pv 5) pa_nil))) (pa_cons (pe_tup (pa_cons (pe_callTy (MD.call_mlist rfl) (by rfl) mlist (by decide +kernel) (pa_cons (pv 5) pa_nil)) (pa_cons pe_int pa_nil))) pa_nil)))))))))
        (pss_one (ps_set (i := 7) scSLook.nd rfl (.inl rfl) (pe_call FO hr (by rfl) gO kO bO .nil pass0 (pa_cons (pv 0) (pa_cons (pv 9) pa_nil)))))) pss_nil)
      (pss_cons (ps_if (pt_cmpR op_eq (pv 3) pe_int (nomark _))
        (pss_cons (ps_set (i := 9) scSLook.nd rfl (.inl rfl) (pe_lst (pa_cons (pe_tup pa_nil) (pa_cons (pe_callTy call_list_of (by rfl) mlist (by decide +kernel) (pa_cons (pv 1) pa_nil)) (pa_cons (pe_ix ix_tup (pv 1) pe_int (fun _ _ => rfl)) (pa_cons pe_non (pa_cons (pe_tup (pa_cons (pv 1) pa_nil))
            (pa_cons (pe_op op_catA (pv 1) (pe_op op_repA (pe_slice sl_tupA (pv 1) po_none (po_some pe_int)) (pe_op op_sub pe_int (pv 4)))) (pa_cons (pe_op op_repA (pe_slice sl_tupA (pv 1) po_none (po_some pe_int)) pe_int) pa_nil)))))))))
        (pss_one (ps_ret (pe_call FO hr (by rfl) gO kO bO .nil pass0 (pa_cons (pv 0) (pa_cons (pv 9) pa_nil)))))) pss_nil)
      (pss_one (ps_ret (pe_op op_catA (pe_op op_catA (pe_slice sl_tupA (pv 1) po_none (po_some (pv 2))) (pe_tup (pa_cons (pv 7) pa_nil))) (pe_slice sl_tupA (pv 1) (po_some (pe_op op_add (pv 2) pe_int)) po_none))))))))))))
      , ?_⟩
    have sl : sizeLine = 16777216 := sizeLine_eq
    have pl := MD.paired_len hB.sts
    have hT := same_tup hid_out hB.tup
    have keepB : ∀ {Hc : Hp}, Keep p H Hc → BackAt K w (hid p Hc) tb xs ls := fun kc => hB.same (hid_keep kc)
    have keepT : ∀ {Hc : Hp}, Keep p H Hc → SqT K Hc tb xs := fun kc => same_tup hid_out (keepB kc).tup
    -- at, way, size
    refine ⟨fun σ' H' => ∃ (i : Nat) (way : Int), σ' = [some (.ref p), some (.ref tb), some (.int (i : Nat)), some (.int way), some (.int xs.length), none, none, none, none, none] ∧ i < xs.length ∧ Keep p H H', ?_, ?_⟩
    · refine ⟨_, rfl, _, rfl, tb, xs, rfl, .inr hT, roll_at d0 (by omega) (by omega) fun r r0 r1 H1 k1 => ⟨_, rfl, roll_at k1.2 (by decide) (by decide) fun wy w0 w1 H2 k2 => ⟨_, rfl, tb, xs, rfl, .inr (keepT (k1.trans k2)), _, _, _, rfl, r.toNat, wy, ?_, by omega, k1.trans k2⟩⟩⟩
      rw [show ((r.toNat : Nat) : Int) = r by omega]
      rfl
    rintro σ1 H1 ⟨i, way, rfl, hi, k1⟩
    -- the chosen state, copied
    have hx : xs[i]? = some xs[i] := List.getElem?_eq_getElem hi
    obtain ⟨sd, hsd, st⟩ := pairedX (keepB k1).sts hx
    obtain ⟨gsd, fsd⟩ := good sd (List.mem_of_getElem? hsd)
    cases sd with
    | bad => cases gsd
    | good rs ys ds =>
    obtain ⟨a, m0, ea, hTa, hA, l1, hm, hR, sm⟩ := st
    obtain ⟨o1, rfl⟩ : ∃ o1, ds = [o1] := one_of (by omega)
    obtain ⟨vo, rfl⟩ : ∃ vo, ys = [vo] := one_of (by have := hA.length; omega)
    obtain ⟨o, rfl, rfl⟩ : ∃ o : Int, vo = .int o ∧ o1 = .int o := by
      have z : (isNumD 0 ((ls.length : Int) - 1) o1 && rs.all fun r => isSignD r.2.1 && isNumD 0 ((ls.length : Int) - 1) r.2.2) = true := gsd
      have z := (Bool.and_eq_true_iff.mp z).1
      cases hA with
      | cons g1 _ =>
      cases g1 with
      | int o => exact ⟨o, rfl, rfl⟩
      | _ => cases z
    have hT1 := keepT k1
    have ati : atI xs ((i : Nat) : Int) = some (.ref a) := by
      have e1 : ixN xs.length ((i : Nat) : Int) = some i := by
        unfold ixN
        rw [if_pos (Int.natCast_nonneg i), if_pos (by omega)]
        rfl
      unfold atI
      rw [e1]
      show xs[i]? = _
      rw [hx, ea]
    have hTa1 := same_tup hid_out hTa
    refine ⟨fun σ' H' => ∃ (m : Addr), σ' = [some (.ref p), some (.ref tb), some (.int (i : Nat)), some (.int way), some (.int xs.length), some (.ref m), some (.int o), none, none, none] ∧ m ≠ p ∧ H m = none ∧ Keep p H H' ∧ SpAt K w p m H' rs [.int o] [.int o], ?_, ?_⟩
    · refine ⟨_, rfl, _, rfl, tb, xs, _, .ref a, rfl, rfl, hT1, ati, a, _, 0, .ref m0, rfl, rfl, hTa1, rfl, m0, _, rfl, hid_out _ _ hm, hR.ks.same hid_out, fun m nm => ?_⟩
      have s1 := same_upd (o := dM w m (rs.map (fun x : RX => x.1))) nm
      have mp : m ≠ p := fun z => by
        obtain ⟨a, b, c, e⟩ := k1.2
        rw [z, e] at nm
        cases nm
      have nmH : H m = none := by
        cases z : H m with
        | none => rfl
        | some u => rw [k1.1 _ _ mp z] at nm; cases nm
      exact ⟨_, rfl, _, rfl, tb, xs, _, .ref a, rfl, rfl, same_tup s1 hT1, ati, a, _, 1, .int o, rfl, rfl, same_tup s1 hTa1, rfl, _, _, rfl, m, rfl, mp, nmH, k1.trans ⟨fun b o _ e => s1 b o e, Dice.same k1.2 s1⟩, ⟨upd_same, hR.same (same_new2 nm), .cons (.int o) .nil, sm⟩⟩
    rintro σ2 H2 ⟨m, rfl, mp, nm, k2, sp2⟩
    -- the row
    refine ⟨LkA K w p tb (i : Nat) way xs.length H 9, ?_, ?_⟩
    · refine ⟨_, rfl, _, rfl, by show 2 ≤ sizeLine; omega, fun T nT => ?_⟩
      have sT := same_upd (o := .tup [.ref m, .int o]) nT
      have kT : Keep p H2 (upd H2 T (.tup [.ref m, .int o])) := ⟨fun b o _ e => sT b o e, Dice.same k2.2 sT⟩
      exact ⟨m, T, o, none, none, rs, rfl, mp, nm, k2.trans kT, sp2.keep mp kT, upd_same, Dice.ne k2.2 nT, (fun z => by rw [z, sp2.at_] at nT; cases nT), fsd⟩
    clear sp2 k2 hTa hA hm hR sm hTa1 ati hsd gsd fsd hx nm mp k1
    rintro σ3 H3 ⟨m, T, o, x8, x9, rs3, rfl, mp, nm, k3, sp3, hT3, Tp, Tm, n3⟩
    -- a key more
    refine ⟨LkA K w p tb (i : Nat) way xs.length H 10, ?_, ?_⟩
    · refine ⟨_, rfl, rfl, _, rfl, ite2 (fun e => ?_) (fun e => ⟨m, T, o, x8, x9, rs3, rfl, mp, nm, k3, sp3, hT3, Tp, Tm, by omega⟩)⟩
      refine ⟨fun σ' H' => ∃ x dd, σ' = [some (.ref p), some (.ref tb), some (.int (i : Nat)), some (.int way), some (.int xs.length), some (.ref m), some (.int o), some (.ref T), some x, x9] ∧ Keep p H3 H' ∧ Dv K (hid p H') x dd ∧ keyOk dd = true, ?_, ?_⟩
      · refine ⟨_, rfl, rd_lstB (H0 := H3) (ds := kl 0) (p := p) (K := K) ?_ k3.2 (Same.refl _) (by show 8 ≤ 1000; decide) fun xs1 H5 l1 e1 v1 nl1 => ?_⟩
        · exact evb_cons (evb_of ev_str) (evb_cons (evb_of ev_str) (evb_cons (evb_of ev_str) (evb_cons (evb_of ev_str) (evb_cons (evb_of ev_str) (evb_cons (evb_of ev_int) (evb_cons (evb_of ev_non) (evb_cons (evb_tup (evb_cons (evb_of ev_str) evb_nil) (by decide)) evb_nil)))))))
        · have s5 : Same H3 (upd H5 l1 (.lst xs1)) := e1.trans (same_upd nl1)
          have kL : Keep p H3 (upd H5 l1 (.lst xs1)) := ⟨fun b o _ e => s5 b o e, Dice.same k3.2 s5⟩
          exact one_data kL.2 upd_same (Dice.ne (Dice.same k3.2 e1) nl1) (v1.same (same_hid2 (same_upd nl1))) (by simp [kl]) (by show 8 ≤ 1000; decide) fun x dd H6 md k6 hv => ⟨x, dd, rfl, kL.trans k6, hv, List.all_eq_true.mp klk_ok dd md⟩
      rintro σ4 H4 ⟨x, dd, rfl, k4, hv, kok⟩
      obtain ⟨nk, e1, e2, e3⟩ := keyOk_at kok
      refine ⟨_, rfl, rd_lstB (H0 := H4) (ds := [.int 0, .int ((xs.length : Nat) - 1)]) (p := p) (K := K) ?_ k4.2 (Same.refl _) (by show 2 ≤ 1000; decide) fun xs1 H5 l1 e5 v1 nl1 => ?_⟩
      · exact evb_cons (evb_of ev_int) (evb_cons (evb_less (by rfl)) evb_nil)
      · have s5 : Same H4 (upd H5 l1 (.lst xs1)) := e5.trans (same_upd nl1)
        have kL : Keep p H4 (upd H5 l1 (.lst xs1)) := ⟨fun b o _ e => s5 b o e, Dice.same k4.2 s5⟩
        refine one_data kL.2 upd_same (Dice.ne (Dice.same k4.2 e5) nl1) (v1.same (same_hid2 (same_upd nl1))) (by simp) (by show 2 ≤ 1000; decide) fun y yd H6 md k6 hy => ?_
        have yb : yd.bulk ≤ 10000 := by
          simp only [List.mem_cons, List.not_mem_nil, or_false] at md
          rcases md with rfl | rfl <;> (show 0 ≤ 10000; decide)
        have kk := k4.trans (kL.trans k6)
        have sp6 := sp3.keep mp kk
        have hx6 := dv_two sp6.at_ mp (hv.same' (hid_keep (kL.trans k6)))
        have key := dv_key dd x nk hx6 e1
        obtain ⟨rs', sp', ln⟩ := sp6.put key e2 hx6 (dv_two sp6.at_ mp hy) e3 yb (by omega)
        exact ⟨_, rfl, _, rfl, m, nk, _, rfl, sp6.at_, sp6.ok.ks.same hids_out, MD.KeyV.same hids_out _ _ key, e2, by rw [List.length_map]; omega, m, T, o, _, x9, rs', rfl, mp, nm, (k3.trans kk).mut nm mp, sp', by rw [upd_ne Tm]; exact kk.1 _ _ Tp hT3, Tp, Tm, by omega⟩
    rintro σ4 H4 ⟨m, T, o, x8, x9, rs4, rfl, mp, nm, k4, sp4, hT4, Tp, Tm, n4⟩
    -- another value
    refine ⟨LkA K w p tb (i : Nat) way xs.length H 11, ?_, ?_⟩
    · refine ⟨_, rfl, rfl, _, rfl, ite2 (fun e => ?_) (fun e => ⟨m, T, o, x8, x9, rs4, rfl, mp, nm, k4, sp4, hT4, Tp, Tm, by omega⟩)⟩
      refine ⟨_, rfl, rd_lstB (H0 := H4) (ds := vl1 (xs.length : Nat)) (p := p) (K := K) ?_ k4.2 (Same.refl _) (by show 8 ≤ 1000; decide) fun xs1 H5 l1 e5 v1 nl1 => ?_⟩
      · exact evb_cons (evb_var (by rfl) (.int _)) (evb_cons (evb_of ev_neg) (evb_cons (evb_of ev_non) (evb_cons (evb_of ev_bl) (evb_cons (evb_of ev_str) (evb_cons (evb_tup (evb_cons (evb_of ev_int) evb_nil) (by decide)) (evb_cons (evb_tup (evb_cons (evb_of ev_str) (evb_cons (evb_of ev_int) evb_nil)) (by decide)) (evb_cons (evb_less (by rfl)) evb_nil)))))))
      · have s5 : Same H4 (upd H5 l1 (.lst xs1)) := e5.trans (same_upd nl1)
        have kL : Keep p H4 (upd H5 l1 (.lst xs1)) := ⟨fun b o _ e => s5 b o e, Dice.same k4.2 s5⟩
        refine one_data kL.2 upd_same (Dice.ne (Dice.same k4.2 e5) nl1) (v1.same (same_hid2 (same_upd nl1))) (by simp [vl1]) (by show 8 ≤ 1000; decide) fun y yd H6 md k6 hy => ?_
        have yb := vl1_small yd md
        have kk := kL.trans k6
        have sp6 := sp4.keep mp kk
        obtain ⟨rs', sp', ln⟩ := sp6.put (k := .text "a") (kd := .str "a") (.atom rfl) (by show 0 ≤ 8; decide) (.str "a") (dv_two sp6.at_ mp hy) (by decide +kernel) (by omega) (by omega)
        exact ⟨_, rfl, m, .text "a", _, rfl, sp6.at_, sp6.ok.ks.same hids_out, .atom rfl, by show 0 ≤ 8; decide, by rw [List.length_map]; omega, m, T, o, x8, x9, rs', rfl, mp, nm, (k4.trans kk).mut nm mp, sp', by rw [upd_ne Tm]; exact kk.1 _ _ Tp hT4, Tp, Tm, by omega⟩
    rintro σ5 H5 ⟨m, T, o, x8, x9, rs5, rfl, mp, nm, k5, sp5, hT5, Tp, Tm, n5⟩
    have kk5 : ∀ {H0 Hc : Hp}, Dice p H0 → Same H0 Hc → Keep p H0 Hc := fun d0 sc => ⟨fun b o _ e => sc b o e, Dice.same d0 sc⟩
    have hb : ∀ {Hc : Hp} {t : Addr}, Dice p Hc → Hc t = none → t ≠ p := fun kc nt => Dice.ne kc nt
    -- another row
    refine ⟨LkB K w p tb (i : Nat) way xs.length H, ?_, ?_⟩
    · refine ⟨_, rfl, rfl, _, rfl, ite2 (fun e => ?_) (fun e => ?_)⟩
      · refine ⟨_, rfl, _, rfl, rd_lstB (H0 := H5) (ds := vl2 (xs.length : Nat)) (p := p) (K := K) ?_ k5.2 (Same.refl _) (by show 6 ≤ 1000; decide) fun xs1 H6 l1 e5 v1 nl1 => ?_⟩
        · exact evb_cons (evb_var (by rfl) (.int _)) (evb_cons (evb_of ev_neg) (evb_cons (evb_of ev_non) (evb_cons (evb_of ev_bl) (evb_cons (evb_of ev_str) (evb_cons (evb_less (by rfl)) evb_nil)))))
        · have s5 : Same H5 (upd H6 l1 (.lst xs1)) := e5.trans (same_upd nl1)
          have kL := kk5 k5.2 s5
          refine one_data kL.2 upd_same (Dice.ne (Dice.same k5.2 e5) nl1) (v1.same (same_hid2 (same_upd nl1))) (by simp [vl2]) (by show 6 ≤ 1000; decide) fun y yd H7 md k7 hy => ?_
          have kk := kL.trans k7
          have sp7 := sp5.keep mp kk
          refine ⟨by show 2 ≤ sizeLine; omega, fun T2 nT2 => ?_⟩
          have T2p := hb kk.2 nT2
          have spy : SpAt K w p m H7 rs5 [y] [yd] := ⟨sp7.at_, sp7.ok, .cons (dv_two sp7.at_ mp hy) .nil, fun d hd => by rw [List.mem_singleton.mp hd]; exact vl2_small yd md⟩
          exact ⟨m, o, .ref T2, .good rs5 [y] [yd], x8, x9, _, rfl, mp, (k5.trans kk).new2 nT2, same_upd nT2 _ _ sp7.at_, spy.good mp nT2 T2p rfl⟩
      · have out : Same (hids [p, m] H5) (hid p H5) := (hids_sub (S := [p]) (by simp)).trans hid_hids
        exact ⟨m, o, .ref T, .good rs5 [.int o] [.int o], x8, x9, _, rfl, mp, k5, sp5.at_, T, m, rfl, .of (by rw [hid_ne Tp]; exact hT5), .cons (.int o) .nil, rfl, by rw [hid_ne mp]; exact sp5.at_, sp5.ok.same out, sp5.bu⟩
    clear sp5 hT5 Tp Tm n5 k5 mp nm
    rintro σ6 H6 ⟨m, o, v, d, x8, x9, rows, rfl, mp, k6, hm6, st6⟩
    -- another shape
    refine ⟨LkB K w p tb (i : Nat) way xs.length H, ?_, ?_⟩
    · refine ⟨_, rfl, rfl, _, rfl, ite2 (fun e => ?_) (fun e => ⟨m, o, v, d, x8, x9, rows, rfl, mp, k6, hm6, st6⟩)⟩
      refine ⟨_, rfl, by show 1 ≤ sizeLine; omega, fun t1 n1 => ⟨_, rfl, _, rfl, by show 3 ≤ sizeLine; omega, fun t2 n2 => ⟨_, rfl, _, rfl, by show 2 ≤ sizeLine; omega, fun t3 n3 => ⟨_, rfl, _, rfl, _, rfl, by show 2 ≤ sizeLine; omega, fun t4 n4 => ?_⟩⟩⟩⟩
      have u1 := same_upd (o := .tup [.ref m]) n1
      have u2 := same_upd (o := .tup [.ref m, .int o, .str ""]) n2
      have u3 := same_upd (o := .lst [.ref m, .int o]) n3
      have u4 := same_upd (o := .tup [.int o, .ref m]) n4
      refine ⟨_, rfl, m, rows, rfl, u4 _ _ (u3 _ _ (u2 _ _ (u1 _ _ hm6))), fun l5 n5 => ⟨by show 2 ≤ sizeLine; omega, fun t6 n6 => ⟨by show 7 ≤ sizeLine; omega, fun L nL => ?_⟩⟩⟩
      have u5 := same_upd (o := .lst (rows.map (fun x : MD.Row => x.2.1))) n5
      have u6 := same_upd (o := .tup [.ref l5, .int 0]) n6
      have uL := same_upd (o := .lst [.ref t1, .ref t2, .ref t3, .ref m, .non, .ref t4, .ref t6]) nL
      have d6 := k6.2
      have p1 := hb d6 n1
      have p2 := hb (Dice.same d6 u1) n2
      have p3 := hb (Dice.same d6 (u1.trans u2)) n3
      have p4 := hb (Dice.same d6 ((u1.trans u2).trans u3)) n4
      have p5 := hb (Dice.same d6 (((u1.trans u2).trans u3).trans u4)) n5
      have p6 := hb (Dice.same d6 ((((u1.trans u2).trans u3).trans u4).trans u5)) n6
      have sA := ((((u1.trans u2).trans u3).trans u4).trans u5).trans u6
      have pL := hb (Dice.same d6 sA) nL
      have kL := kk5 d6 (sA.trans uL)
      refine ⟨_, rfl, _, rfl, one_at (xs := [.ref t1, .ref t2, .ref t3, .ref m, .non, .ref t4, .ref t6]) kL.2 (.inl ⟨L, rfl, .inl (.of (by rw [hid_ne pL]; exact upd_same))⟩) (by simp) (by show 7 ≤ 1000; decide) fun x mx H7 k7 => ?_⟩
      refine ⟨m, o, x, .bad, x8, _, rows, rfl, mp, k6.trans (kL.trans k7), (kL.trans k7).1 _ _ mp hm6, ?_⟩
      have h1 : hid p H7 t1 = some (.tup [.ref m]) := by rw [hid_ne p1]; exact k7.1 _ _ p1 (uL _ _ (u6 _ _ (u5 _ _ (u4 _ _ (u3 _ _ (u2 _ _ upd_same))))))
      have h2 : hid p H7 t2 = some (.tup [.ref m, .int o, .str ""]) := by rw [hid_ne p2]; exact k7.1 _ _ p2 (uL _ _ (u6 _ _ (u5 _ _ (u4 _ _ (u3 _ _ upd_same)))))
      have h3 : hid p H7 t3 = some (.lst [.ref m, .int o]) := by rw [hid_ne p3]; exact k7.1 _ _ p3 (uL _ _ (u6 _ _ (u5 _ _ (u4 _ _ upd_same))))
      have h4 : hid p H7 t4 = some (.tup [.int o, .ref m]) := by rw [hid_ne p4]; exact k7.1 _ _ p4 (uL _ _ (u6 _ _ (u5 _ _ upd_same)))
      have h5 : hid p H7 l5 = some (.lst (rows.map (fun x : MD.Row => x.2.1))) := by rw [hid_ne p5]; exact k7.1 _ _ p5 (uL _ _ (u6 _ _ upd_same))
      have h6 : hid p H7 t6 = some (.tup [.ref l5, .int 0]) := by rw [hid_ne p6]; exact k7.1 _ _ p6 (uL _ _ upd_same)
      have hm7 : hid p H7 m = some (dM w m rows) := by rw [hid_ne mp]; exact (kL.trans k7).1 _ _ mp hm6
      simp only [List.mem_cons, List.not_mem_nil, or_false] at mx
      rcases mx with rfl | rfl | rfl | rfl | rfl | rfl | rfl
      · exact .inr ⟨t1, _, rfl, .of h1, .inl (by show 1 ≠ 2; decide)⟩
      · exact .inr ⟨t2, _, rfl, .of h2, .inl (by show 3 ≠ 2; decide)⟩
      · exact .inl (ist_lst (.of h3))
      · exact .inl (ist_mdt hm7)
      · exact .inl (ist_dv .non (kit_tup .none))
      · exact .inr ⟨t4, _, rfl, .of h4, .inr ⟨_, _, rfl, ist_dv (.int o) (kit_ty (by show kitB "int" "dict" = some false; decide +kernel))⟩⟩
      · exact .inr ⟨t6, _, rfl, .of h6, .inr ⟨_, _, rfl, ist_lstd (.of h5)⟩⟩
    clear st6 hm6 k6 mp
    rintro σ7 H7 ⟨m, o, v, d, x8, x9, rows, rfl, mp, k7, hm7, st7⟩
    have hT7 := keepT k7
    have B7 := keepB k7
    have xl : xs.length = 1 ∨ xs.length = 2 := by omega
    refine ⟨_, rfl, rfl, _, rfl, ite2 (fun e => ?_) (fun e => ?_)⟩
    · -- another look
      obtain ⟨x0, r, ex⟩ : ∃ x0 r, xs = x0 :: r := by
        cases z : xs with
        | nil => rw [z] at xl; simp at xl
        | cons x0 r => exact ⟨x0, r, rfl⟩
      obtain ⟨s0, ss, es, st0, _⟩ : ∃ s0 ss, ls = s0 :: ss ∧ StX K w (hid p H7) 2 x0 s0 ∧ True := by
        have z := B7.sts
        rw [ex] at z
        cases z with
        | cons a b => exact ⟨_, _, rfl, a, trivial⟩
      have g0 := good s0 (by rw [es]; exact List.mem_cons_self)
      have ax : atI xs 0 = some x0 := atI_nat (i := 0) (by rw [ex]; rfl)
      refine ⟨by show 0 ≤ sizeLine; omega, fun t1 n1 => ?_⟩
      have u1 := same_upd (o := .tup []) n1
      refine ⟨_, rfl, tb, xs, rfl, .inr (same_tup u1 hT7), fun l2 n2 => ?_⟩
      have u2 := same_upd (o := .lst xs) n2
      refine ⟨_, rfl, tb, xs, 0, x0, rfl, rfl, same_tup (u1.trans u2) hT7, ax, _, rfl, by show 1 ≤ sizeLine; omega, fun t3 n3 => ?_⟩
      have u3 := same_upd (o := .tup [.ref tb]) n3
      have s3 := (u1.trans u2).trans u3
      refine ⟨_, rfl, _, rfl, _, rfl, slA (same_tup s3 hT7) fun c4 H8 e8 h8 => ⟨_, rfl, _, _, rfl, rfl, repA h8 (by rw [show (1 : Int) = ((1 : Nat) : Int) from rfl, cut_pre, ex]; simp) (by omega) (by omega) (Nat.le_trans (cutV_length _ _ _) (by omega)) fun c5 H9 e9 h9 => ?_⟩⟩
      have s9 := (s3.trans e8).trans e9
      have len9 : (List.replicate (3 - (xs.length : Int)).toNat (cutV xs none (some 1))).flatten.length ≤ 10 := by
        rw [show (1 : Int) = ((1 : Nat) : Int) from rfl, cut_pre, PyProof.Rows.lm_len_rep_flat, List.length_take]
        have a1 : (3 - (xs.length : Int)).toNat ≤ 2 := by omega
        have a2 : min 1 xs.length ≤ 1 := Nat.min_le_left _ _
        have := Nat.mul_le_mul a1 a2
        omega
      refine catA (same_tup s9 hT7) h9 (by omega) fun c6 H10 e10 h10 => ?_
      have s10 := s9.trans e10
      refine ⟨_, rfl, _, rfl, slA (same_tup s10 hT7) fun c7 H11 e11 h11 => repA h11 (by rw [show (1 : Int) = ((1 : Nat) : Int) from rfl, cut_pre, ex]; simp) (by decide) (by decide) (Nat.le_trans (cutV_length _ _ _) (by omega)) fun c8 H12 e12 h12 => ⟨by show 7 ≤ sizeLine; omega, fun L nL => ?_⟩⟩
      have s12 := (s10.trans e11).trans e12
      have uL := same_upd (o := .lst [.ref t1, .ref l2, x0, .non, .ref t3, .ref c6, .ref c8]) nL
      have d7 := k7.2
      have d12 := Dice.same d7 s12
      have pL := hb d12 nL
      have kL := kk5 d7 (s12.trans uL)
      have p1 := hb d7 n1
      have p2 := hb (Dice.same d7 u1) n2
      have p3 := hb (Dice.same d7 (u1.trans u2)) n3
      refine ⟨_, rfl, _, rfl, one_at (xs := [.ref t1, .ref l2, x0, .non, .ref t3, .ref c6, .ref c8]) kL.2 (.inl ⟨L, rfl, .inl (.of (by rw [hid_ne pL]; exact upd_same))⟩) (by simp) (by show 7 ≤ 1000; decide) fun x mx H13 k13 => ?_⟩
      have kA := kL.trans k13
      have B13 := keepB (k7.trans kA)
      have sE : ∀ {Hc : Hp} {a : Addr} {zs : List V}, Same H7 Hc → Same Hc (upd H12 L (.lst [.ref t1, .ref l2, x0, .non, .ref t3, .ref c6, .ref c8])) → SqT K Hc a zs → SqT K (hid p H13) a zs := fun z1 z2 hz => same_tup (hid_keep k13) (same_tup (same_hid2 z2) (sqt_unhid (Dice.same d7 z1) hz))
      simp only [List.mem_cons, List.not_mem_nil, or_false] at mx
      rcases mx with rfl | rfl | rfl | rfl | rfl | rfl | rfl
      · refine q _ _ (.sts []) (k7.trans kA) (.inr ⟨by simp, t1, [], rfl, ?_, .nil, by decide⟩)
        exact sE u1 ((((((u2.trans u3).trans e8).trans e9).trans e10).trans e11).trans (e12.trans uL)) (.of upd_same)
      · refine q _ _ .bad (k7.trans kA) (.inr ⟨by simp, ist_lst (.of (by rw [hid_ne p2]; exact k13.1 _ _ p2 (uL _ _ (e12 _ _ (e11 _ _ (e10 _ _ (e9 _ _ (e8 _ _ (u3 _ _ upd_same)))))))))⟩)
      · have st13 := st0.same (hid_keep kA)
        cases s0 with
        | bad => cases g0.1
        | good rs0 ys0 ds0 =>
          obtain ⟨a0, m0, rfl, hT0, hA0, l0, hm0, _, _⟩ := st13
          obtain ⟨z0, rfl⟩ : ∃ z0, ds0 = [z0] := one_of (by omega)
          cases hA0 with
          | cons g1 g2 =>
          cases g2
          have zz := (Bool.and_eq_true_iff.mp (show (isNumD 0 ((ls.length : Int) - 1) z0 && rs0.all fun r => isSignD r.2.1 && isNumD 0 ((ls.length : Int) - 1) r.2.2) = true from g0.1)).1
          obtain ⟨i0, rfl, _⟩ := num_int g1 zz
          exact q _ _ (.sts [.bad, .bad]) (k7.trans kA) (.inr ⟨by simp, a0, _, rfl, hT0, .cons (.inl (ist_mdt hm0)) (.cons (.inl (ist_dv (.int i0) (kit_ty (by show kitB "int" "dict" = some false; decide +kernel)))) .nil), by show 2 ≤ 1000; decide⟩)
      · exact q _ _ dl0 (k7.trans kA) (.inl ⟨rfl, rfl⟩)
      · have st13 := st0.same (hid_keep kA)
        have hx0 : Ist K w (hid p H13) x0 "dict" false := by
          cases s0 with
          | bad => cases g0.1
          | good rs0 ys0 ds0 =>
            obtain ⟨a0, m0, rfl, hT0, _⟩ := st13
            exact ist_tupd hT0
        refine q _ _ (.sts [.bad]) (k7.trans kA) (.inr ⟨by simp, t3, [.ref tb], rfl, ?_, .cons (.inr ⟨tb, xs, rfl, B13.tup, .inr ⟨x0, r, ex, hx0⟩⟩) .nil, by show 1 ≤ 1000; decide⟩)
        exact sE s3 ((((e8.trans e9).trans e10).trans e11).trans (e12.trans uL)) (.of upd_same)
      · refine q _ _ (.sts (ls ++ (List.replicate (3 - (xs.length : Int)).toNat (ls.take 1)).flatten)) (k7.trans kA) (.inr ⟨by simp, c6, _, rfl, sE s10 (e11.trans (e12.trans uL)) h10, pairedApp B13.sts ?_, by rw [List.length_append]; omega⟩)
        rw [show (1 : Int) = ((1 : Nat) : Int) from rfl, cut_pre]
        exact pairedRep (pairedTake 1 B13.sts) _
      · refine q _ _ (.sts (List.replicate (4 : Int).toNat (ls.take 1)).flatten) (k7.trans kA) (.inr ⟨by simp, c8, _, rfl, sE s12 uL h12, ?_, ?_⟩)
        · rw [show (1 : Int) = ((1 : Nat) : Int) from rfl, cut_pre]
          exact pairedRep (pairedTake 1 B13.sts) _
        · rw [show (1 : Int) = ((1 : Nat) : Int) from rfl, cut_pre, PyProof.Rows.lm_len_rep_flat, List.length_take]
          have a2 : min 1 xs.length ≤ 1 := Nat.min_le_left _ _
          show 4 * min 1 xs.length ≤ 1000
          omega
    · -- the row in its place
      refine ⟨_, rfl, _, rfl, _, rfl, slA hT7 fun c1 H8 e8 h8 => ⟨_, rfl, by show 1 ≤ sizeLine; omega, fun t2 n2 => ?_⟩⟩
      have u2 := same_upd (o := .tup [v]) n2
      refine catA (same_tup u2 h8) (.of upd_same) (by have := cutV_length xs none (some ((i : Nat) : Int)); show _ + 1 ≤ 1000; omega) fun c3 H9 e9 h9 => ?_
      have s9 := (e8.trans u2).trans e9
      refine ⟨_, rfl, _, rfl, _, _, rfl, rfl, _, rfl, slA (same_tup s9 hT7) fun c4 H10 e10 h10 => ?_⟩
      refine catA (same_tup e10 h9) h10 (by
        have a1 := cutV_length xs none (some ((i : Nat) : Int))
        have a2 := cutV_length xs (some (((i : Nat) : Int) + 1)) none
        rw [List.length_append]
        show _ + 1 + _ ≤ 1000
        omega) fun c5 H11 e11 h11 => ?_
      have sA := (s9.trans e10).trans e11
      have kA := kk5 k7.2 sA
      have B11 := keepB (k7.trans kA)
      rw [cut_pre, show (((i : Nat) : Int) + 1) = ((i + 1 : Nat) : Int) from rfl, cut_suf] at h11
      refine q H11 (.ref c5) (.sts (ls.take i ++ [d] ++ ls.drop (i + 1))) (k7.trans kA) (.inr ⟨by simp, c5, _, rfl, sqt_unhid kA.2 h11, pairedApp (pairedApp (pairedTake i B11.sts) (.cons (st7.same (hid_keep kA)) .nil)) (pairedDrop (i + 1) B11.sts), ?_⟩)
      rw [List.length_append, List.length_append, List.length_take, List.length_drop]
      show _ + 1 + _ ≤ 1000
      omega
end
end J
end K0
end
/-! ### E0 -/
section
set_option Elab.async false
set_option linter.all false
set_option maxRecDepth 100000
set_option maxHeartbeats 4000000
/-! except (A, B, ..): how a tuple of any length is matched. -/
namespace K0
open PySem PySem.Spec PyProof.Rows PySem.W
section
variable {M : Model} {A : Around} {E : Value → Shared → Prop} {s : Shared}
theorem loopY {β : Type} {f : Value → β → Sem (ForInStep β)} {b : β} {Q : β → Shared → Prop} : ∀ (cs : List Value), (∀ c ∈ cs, ∀ Q' : ForInStep β → Shared → Prop, Q' (.yield b) s → wpAny M A (f c b) Q' E s) → Q b s → wpAny M A (forIn cs b f) Q E s
  | [], _, q => by
    rw [List.forIn_nil]
    exact wpAny_pure q
  | c :: cs, h, q => by
    rw [List.forIn_cons]
    exact wpAny_bind (h c List.mem_cons_self _ (loopY cs (fun d hd => h d (List.mem_cons_of_mem _ hd)) q))
theorem loopR {β : Type} {f : Value → β → Sem (ForInStep β)} {b dv : β} {Q : β → Shared → Prop} : ∀ (cs : List Value) (bs : List Bool), Paired (fun c i => ∀ Q' : ForInStep β → Shared → Prop, Q' (if i = true then .done dv else .yield b) s → wpAny M A (f c b) Q' E s) cs bs →
    Q (if bs.any id = true then dv else b) s → wpAny M A (forIn cs b f) Q E s
  | [], _, h, q => by
    cases h
    rw [List.forIn_nil]
    exact wpAny_pure q
  | c :: cs, i :: bs, .cons h t, q => by
    rw [List.forIn_cons]
    refine wpAny_bind (h _ ?_)
    cases i with
    | true =>
      rw [if_pos rfl]
      exact wpAny_pure (by simpa using q)
    | false =>
      rw [if_neg Bool.false_ne_true]
      exact loopR cs bs t (by simpa using q)
end
def anyB : List (Option Bool) → Option Bool
  | [] => some false
  | some b :: r => (anyB r).map (b || ·)
  | none :: _ => none
theorem exmAny_bs {K : Frag} {cls : Value} : ∀ {cs : List Value} {b : Bool}, exmAny K cls cs = some b → ∃ bs : List Bool, Paired (fun c i => exmOne K cls c = some i) cs bs ∧ bs.any id = b
  | [], b, h => ⟨[], .nil, by cases h; rfl⟩
  | c :: cs, b, h => by
    obtain ⟨b1, d1, h1, h2, rfl⟩ := exmAny_cons h
    obtain ⟨bs, p, q⟩ := exmAny_bs h2
    exact ⟨b1 :: bs, .cons h1 p, by rw [List.any_cons, q]; rfl⟩
theorem paired_mem {α β : Type} {F : α → β → Prop} : ∀ {l : List α} {m : List β}, Paired F l m → ∀ x ∈ l, ∃ y, F x y
  | _, _, .nil, _, h => nomatch h
  | _, _, .cons r t, x, h => by
    rcases List.mem_cons.mp h with rfl | h
    · exact ⟨_, r⟩
    · exact paired_mem t x h
theorem paired_map {α β : Type} {F G : α → β → Prop} : ∀ {l : List α} {m : List β}, Paired F l m → (∀ a b, F a b → G a b) → Paired G l m
  | _, _, .nil, _ => .nil
  | _, _, .cons r t, f => .cons (f _ _ r) (paired_map t f)
theorem exm_any {M : Model} {K : Frag} {cs : List Value} {cls : Value} {tp e : Addr} {b : Bool} {h : Heap} (X : K.In h) (LT : Looks M h (typeOf (.ref e)) cls) (hp : h.get? tp = some { cls := .type "tuple", data := .seq cs.toArray }) (hx : exmAny K cls cs = some b) :
    Looks M h (excMatches (.ref e) (.ref tp)) b := by
  intro A Q E s k₀ q
  obtain ⟨hh, g, d, tk, os⟩ := s
  have k : ∀ b o, h.get? b = some o → hh.get? b = some o := k₀
  have LT0 : Looks M h (isInstance (.ref tp) (.type "tuple")) true := ((Looks.ld hp).andThen .now).andThen (Looks.of_pure isSubtype_tuple_tuple)
  obtain ⟨bs, pr, eb⟩ := exmAny_bs hx
  have hp' := k _ _ hp
  unfold excMatches
  refine wpAny_bind ((LT0.keeps k).at ?_)
  dsimp only
  rw [if_pos rfl]
  first
    | refine wpAny_bind (wpAny_seqItems hp' rfl ?_)
    | refine wpAny_bind (wpAny_bind (wpAny_seqItems hp' rfl (wpAny_pure ?_)))
  dsimp only [Option.getD_some, Option.getD]
  refine wpAny_bind (wpAny_pure ?_)
  refine wpAny_bind (loopY _ (fun c hc Q' q' => ?_) ?_)
  · obtain ⟨i, hi⟩ := paired_mem pr c hc
    obtain ⟨e1, _⟩ := exm_cls (M := M) X hi
    refine wpAny_bind ((e1.keeps k).at ?_)
    simp only [Bool.not_true, Bool.false_eq_true, if_false]
    exact wpAny_pure q'
  · refine wpAny_bind ((LT.keeps k).at ?_)
    refine wpAny_bind (loopR (dv := (some true, ())) cs bs (paired_map pr fun c i hi Q' q' => ?_) ?_)
    · obtain ⟨_, e2⟩ := exm_cls (M := M) X hi
      refine wpAny_bind ((e2.keeps k).at ?_)
      cases i with
      | true => simp only [if_true] at q' ⊢; exact wpAny_pure q'
      | false => simp only [Bool.false_eq_true, if_false] at q' ⊢; exact wpAny_pure q'
    · rw [eb]
      cases b with
      | true => simp only [if_true]; exact wpAny_pure q
      | false => simp only [Bool.false_eq_true, if_false]; exact wpAny_pure q
end K0
end
/-! ### E1 -/
section
set_option Elab.async false
set_option linter.all false
set_option maxRecDepth 100000
set_option maxHeartbeats 4000000
/-! try with several clauses; a clause names a class or a tuple of classes, and may name the exception. -/
namespace K0
open PySem PySem.Spec PyProof.Rows L2
theorem flying_push {B h : Heap} {l : List Env} {a : Addr} {Z : Obj → Prop} {o : Obj} (x : HandSPX.FlyingZ B l a Z h) : HandSPX.FlyingZ B l a Z (h.push o) := by
  have k : ∀ b u, h.get? b = some u → (h.push o).get? b = some u := fun b u e => Heap.get?_push_of_some _ e
  obtain ⟨x1, x2, x3, oe, vs, T, oT, ts, y1, y2, y3, y4, y5, y6, y7, y8, y9⟩ := x
  exact ⟨fun b u e => k b u (x1 b u e), x2, Heap.FunFrames.of_keeps (fun b u e _ => ⟨u, k b u e, rfl⟩) x3, oe, vs, T, oT, ts, k _ _ y1, y2, y3, y4, y5, y6, k _ _ y7, y8, y9⟩
inductive NamesAll (X : Cx) : List Expr → List Value → Prop
  | nil : NamesAll X [] []
  | cons {x : Str} {np : Pos} {c : Value} {es : List Expr} {cs : List Value} : Names X x c → NamesAll X es cs → NamesAll X (.Name x np :: es) (c :: cs)
/-- the test of a clause -/
inductive Cls (X : Cx) : Expr → List Value → Prop
  | one {x : Str} {np : Pos} {c : Value} : Names X x c → Cls X (.Name x np) [c]
  | tup {es : List Expr} {cs : List Value} {k : Nat} {pos : Pos} : NamesAll X es cs → cs.length ≤ 1000 → Cls X (.Tuple es k pos) cs
structure HC where
  cs : List Value
  slot : Option Nat
  ts : Addr → Value → Option Addr → TS
def endsW (D : Ends) : Option Nat → Ends
  | none => D
  | some i => { nx := fun σ' H' => D.nx (σ'.set i none) H', rt := D.rt, bk := fun σ' H' => D.bk (σ'.set i none) H', ct := fun σ' H' => D.ct (σ'.set i none) H' }
def slotW (σ : L2.St) (a : Addr) : Option Nat → L2.St
  | none => σ
  | some i => σ.set i (some (.ref a))
def wAny (K : PySem.W.Frag) (Wout : WX) (D : Ends) : List HC → WX
  | [] => Wout
  | c :: r => fun cls d σ H => ∃ b, PySem.W.exmAny K cls c.cs = some b ∧ (b = true → ∀ a, H a = none → c.ts a cls d (endsW D c.slot) (slotW σ a c.slot) H) ∧ (b = false → wAny K Wout D r cls d σ H)
inductive Hds (X : Cx) : List ExceptHandler → List HC → Prop
  | nil : Hds X [] []
  | cons {t : Expr} {cs : List Value} {nm : Option Str} {sl : Option Nat} {ts : Addr → Value → Option Addr → TS} {b₀ : Stmt} {suite : List Stmt} {pos' : Pos} {hds : List ExceptHandler} {l : List HC} (ht : Cls X t cs)
      (hn : (nm = none ∧ sl = none) ∨ ∃ n i, nm = some n ∧ sl = some i ∧ X.N[i]? = some n ∧ X.env.kindOf n = some .local)
      (hs : ∀ (a : Addr) (oe : Obj) (cls : Value) (d : Option Addr) (pn : List (Addr × Obj)), Zc cls d oe → (∃ vs, oe.data = .fields vs) → PSs (X.suite a ((a, oe) :: pn)) (b₀ :: suite) (ts a cls d)) (r : Hds X hds l) :
      Hds X (.ExceptHandler (some t) nm (b₀ :: suite) pos' :: hds) (⟨cs, sl, ts⟩ :: l)
section
variable {X : Cx}
theorem names_run {pins : List (Addr × Obj)} {σ : L2.St} {H : Hp} {s : Shared} (I : Inv X pins σ H s) {pos : Pos} {E : Value → Shared → Prop} : ∀ {es : List Expr} {cs : List Value} {Q : List Value → Shared → Prop}, NamesAll X es cs → Q cs s → wpAny (model X.prog X.w) X.A (spliced (backTo pos (starEach es X.env))) Q E s
  | _, _, _, .nil, q => Calls.spliced_nil q
  | _, _, _, .cons (x := x) (np := np) (es := es) nm r, q => by
    show wpAny _ _ (spliced ((false, eval (.Name x np) X.env) :: backTo pos (starEach es X.env))) _ _ s
    refine Calls.spliced_cons ?_
    obtain ⟨g, db, z | ⟨z, bv, nn⟩⟩ := nm
    · exact ld_glob I g z (names_run I r q) db
    · exact ld_blt I g z bv (names_run I r q) nn db
/-- a clause's test: it leaves the heap but for a tuple -/
theorem cls_run {pins : List (Addr × Obj)} {σ : L2.St} {H : Hp} {s : Shared} (I : Inv X pins σ H s) {cls : Value} {e : Addr} {cs : List Value} {t : Expr} {b : Bool} {Q : Bool → Shared → Prop} {E1 E2 : Value → Shared → Prop} (LT : PySem.W.Looks (model X.prog X.w) s.heap (typeOf (.ref e)) cls)
    (c : Cls X t cs) (hb : PySem.W.exmAny X.K cls cs = some b) (q1 : Q b s) (q2 : ∀ o, Q b { s with heap := s.heap.push o }) : wpAny (model X.prog X.w) X.A (eval t X.env) (fun v s₁ => wpAny (model X.prog X.w) X.A (excMatches (.ref e) v) Q E2 s₁) E1 s := by
  cases c with
  | one nm =>
    obtain ⟨b1, d1, h1, h2, rfl⟩ := PySem.W.exmAny_cons hb
    have h3 : some false = some d1 := h2
    cases h3
    have L := PySem.W.exm_one (M := model X.prog X.w) I.kIn LT h1
    rw [Bool.or_false] at q1
    obtain ⟨g, db, z | ⟨z, bv, nn⟩⟩ := nm
    · exact ld_glob I g z (L.here q1) db
    · exact ld_blt I g z bv (L.here q1) nn db
  | tup nms hl =>
    refine wpAny_Tuple_spliced (names_run I nms ⟨Nat.le_of_lt (small1000 hl), ?_⟩)
    obtain ⟨hp, g, d, tk, os⟩ := s
    have k : ∀ b u, hp.get? b = some u → (hp.push { cls := .type "tuple", data := .seq cs.toArray }).get? b = some u := fun b u z => Heap.get?_push_of_some _ z
    have L := exm_any (M := model X.prog X.w) (I.kIn.keeps k) (LT.keeps k) (Heap.get?_push_size hp rfl) hb
    exact L.here (q2 _)
variable {body : List Stmt} {h₀ : ExceptHandler} {hds : List ExceptHandler} {l : List HC} {pos : Pos} {tb : WX → TS} {Wout : WX}
theorem ps_tryA (hs : X.stack = X.env :: X.outer) (hf : X.env.frame = some X.env.locals) (hN : X.N.Nodup) (tk : Takes X Wout)
    (hb : ∀ (W : WX) (pn : List (Addr × Obj)) (xe : Value → Shared → Prop), Takes (X.tr pn xe) W → PassesOwn (model X.prog X.w) X.A X.env xe → PSs (X.tr pn xe) body (tb W)) (hh : Hds X (h₀ :: hds) l) : PS X (.Try body (h₀ :: hds) [] [] pos) (fun D σ H => tb (wAny X.K Wout D l) D σ H) := by
  refine ⟨fun pins s σ H D I h => wpAny_Try_except ?_⟩
  have ok := I.ok
  have frames : X.A.frames = some (X.env :: X.outer) := by rw [ok.frames, hs]
  refine wpAny_mono ((hb (wAny X.K Wout D l) (X.pn ++ pins) _ (fun u s' air => ?_) PassesOwn.looking).run [] s σ H D (I.toTry _) h) (fun f s1 z => ?_) (fun e s1 z => z)
  · obtain ⟨a, B, sI, pins', σ', H', cls, d, rfl, J', gr, up, sky, na, os, ag, w⟩ := air
    have J : Inv X pins σ' H' sI := J'.ofTry ok
    have sky2 : Sky B (X.env :: X.outer) a (Zc cls d) X.env.locals s'.heap := by rw [← hs]; exact sky
    show wpAny _ _ (noteFrame (.ref a) X.env) _ _ _
    refine Sky.land Zc.steady frames hf sky2 fun h3 fl3 up3 => ?_
    have suiteAt : ∀ {h : Heap} {tk' : Nat}, HandSPX.FlyingZ B (X.env :: X.outer) a (Zc cls d) h → sI.heap.UpToSlots h → ∃ oe, (∃ vs, oe.data = .fields vs) ∧ Zc cls d oe ∧ h.get? a = some oe ∧ Inv (X.suite a ((a, oe) :: (X.pn ++ pins))) [] σ' H' { s' with heap := h } := by
      intro h tk' fl upS
      obtain ⟨oe, vs, e1, e2, e3⟩ := fl.there
      have nfr : a ∉ frs (X.env :: X.outer) := fun m => by
        obtain ⟨_, o, e4, nf⟩ := fl.2.2.1.mem m
        rw [e1] at e4
        cases e4
        exact nf vs e3
      have nL : a ≠ X.env.locals := fun z => nfr (List.mem_filterMap.mpr ⟨X.env, List.mem_cons_self, by rw [hf, z]⟩)
      have nF : a ∉ X.fs := fun m => (List.mem_filterMap.mp m).elim fun e z => nfr (List.mem_filterMap.mpr ⟨e, List.mem_cons_of_mem _ z.1, z.2⟩)
      exact ⟨oe, ⟨vs, e3⟩, e2, e1, (J.landed (s' := { s' with heap := h }) gr fl.1 upS os ag).suite e1 e3 na nL nF⟩
    have go : ∀ {hs2 : List ExceptHandler} {l2 : List HC}, Hds X hs2 l2 → wAny X.K Wout D l2 cls d σ' H' → ∀ h, HandSPX.FlyingZ B (X.env :: X.outer) a (Zc cls d) h → sI.heap.UpToSlots h → wpAny (model X.prog X.w) X.A (handleBy (.ref a) X.env hs2) (SP X pins D) X.xe { s' with heap := h } := by
      intro hs2 l2 hk
      induction hk with
      | nil =>
        intro w h fl upS
        refine wpAny_handleBy_nil ?_
        obtain ⟨k1, k2, k3, oe, vs, T, oT, ts', he, hz, hd, h1, hr⟩ := id fl
        unfold PySem.passOn
        refine wpAny_bind (wpAny_field he hd h1 ?_)
        rw [if_neg (show ¬ ((Value.ref T == Value.none) = true) by simp)]
        have out : wpAny (model X.prog X.w) X.A (setFlight (.ref a) X.env.frame) (fun _ s4 => wpAny (model X.prog X.w) X.A (throw (.ref a) : Sem Flow) (SP X pins D) X.xe s4) X.xe { s' with heap := h } := by
          rw [hf]
          exact HandSPX.setFlight_upZ fl fun h4 hh4 up4 => wpAny_throw (tk _ _ ⟨a, B, sI, pins, σ', H', cls, d, rfl, J, gr, upS.trans up4, .inr (.inr (by rw [hs]; exact hh4)), na, os, ag, w⟩)
        first
          | exact wpAny_bind (wpAny_pure (wpAny_bind out))
          | exact wpAny_bind out
      | @cons t cs nm sl ts b₀ suite pos' hds2 l3 ht hn hsu r ih =>
        intro w h fl upS
        obtain ⟨b, hb1, yes, no⟩ := w
        obtain ⟨oe, hfl, hz, he, S⟩ := suiteAt (tk' := 0) fl upS
        have LT : PySem.W.Looks (model X.prog X.w) h (typeOf (.ref a)) cls := fun A Q E s k q => wpAny_typeOf_ref (k _ _ he) (by rw [hz.1]; exact q)
        have htS : Cls (X.suite a ((a, oe) :: (X.pn ++ pins))) t cs := by
          have nmS : ∀ {es : List Expr} {cs : List Value}, NamesAll X es cs → NamesAll (X.suite a ((a, oe) :: (X.pn ++ pins))) es cs := by
            intro es cs z
            induction z with
            | nil => exact .nil
            | cons n r ih => exact .cons n ih
          cases ht with
          | one n => exact .one n
          | tup n z => exact .tup (nmS n) z
        refine wpAny_handleBy_cons (codeAny_handlers_test ?_) (by intro q; cases q)
        have next : ∀ h2, HandSPX.FlyingZ B (X.env :: X.outer) a (Zc cls d) h2 → sI.heap.UpToSlots h2 →
            (match (Except.ok (if b then Flow.brk else Flow.next) : Result) with
              | .ok .brk => codeAny (model X.prog X.w) (X.A.mark (some (.ref a))) (.handlers (.ref a) [.ExceptHandler none nm (b₀ :: suite) pos'] X.env) (fun r s₂ => match (generalizing := false) r with
                  | .ok f => (match (generalizing := false) nm with
                    | none => SP X pins D f s₂
                    | some n => wpAny (model X.prog X.w) X.A (do bindName X.env n .none; unbindBehindTheSuite X.env n pos') (fun _ s₃ => SP X pins D f s₃) X.xe s₂)
                  | .error x => cameBackBy (model X.prog X.w) X.A X.env X.xe x s₂) { s' with heap := h2 }
              | .ok _ => wpAny (model X.prog X.w) X.A (handleBy (.ref a) X.env hds2) (SP X pins D) X.xe { s' with heap := h2 }
              | .error x => cameBackBy (model X.prog X.w) X.A X.env X.xe x { s' with heap := h2 }) := by
          intro h2 fl2 up2
          cases b with
          | false => exact ih (no rfl) h2 fl2 up2
          | true =>
            rcases hn with ⟨rfl, rfl⟩ | ⟨n, i, rfl, rfl, hi, hl⟩
            · refine codeAny_handlers_suite (HandSPX.lands_againZ fl2 fun h4 fl4 up4 => ?_)
              obtain ⟨oe4, f4, z4, e4, S4⟩ := suiteAt (tk' := 0) fl4 (up2.trans up4)
              refine wpAny_mono ((hsu a oe4 cls d (X.pn ++ pins) z4 f4).run [] _ _ H' _ S4 (yes rfl a na)) (fun f s6 z => ?_) (fun _ _ z => z.elim)
              cases f with
              | next => exact z.elim fun σ6 z => z.elim fun H6 z => ⟨σ6, H6, z.1.unsuite ok, z.2⟩
              | brk => exact z.elim fun σ6 z => z.elim fun H6 z => ⟨σ6, H6, z.1.unsuite ok, z.2⟩
              | cont => exact z.elim fun σ6 z => z.elim fun H6 z => ⟨σ6, H6, z.1.unsuite ok, z.2⟩
              | ret u => obtain ⟨v6, σ6, H6, S6, r6, q6⟩ := z; exact ⟨v6, σ6, H6, S6.unsuite ok, r6, q6⟩
            · refine codeAny_handlers_suite_as (HandSPX.lands_againZ fl2 fun h4 fl4 up4 => ?_)
              obtain ⟨oe4, f4, z4, e4, S4⟩ := suiteAt (tk' := 0) fl4 (up2.trans up4)
              refine store_ok (X := X.suite a ((a, oe4) :: (X.pn ++ pins))) (v := .ref a) S4 hN hi (.inl hl) rfl (fun s5 S5 => ?_) (.inr hl)
              refine wpAny_mono ((hsu a oe4 cls d (X.pn ++ pins) z4 f4).run [] s5 _ H' _ S5 (yes rfl a na)) (fun f s6 z => ?_) (fun _ _ z => z.elim)
              cases f with
              | next => obtain ⟨σ6, H6, S6, q6⟩ := z; exact gone_ok (S6.unsuite ok) hN hi hl fun s7 J7 => ⟨_, _, J7, q6⟩
              | brk => obtain ⟨σ6, H6, S6, q6⟩ := z; exact gone_ok (S6.unsuite ok) hN hi hl fun s7 J7 => ⟨_, _, J7, q6⟩
              | cont => obtain ⟨σ6, H6, S6, q6⟩ := z; exact gone_ok (S6.unsuite ok) hN hi hl fun s7 J7 => ⟨_, _, J7, q6⟩
              | ret u => obtain ⟨v6, σ6, H6, S6, r6, q6⟩ := z; exact gone_ok (S6.unsuite ok) hN hi hl fun s7 J7 => ⟨_, _, _, J7, r6, q6⟩
        exact cls_run S LT htS hb1 (next h fl upS) fun o => next _ (flying_push fl) (upS.trans (Heap.UpToSlots.of_keeps fun b u z => Heap.get?_push_of_some _ z))
    exact go hh w h3 fl3 (up.trans up3)
  · cases f with
    | next => exact z.elim fun σ' z => z.elim fun H' z => wpAny_execs_nil ⟨σ', H', z.1.ofTry ok, z.2⟩
    | brk => exact z.elim fun σ' z => z.elim fun H' z => ⟨σ', H', z.1.ofTry ok, z.2⟩
    | cont => exact z.elim fun σ' z => z.elim fun H' z => ⟨σ', H', z.1.ofTry ok, z.2⟩
    | ret u => obtain ⟨v, σ', H', J', r, q⟩ := z; exact ⟨v, σ', H', J'.ofTry ok, r, q⟩
end
end K0
end
/-! ### MC -/
section
set_option Elab.async false
set_option linter.all false
set_option maxRecDepth 100000
set_option maxHeartbeats 4000000
/-! _law_made_cleaner, _law_made_of. -/
namespace K0
open PySem PySem.Spec PyProof.Rows L2 LamX
open MD (dM KeysV KeyV)
def WAll (W : WX) : XK := fun cls d H => ∀ σ, W cls d σ H
def tsNon : Addr → Value → Option Addr → TS := fun _ _ _ D σ H => D.rt .non H
abbrev KbC (K : PySem.W.Frag) (fd : FuncData) : Prop := KBn K fd ["self", "writer", "look", "firsts"] 2 ["look", "firsts"] (fun us ws => us ++ ws) (fun vs zs => vs ++ zs)
theorem scMadeC : FnScope ["cleaner"] ["cleaner"] (defScope (top iMade)) := ⟨rfl, rfl, rfl, by decide +kernel, rfl, by decide +kernel, by decide +kernel⟩
theorem scMadeOf : FnScope ["rows", "back", "starts"] ["rows", "back", "starts"] (defScope (top iMadeOf)) := ⟨rfl, rfl, rfl, by decide +kernel, rfl, by decide +kernel, by decide +kernel⟩
/-- from the constructor's promise: a new cleaner -/
theorem init_at {K : PySem.W.Frag} {w : World} {C CE PT : Addr} {H : Hp} {wv lv fv : V} {dw dl : WhD} {df : PyData} {Q : VK} {E : XK} (hW : WhX K w H 3 wv dw) (hL : LookV K w H lv dl) (hF : Dv K H fv df) (sz : df.bulk ≤ 10000) (few : df = .none → ∀ ss, dl = .sts ss → ss.length ≤ 1000) (tabs : Tabs [(PT, ioQ)] H)
    (good : partsD dw dl (firstD dl df) = true → ∀ H' x fv', (fv ≠ .non → fv' = fv) → ExtN H H' → Tabs [(PT, ioQ)] H' → CleanerAt K w C H' x (stsD dw) (stsD dl) fv' → Q (.ref x) H') (bad : partsD dw dl (firstD dl df) = false → ∀ H', Same H H' → E (.ref CE) none H') :
    ∀ x dx, H x = none → H dx = none → dx ≠ x → spCInit K w C CE PT [.ref x, wv, lv, fv] (upd (upd H dx (.own x)) x (.ins C dx [])) (fun v H3 => v = .non ∧ Q (.ref x) H3) E := by
  intro x dx nx ndx ne
  have s1 : Same H (upd (upd H dx (.own x)) x (.ins C dx [])) := fun b o e => by
    rw [upd_ne (ne_of_none e nx), upd_ne (ne_of_none e ndx)]
    exact e
  refine ⟨x, dx, wv, lv, fv, dw, dl, df, rfl, upd_same, hW.same s1, hL.same s1, hF.same' s1, sz, few, Tabs.ext tabs s1, fun ok H' tw tl to fv' kf ex tb hx k1 k2 => ⟨rfl, good ok H' x fv' kf (fun b o e nt => ?_) tb ⟨dx, tw, tl, to, hx, k1, k2⟩⟩, fun no H' s2 => bad no H' (s1.trans s2)⟩
  exact ex b o (ne_of_none e nx) (s1 _ _ e) nt
def spMadeC (K : PySem.W.Frag) (w : World) (C PT : Addr) : Sp := fun vs H Q _ => ∃ (t R B S : Addr) (xs ys zs : List V) (ws ls : List StD) (ds : List PyData), vs = [.ref t] ∧ WildAt K w H t R B S xs ys zs ws ls ds ∧ WildOk ws ls ds ∧ Tabs [(PT, ioQ)] H ∧
  ∀ H' x fv, ExtN H H' → Tabs [(PT, ioQ)] H' → CleanerAt K w C H' x ws ls (.ref fv) → SqT K H' fv zs → Q (.ref x) H'
def spMadeOf (K : PySem.W.Frag) (w : World) (C PT : Addr) : Sp := fun vs H Q _ => ∃ (wv lv fv : V) (dw dl : WhD) (df : PyData), vs = [wv, lv, fv] ∧ WhX K w H 3 wv dw ∧ LookV K w H lv dl ∧ Dv K H fv df ∧ df.bulk ≤ 10000 ∧ (df = .none → ∀ ss, dl = .sts ss → ss.length ≤ 1000) ∧ Tabs [(PT, ioQ)] H ∧
  (partsD dw dl (firstD dl df) = true → ∀ H' x fv', (fv ≠ .non → fv' = fv) → ExtN H H' → Tabs [(PT, ioQ)] H' → CleanerAt K w C H' x (stsD dw) (stsD dl) fv' → Q (.ref x) H') ∧
  (partsD dw dl (firstD dl df) = false → ∀ H', Same H H' → Q .non H')
theorem wild_bulk : ∀ {ds : List PyData}, (∀ d ∈ ds, d.bulk ≤ 10) → PyData.bulkAll ds ≤ 11 * ds.length
  | [], _ => Nat.le_refl _
  | d :: ds, h => by
    have a := wild_bulk fun e m => h e (List.mem_cons_of_mem _ m)
    have b := h d List.mem_cons_self
    rw [PyData.bulkAll, List.length_cons]
    omega
section
variable {P : Program} {w : World} {K : PySem.W.Frag} {mg : Str → Option Value} {base : Heap} {f fI C CE PT : Addr} {fd fdI : FuncData}
theorem ok_madeC {k : Nat} (F : FnP K "_law_made_cleaner" iMade f fd) (mtup : mg "tuple" = none) (gC : mg "Cleaner" = some (.ref C)) (M : Mk K C fI)
    (FI : FnG P w K mg base (L2.CX P w) (k + 8) fI fdI ["self", "writer", "look", "firsts"] (spCInit K w C CE PT)) (kb : KbC K fdI) :
    FnG P w K mg base CX0 (k + 10) f fd ["cleaner"] (spMadeC K w C PT) := by
  refine fnG_ofC F scMadeC (fun vs H Q E h => ?_) (fun cdv hcd A outer s H vs Q E gd hr h => ?_)
  · obtain ⟨t, R, B, S, xs, ys, zs, ws, ls, ds, rfl, _⟩ := h
    rfl
  · obtain ⟨t, R, B, S, xs, ys, zs, ws, ls, ds, rfl, W, O, tabs, q⟩ := h
    refine ⟨_, PSs.nox (pss_one (ps_ret (pe_makeKG (E := fun _ _ _ => False) M FI gd hr (by rfl) gC kb (passes_call L2.takes0 fun _ _ _ _ z => z.elim) (pa_cons (pe_callTy call_tuple_of (by rfl) mtup (by decide +kernel) (pa_cons (pe_ix ix_tup (pv 0) pe_int (fun _ _ => rfl)) pa_nil)) pa_nil)
      (pk_cons (pe_callTy call_tuple_of (by rfl) mtup (by decide +kernel) (pa_cons (pe_ix ix_tup (pv 0) pe_int (fun _ _ => rfl)) pa_nil)) (pk_cons (pe_callTy call_tuple_of (by rfl) mtup (by decide +kernel) (pa_cons (pe_ix ix_tup (pv 0) pe_int (fun _ _ => rfl)) pa_nil)) pk_nil))))), ?_⟩
    have pw := MD.paired_len W.rows
    have pb := MD.paired_len W.back
    have ps := W.starts.length
    refine ⟨_, rfl, t, _, 0, .ref R, rfl, rfl, W.tup, rfl, R, xs, rfl, .inl ⟨W.rl, fun t1 n1 => ?_⟩⟩
    have u1 := same_upd (o := .tup xs) n1
    refine ⟨_, rfl, t, _, 1, .ref B, rfl, rfl, same_tup u1 W.tup, rfl, B, ys, rfl, .inl ⟨u1.seq W.bl, fun t2 n2 => ?_⟩⟩
    have u2 := u1.trans (same_upd (o := .tup ys) n2)
    refine ⟨_, rfl, t, _, 2, .ref S, rfl, rfl, same_tup u2 W.tup, rfl, S, zs, rfl, .inl ⟨u2.seq W.sl, fun t3 n3 => ?_⟩⟩
    have l3 := same_upd (o := .tup zs) n3
    have u3 := u2.trans l3
    have W3 := W.same u3
    have bk := wild_bulk O.fb
    have l12 := O.nl
    have nf := O.nf
    have nw := O.nw
    refine ⟨rfl, rfl, ?_⟩
    refine init_at (dw := .sts ws) (dl := .sts ls) (df := .tuple ds) (E := fun _ _ _ => False) (CE := CE) (PT := PT) ⟨t1, xs, rfl, .of (l3 _ _ (same_upd n2 _ _ upd_same)), W3.rows, by omega⟩ (.inr ⟨by simp, t2, ys, rfl, .of (l3 _ _ upd_same), W3.back, by omega⟩) (.tup (.of upd_same) W3.starts) (by show PyData.bulkAll ds ≤ 10000; omega) (fun e => by cases e) (Tabs.ext tabs u3)
      (fun ok H' x fv' kf ex tb ca => ?_) (fun no => ?_)
    · have e := kf (by simp)
      subst e
      exact q H' x t3 (fun b o e nt => ex b o (u3 _ _ e) nt) tb ca (.of (ex _ _ upd_same (fun _ z => by cases z)))
    · have y := O.parts
      rw [show firstD (.sts ls) (.tuple ds) = .tuple ds from rfl, y] at no
      cases no
theorem ok_madeOf {k : Nat} (F : FnP K "_law_made_of" iMadeOf f fd) (gC : mg "Cleaner" = some (.ref C)) (gE : mg "InvalidCleaner" = some (.ref CE)) (hm : PySem.W.exmOne K (.ref CE) (.ref CE) = some true) (M : Mk K C fI)
    (FI : FnG P w K mg base (L2.CX P w) (k + 8) fI fdI ["self", "writer", "look", "firsts"] (spCInit K w C CE PT)) (kb : KbC K fdI) :
    FnG P w K mg base CX0 (k + 10) f fd ["rows", "back", "starts"] (spMadeOf K w C PT) := by
  refine fnG_ofC F scMadeOf (fun vs H Q E h => ?_) (fun cdv hcd A outer s H vs Q E gd hr h => ?_)
  · obtain ⟨wv, lv, fv, dw, dl, df, rfl, _⟩ := h
    rfl
  · obtain ⟨wv, lv, fv, dw, dl, df, rfl, hW, hL, hF, sz, few, tabs, good, bad⟩ := h
    refine ⟨_, PSs.nox (pss_one (ps_tryA (Wout := fun _ _ _ _ => False) (tb := fun W => tRet (tMakeK C 1 2 (spCInit K w C CE PT) (fun vs zs => vs ++ zs) (WAll W) (tCons (tVar 0) tNil) (tCons (tVar 1) (tCons (tVar 2) tNil)))) (l := [⟨[.ref CE], none, tsNon⟩]) rfl rfl scMadeOf.nd L2.takes0
        (fun W pn xe tk _ => pss_one (ps_ret (pe_makeKG M FI gd hr (by rfl) gC kb (passes_call tk fun cls d σ H z => z σ) (pa_cons (pv 0) pa_nil) (pk_cons (pv 1) (pk_cons (pv 2) pk_nil)))))
        (.cons (.one ⟨by rfl, by decide, .inl gE⟩) (.inl ⟨rfl, rfl⟩) (fun a oe cls d pn hz hf => pss_one (ps_ret pe_non)) .nil))), ?_⟩
    refine ⟨_, rfl, _, rfl, _, rfl, rfl, rfl, init_at hW hL hF sz few tabs (fun ok H' x fv' kf ex tb ca => good ok H' x fv' kf ex tb ca) (fun no H' s' σ => ⟨true, ?_, fun _ a na => bad no H' s', fun e => by cases e⟩)⟩
    show (match PySem.W.exmOne K (.ref CE) (.ref CE), (some false : Option Bool) with | some b, some d => some (b || d) | _, _ => none) = some true
    rw [hm]
    rfl
end
end K0
end
/-! ### A3 -/
section
set_option Elab.async false
set_option linter.all false
set_option maxRecDepth 100000
set_option maxHeartbeats 4000000
/-! A list of anything, held against the empty one; a text told sign by sign. -/
namespace K0
open PySem PySem.Spec PyProof.Rows L2
section
variable {X : Cx}
def rNil (K : PySem.W.Frag) (f : Bool → Bool) : R2 := fun x y H Q => ∃ a b xs, x = .ref a ∧ y = .ref b ∧ SqL K H a xs ∧ SqL K H b [] ∧ Q (.bl (f xs.isEmpty)) H
theorem op_eqNil (hu : X.A.units + 64 < cLine) : OpR X (compareOp .Eq) (rNil X.K id) := by
  intro pins s σ H x y v u Q I rx ry h
  obtain ⟨a, b, xs, rfl, rfl, h1, h2, q⟩ := h
  cases rx
  cases ry
  obtain ⟨its, r1, p1, _⟩ := I.list h1
  obtain ⟨its2, r2, p2, _⟩ := I.list h2
  cases r2
  show wpAny _ _ (richCompare .Eq (.ref a) (.ref b)) _ _ s
  cases r1 with
  | nil => exact SeqAt.RcAt.lists (e := fun _ => true) p1.isList p2.isList rfl (by omega) (fun j h1 _ => absurd h1 (Nat.not_lt_zero _)) X.prog X.w _ _ ⟨.bl true, H, I, rfl, q⟩
  | cons r rr => exact SeqAt.RcAt.lists_lengths p1.isList p2.isList (by simp) (by omega) X.prog X.w _ _ ⟨.bl false, H, I, rfl, q⟩
theorem op_neNil (hu : X.A.units + 64 < cLine) : OpR X (compareOp .NotEq) (rNil X.K not) := by
  intro pins s σ H x y v u Q I rx ry h
  obtain ⟨a, b, xs, rfl, rfl, h1, h2, q⟩ := h
  cases rx
  cases ry
  obtain ⟨its, r1, p1, _⟩ := I.list h1
  obtain ⟨its2, r2, p2, _⟩ := I.list h2
  cases r2
  show wpAny _ _ (richCompare .NotEq (.ref a) (.ref b)) _ _ s
  cases r1 with
  | nil => exact SeqAt.RcNeAt.lists (e := fun _ => true) p1.isList p2.isList rfl (by omega) (fun j h1 _ => absurd h1 (Nat.not_lt_zero _)) X.prog X.w _ _ ⟨.bl false, H, I, rfl, q⟩
  | cons r rr => exact SeqAt.RcNeAt.lists_lengths p1.isList p2.isList (by simp) (by omega) X.prog X.w _ _ ⟨.bl true, H, I, rfl, q⟩
end
/-- what of a text's first m signs is none of the signs -/
def badP (l : List Nat) (m : Nat) : List V := ((l.take m).filter fun c => !decide (c ∈ allSigns.cps.toList)).map fun c => V.str ⟨#[c]⟩
theorem badP_succ {l : List Nat} {m c : Nat} (h : l[m]? = some c) : badP l (m + 1) = badP l m ++ if (!decide (c ∈ allSigns.cps.toList)) = true then [V.str ⟨#[c]⟩] else [] := by
  unfold badP
  rw [List.take_add_one, h, List.filter_append, List.map_append]
  congr 1
  rw [show (some c).toList = [c] from rfl, List.filter_cons, List.filter_nil]
  split <;> rfl
theorem badP_len (l : List Nat) (m : Nat) : (badP l m).length ≤ l.length := by
  unfold badP
  rw [List.length_map]
  exact Nat.le_trans (List.length_filter_le _ _) (by rw [List.length_take]; omega)
theorem badP_end (z : Str) : (badP z.cps.toList z.cps.size).isEmpty = isTextD (.str z) := by
  unfold badP
  rw [show z.cps.size = z.cps.toList.length by simp, List.take_length]
  show _ = z.cps.toList.all fun c => allSigns.cps.contains c
  induction z.cps.toList with
  | nil => rfl
  | cons c l ih =>
    rw [List.all_cons, sg_mem, List.filter_cons]
    cases decide (c ∈ allSigns.cps.toList) with
    | true => rw [Bool.true_and, ← ih]; rfl
    | false => rfl
section
variable {P : Program} {w : World} {K : PySem.W.Frag} {mg : Str → Option Value} {base : Heap} {f : Addr} {fd : FuncData}
end
end K0
end
/-! ### LD1 -/
section
set_option Elab.async false
set_option linter.all false
set_option maxRecDepth 100000
set_option maxHeartbeats 4000000
/-! _law_is_text, _law_is_number, _law_is_sign. -/
namespace K0
open PySem PySem.Spec PyProof.Rows L2
theorem scLText : FnScope ["value", "sign"] ["value"] (defScope (top iLText)) := ⟨rfl, rfl, rfl, by decide +kernel, rfl, by decide +kernel, by decide +kernel⟩
theorem scLNum : FnScope ["value", "size"] ["value", "size"] (defScope (top iLNum)) := ⟨rfl, rfl, rfl, by decide +kernel, rfl, by decide +kernel, by decide +kernel⟩
theorem scLSign : FnScope ["value"] ["value"] (defScope (top iLSign)) := ⟨rfl, rfl, rfl, by decide +kernel, rfl, by decide +kernel, by decide +kernel⟩
def spLNum (K : PySem.W.Frag) : Sp := fun vs H Q _ => ∃ (v : V) (d : PyData) (n : Int), vs = [v, .int n] ∧ Dv K H v d ∧ Q (.bl (isNumD 0 (n - 1) d)) H
section
variable {P : Program} {w : World} {K : PySem.W.Frag} {mg : Str → Option Value} {base : Heap} {f fA fT : Addr} {fd fdA fdT : FuncData}
theorem ok_ltext {k : Nat} (F : FnP K "_law_is_text" iLText f fd) (misi : mg "isinstance" = none) (mstr : mg "str" = none)
    (FA : FnOk P w K mg base CX0 (k + 1) fA fdA [] spAll) (gA : mg "_law_all_signs" = some (.ref fA)) (kA : PySem.W.keepIn K (.ref fA) = true) (bA : Binds K fdA [] []) : FnOk P w K mg base CX0 (k + 2) f fd ["value"] (spD K isTextD) := by
  refine F.ok scLText (fun vs H Q E h => ?_) (fun cdv A outer s H vs Q E hr h => ?_)
  · obtain ⟨v, d, rfl, _⟩ := h
    rfl
  · obtain ⟨v, d, rfl, hd, sz, q⟩ := h
    refine ⟨_, PSs.nox (pss_one (ps_ret (pe_and (pe_callB call_isi (by rfl) misi boot_isinstance (pa_cons (pv 0) (pa_cons (pe_bltn (v := .ty "str") (by rfl) mstr (by decide +kernel) rfl) pa_nil)))
      (pe_one (pe_cmpR (op_eqNil hr.units) (pe_lc (own := [("sign", 1)]) (g := gName 1) rfl scLText.nd (pi_str (pv 0)) (blkOk_by (N := ["value", "sign"]) (sc := defScope (top iLText)) (by decide +kernel)) (fun _ _ _ _ _ => pg_name (i := 1) scLText.nd rfl (Or.inl rfl))
        (fun _ _ _ _ _ => pts_one (pt_cmpR op_notInS (pv 1) (pe_call0 FA hr (by rfl) gA kA bA .nil pass0) (by rfl))) (fun _ _ _ _ _ => pv 1)) (pe_lst pa_nil) (nomark _)))))), ?_⟩
    refine ⟨_, rfl, v, _, _, _, _, rfl, .ty _, hd.ty, kit_str d, _, rfl, ite2 (fun e => ?_) (fun e => ?_)⟩
    · obtain ⟨z, rfl, rfl⟩ := is_str hd e
      refine ⟨_, rfl, z, rfl, fun D nD => lc_it (walk_str (z := z)) (fun m H' => Same H H' ∧ H' D = some (.lst (badP z.cps.toList m))) ⟨same_upd nD, upd_same⟩ (fun _ _ _ _ => trivial) (fun m x H' H'' hm hP hY => ?_) (fun H' hP => ?_)⟩
      · obtain ⟨s1, hD⟩ := hP
        obtain ⟨rfl, c, hc, rfl⟩ := hY
        have hc2 : z.cps.toList[m]? = some c := by rw [← hc]; simp
        have hlen : (badP z.cps.toList m).length < sizeLine := Nat.lt_of_le_of_lt (badP_len _ m) (by rw [show z.cps.toList.length = z.cps.size by simp]; exact small5 sz)
        refine ⟨rfl, _, rfl, rfl, c, _, rfl, rfl, _, rfl, ite2 (fun b => ?_) (fun b => ?_)⟩
        · refine ⟨_, rfl, badP z.cps.toList m, hD, hlen, fun y o u => by rw [upd_ne (ne_of_none u nD)]; exact s1 _ _ u, ?_⟩
          rw [upd_same, badP_succ hc2, if_pos (show (!decide (c ∈ allSigns.cps.toList)) = true from b)]
        · refine ⟨s1, ?_⟩
          rw [badP_succ hc2, if_neg (show ¬ (!decide (c ∈ allSigns.cps.toList)) = true from b), List.append_nil]
          exact hD
      · obtain ⟨s1, hD⟩ := hP
        refine ⟨by decide, fun l nl => ⟨D, l, _, rfl, rfl, .of (same_upd nl _ _ hD), .of upd_same, ?_⟩⟩
        rw [badP_end]
        exact q _ (s1.trans (same_upd nl))
    · have q2 := q H (Same.refl H)
      rw [(not_str e).1] at q2
      exact q2
theorem ok_lnum {k : Nat} (F : FnP K "_law_is_number" iLNum f fd) (misi : mg "isinstance" = none) (mint : mg "int" = none) (mbool : mg "bool" = none) : FnOk P w K mg base CX0 (k + 1) f fd ["value", "size"] (spLNum K) := by
  refine F.ok scLNum (fun vs H Q E h => ?_) (fun cdv A outer s H vs Q E hr h => ?_)
  · obtain ⟨v, d, n, rfl, _⟩ := h
    rfl
  · obtain ⟨v, d, n, rfl, hd, q⟩ := h
    refine ⟨_, PSs.nox (pss_one (ps_ret (pe_and (pe_callB call_isi (by rfl) misi boot_isinstance (pa_cons (pv 0) (pa_cons (pe_bltn (v := .ty "int") (by rfl) mint (by decide +kernel) rfl) pa_nil))) (pe_and (pe_not (pe_callB call_isi (by rfl) misi boot_isinstance (pa_cons (pv 0) (pa_cons (pe_bltn (v := .ty "bool") (by rfl) mbool (by decide +kernel) rfl) pa_nil))))
      (pe_one (pe_chain op_le op_lt pe_int (pv 0) (pv 1))))))), ?_⟩
    refine ⟨_, rfl, v, _, _, _, _, rfl, .ty _, hd.ty, kit_int d, _, rfl, ite2 (fun e => ?_) (fun e => ?_)⟩
    · refine ⟨_, rfl, v, _, _, _, _, rfl, .ty _, hd.ty, kit_bool d, _, rfl, _, rfl, ite2 (fun e2 => ?_) (fun e2 => ?_)⟩
      · cases hd with
        | int i =>
          refine ⟨_, rfl, _, _, rfl, rfl, _, rfl, ite2 (fun e3 => ?_) (fun e3 => ?_)⟩
          · refine ⟨_, rfl, _, _, rfl, rfl, ?_⟩
            have y : isNumD 0 (n - 1) (.int i) = decide (i < n) := by
              show (decide (0 ≤ i) && decide (i ≤ n - 1)) = _
              rw [e3, Bool.true_and]
              exact decide_eq_decide.mpr (by omega)
            rw [y] at q
            exact q
          · have y : isNumD 0 (n - 1) (.int i) = false := by
              show (decide (0 ≤ i) && decide (i ≤ n - 1)) = _
              rw [Bool.eq_false_iff.mpr e3, Bool.false_and]
            rw [y] at q
            exact q
        | bl b => exact absurd (show (false = true) from e2) Bool.false_ne_true
        | _ => cases e
      · cases hd with
        | bl b => exact q
        | _ => first | exact absurd rfl e2 | cases e
    · cases hd with
      | int i => exact absurd rfl e
      | _ => exact q
theorem ok_lsign {k : Nat} (F : FnP K "_law_is_sign" iLSign f fd) (mlen : mg "len" = none)
    (FT : FnOk P w K mg base CX0 (k + 2) fT fdT ["value"] (spD K isTextD)) (gT : mg "_law_is_text" = some (.ref fT)) (kT : PySem.W.keepIn K (.ref fT) = true) (bT : Binds K fdT ["value"] []) :
    FnOk P w K mg base CX0 (k + 3) f fd ["value"] (spD K isSignD) := by
  refine F.ok scLSign (fun vs H Q E h => ?_) (fun cdv A outer s H vs Q E hr h => ?_)
  · obtain ⟨v, d, rfl, _⟩ := h
    rfl
  · obtain ⟨v, d, rfl, hd, sz, q⟩ := h
    refine ⟨_, PSs.nox (pss_one (ps_ret (pe_and (pe_call FT hr (by rfl) gT kT bT .nil pass0 (pa_cons (pv 0) pa_nil)) (pe_one (pe_cmpR op_eq (pe_callB call_len (by rfl) mlen PySem.boot_len (pa_cons (pv 0) pa_nil)) pe_int (nomark _)))))), ?_⟩
    refine ⟨_, rfl, v, d, rfl, hd, sz, fun H1 s1 => ⟨_, rfl, ite2 (fun e => ?_) (fun e => ?_)⟩⟩
    · have q1 := q H1 s1
      cases hd with
      | str z =>
        have e : sgAll z = true := e
        rw [show isSignD (.str z) = decide (z.length = 1) by show (decide (z.length = 1) && sgAll z) = _; rw [e, Bool.and_true]] at q1
        refine ⟨_, rfl, _, z.length, rfl, ⟨Nat.le_of_lt (small5 sz), rfl⟩, rfl, ?_⟩
        rw [show decide (z.length = 1) = decide (V.int ((z.length : Nat) : Int) = V.int 1) from decide_eq_decide.mpr ⟨fun h => by rw [h]; rfl, fun h => by injection h with h; omega⟩] at q1
        exact q1
      | _ => cases e
    · have q1 := q H1 s1
      rw [show isSignD d = false by
        cases d with
        | str z => show (decide (z.length = 1) && sgAll z) = _; rw [show sgAll z = false from cF e, Bool.and_false]
        | _ => rfl] at q1
      exact q1
end
end K0
end
/-! ### MD9 -/
section
set_option Elab.async false
set_option linter.all false
set_option maxRecDepth 100000
set_option maxHeartbeats 4000000
/-! d[k] while d is walked (locked). -/
namespace MD
open PySem PySem.Spec PyProof.Rows L2
section
variable {X : Cx} {pins : List (Addr × Obj)} {σ : L2.St} {H : Hp} {s : Shared} {d : Addr} {o : Obj} {kvs : List Row}
theorem atF (I : Inv X pins σ H s) (h : H d = some (.frz o (dM X.w d kvs))) (ks : KeysV X.K H kvs) : ∃ xs, Prs kvs xs ∧ At X.w s.heap d xs := by
  obtain ⟨hd, hok⟩ := I.hok d _ h
  obtain ⟨z, hs, xs, rel, o', es, ep, ho, hx, hdt, he, hn⟩ := (show ObjOk X.prog X.w H s.heap d (dM X.w d kvs) from hok).1
  exact ⟨xs, rel, o', es, ep, ho, hx, hdt, he, keysU I rel ks, hn⟩
end
def tMGetF (K : PySem.W.Frag) (w : World) (td ty : TE) : TE := fun σ H Q => td σ H fun x H1 => ty σ H1 fun y H2 => ∃ a k kvs v o, x = .ref a ∧ H2 a = some (.frz o (dM w a kvs)) ∧ KeysV K H2 kvs ∧ KeyV K H2 y k ∧ k.depth ≤ 8 ∧ look kvs k = some v ∧ Q v H2
theorem pe_mgetF {X : Cx} {o i : Expr} {pos : Pos} {td ty : TE} (hu : X.A.units + 64 < cLine) (ho : PE X o td) (hi : PE X i ty) (hs : NoSl i) : PE X (.Subscript o i pos) (tMGetF X.K X.w td ty) := by
  refine ⟨fun pins s σ H Q I h => ?_⟩
  refine subD_of PySem.F.slot_dict_getitem.lookup hs (thn (ho.run pins s σ H _ I h) fun u s1 ⟨x, H1, I1, rx, q1⟩ => thn (hi.run pins s1 σ H1 _ I1 q1) fun iv s2 ⟨y, H2, I2, ry, a, k, kvs, v, o, ex, ed, ks, n, dk, g, q2⟩ => ?_)
  subst ex
  obtain rfl : u = Value.ref a := rx
  obtain ⟨xs, r, m⟩ := atF I2 ed ks
  obtain ⟨w', hw, rw'⟩ := RelO.some_of (v := v) (o := look xs k) (by rw [← g]; exact prs_look r)
  exact ⟨m.typeIs, getItem_md (by omega) m (key_is I2 _ _ _ n ry) dk hw ⟨v, H2, I2.tok _, rw', q2⟩⟩
end MD
end
/-! ### LD2 -/
section
set_option Elab.async false
set_option linter.all false
set_option maxRecDepth 100000
set_option maxHeartbeats 4000000
/-! _law_is_look, _law_is_row. -/
namespace K0
open PySem PySem.Spec PyProof.Rows L2
open MD (dM KeysV KeyV call_isiM Itmk pi_mkeys)
theorem pe_mgetFK {X : Cx} {K : PySem.W.Frag} {w : World} {o i : Expr} {pos : Pos} {td ty : TE} (eK : X.K = K) (ew : X.w = w) (hu : X.A.units + 64 < cLine) (ho : PE X o td) (hi : PE X i ty) (hs : NoSl i) : PE X (.Subscript o i pos) (MD.tMGetF K w td ty) := by
  subst eK ew
  exact MD.pe_mgetF hu ho hi hs
theorem all_false {α : Type} {g : α → Bool} {xs : List α} {i : Nat} {x : α} (h : xs[i]? = some x) (e : g x = false) : xs.all g = false := by
  cases z : xs.all g with
  | false => rfl
  | true => rw [List.all_eq_true.mp z x (List.mem_of_getElem? h)] at e; cases e
theorem all_take {α : Type} {g : α → Bool} {xs : List α} {i : Nat} {x : α} (h : xs[i]? = some x) (t : (xs.take i).all g = true) (e : g x = true) : (xs.take (i + 1)).all g = true := by
  rw [List.take_add_one, h, List.all_append, t]
  show (true && (g x && true)) = true
  rw [e]
  rfl
theorem keys_lock {K : PySem.W.Frag} {w : World} {H : Hp} {m : Addr} {rows kvs : List MD.Row} {f : HO} (e : H m = some (dM w m rows)) (h : KeysV K H kvs) : KeysV K (upd H m f) kvs :=
  KeysV.off h (fun xs z => by rw [e] at z; cases z) (fun o xs z => by rw [e] at z; cases z)
theorem sqt_lock {K : PySem.W.Frag} {w : World} {H : Hp} {m a : Addr} {rows : List MD.Row} {f : HO} {xs : List V} (e : H m = some (dM w m rows)) (h : SqT K H a xs) : SqT K (upd H m f) a xs := by
  rcases h with (h | ⟨o, h⟩) | h
  · exact .inl (.inl (by rw [upd_ne (fun z => by rw [z, e] at h; cases h)]; exact h))
  · exact .inl (.inr ⟨o, by rw [upd_ne (fun z => by rw [z, e] at h; cases h)]; exact h⟩)
  · exact .inr h
theorem scLLook : FnScope ["value", "row", "sign"] ["value"] (defScope (top iLLook)) := ⟨rfl, rfl, rfl, by decide +kernel, rfl, by decide +kernel, by decide +kernel⟩
theorem scLRow : FnScope ["value", "size", "views", "key", "move"] ["value", "size", "views"] (defScope (top iLRow)) := ⟨rfl, rfl, rfl, by decide +kernel, rfl, by decide +kernel, by decide +kernel⟩
def spLLook (K : PySem.W.Frag) (w : World) : Sp := fun vs H Q _ => ∃ (v : V) (d : WhD), vs = [v] ∧ WhX K w H 2 v d ∧ ∀ H', Same H H' → Q (.bl (lookD d)) H'
def spLRow (K : PySem.W.Frag) (w : World) : Sp := fun vs H Q _ => ∃ (v : V) (d : StD) (m n : Int), vs = [v, .int m, .int n] ∧ StX K w H 3 v d ∧ ∀ H', Same H H' → Q (.bl (wStD m n d)) H'
section
variable {P : Program} {w : World} {K : PySem.W.Frag} {mg : Str → Option Value} {base : Heap} {f fS fN fT : Addr} {fd fdS fdN fdT : FuncData}
theorem ok_llook {k : Nat} (F : FnP K "_law_is_look" iLLook f fd) (misi : mg "isinstance" = none) (mtup : mg "tuple" = none) (mlen : mg "len" = none) (mdict : mg "dict" = none)
    (FS : FnOk P w K mg base CX0 (k + 1) fS fdS ["value"] (spD K isSignD)) (gS : mg "_law_is_sign" = some (.ref fS)) (kS : PySem.W.keepIn K (.ref fS) = true) (bS : Binds K fdS ["value"] [])
    (FN : FnOk P w K mg base CX0 (k + 1) fN fdN ["value", "size"] (spLNum K)) (gN : mg "_law_is_number" = some (.ref fN)) (kN : PySem.W.keepIn K (.ref fN) = true) (bN : Binds K fdN ["value", "size"] []) :
    FnOk P w K mg base CX0 (k + 2) f fd ["value"] (spLLook K w) := by
  refine F.ok scLLook (fun vs H Q E h => ?_) (fun cdv A outer s H vs Q E hr h => ?_)
  · obtain ⟨v, d, rfl, _⟩ := h
    rfl
  · obtain ⟨v, d, rfl, hd, q⟩ := h
    refine ⟨_, PSs.nox (pss_cons (ps_if (PW.pt (pw_or (pt_not (pt_val (pe_callB call_isiM (by rfl) misi boot_isinstance (pa_cons (pv 0) (pa_cons (pe_bltn (v := .ty "tuple") (by rfl) mtup (by decide +kernel) rfl) pa_nil)))))
          (pw_or1 (pt_not (pt_chain op_lt op_lt pe_int (pe_callB call_len_seq (by rfl) mlen PySem.boot_len (pa_cons (pv 0) pa_nil)) pe_int))))) (pss_one (ps_ret pe_bl)) pss_nil)
      (C8.pss_cut (ps_for PassesOwn.never rfl (pi_tup (pv 0)) (pg_name (i := 1) scLLook.nd rfl (.inl rfl))
        (pss_cons (ps_if (PW.pt (pw_or (pt_not (pt_val (pe_callB call_isiM (by rfl) misi boot_isinstance (pa_cons (pv 1) (pa_cons (pe_bltn (v := .ty "tuple") (by rfl) mtup (by decide +kernel) rfl) pa_nil)))))
            (pw_or (pt_cmpR op_ne (pe_callB call_len_seq (by rfl) mlen PySem.boot_len (pa_cons (pv 1) pa_nil)) pe_int (nomark _))
            (pw_or1 (pt_not (pt_val (pe_callB call_isiM (by rfl) misi boot_isinstance (pa_cons (pe_ix ix_tup (pv 1) pe_int (fun _ _ => rfl)) (pa_cons (pe_bltn (v := .ty "dict") (by rfl) mdict (by decide +kernel) rfl) pa_nil))))))))) (pss_one (ps_ret pe_bl)) pss_nil)
        (C8.pss_cut (ps_lock (ps_for PassesOwn.never rfl (pi_mkeys (pe_ix ix_tup (pv 1) pe_int (fun _ _ => rfl))) (pg_name (i := 2) scLLook.nd rfl (.inl rfl))
          (pss_one (ps_if (PW.pt (pw_or (pt_not (pt_val (pe_call FS hr (by rfl) gS kS bS .nil pass0 (pa_cons (pv 2) pa_nil))))
            (pw_or1 (pt_not (pt_val (pe_call FN hr (by rfl) gN kN bN .nil pass0 (pa_cons (pe_mgetFK (K := K) (w := w) rfl rfl hr.units (pe_ix ix_tup (pv 1) pe_int (fun _ _ => rfl)) (pv 2) (fun _ _ => rfl)) (pa_cons (pe_callB call_len_seq (by rfl) mlen PySem.boot_len (pa_cons (pv 0) pa_nil)) pa_nil)))))))) (pss_one (ps_ret pe_bl)) pss_nil))))
        (pss_one (ps_if (pt_not (pt_val (pe_call FN hr (by rfl) gN kN bN .nil pass0 (pa_cons (pe_ix ix_tup (pv 1) pe_int (fun _ _ => rfl)) (pa_cons (pe_callB call_len_seq (by rfl) mlen PySem.boot_len (pa_cons (pv 0) pa_nil)) pa_nil))))) (pss_one (ps_ret pe_bl)) pss_nil)))))
      (pss_one (ps_ret pe_bl)))), ?_⟩
    cases d with
    | bad => exact ⟨_, rfl, Ist.rd hd ⟨_, rfl, q H (Same.refl H)⟩⟩
    | sts ss =>
      obtain ⟨a, xs, rfl, hT, hP, fewx⟩ := hd
      have pl := MD.paired_len hP
      have q0 := q H (Same.refl H)
      have ed : lookD (.sts ss) = (decide (0 < ss.length) && decide (ss.length ≤ 3) && ss.all (lStD ss.length)) := rfl
      refine ⟨_, rfl, (ist_tup hT).rd ⟨_, rfl, _, rfl, a, xs, rfl, .inr hT, _, _, rfl, rfl, _, rfl, ite2 (fun e => ⟨_, _, rfl, rfl, _, rfl, ite2 (fun e2 => ?_) (fun e2 => ?_)⟩) (fun e => ⟨_, rfl, ?_⟩)⟩⟩
      · rw [ed, decide_eq_false (show ¬ ss.length ≤ 3 by have y := of_decide_eq_false (nF e2); omega), Bool.and_false, Bool.false_and] at q0
        exact q0
      · have pos : 0 < ss.length := by have y := of_decide_eq_true e; omega
        have l3 : ss.length ≤ 3 := by have y := of_decide_eq_true (nT e2); omega
        have ed2 : lookD (.sts ss) = ss.all (lStD ss.length) := by rw [ed, decide_eq_true pos, decide_eq_true l3]; rfl
        rw [ed2] at q
        refine ⟨fun σ' H' => ∃ x1 x2, σ' = [some (.ref a), x1, x2] ∧ Same H H' ∧ ss.all (lStD ss.length) = true, ?_, ?_⟩
        · refine ⟨_, rfl, a, rfl, ⟨xs, hT⟩, for_it (walk_tup (xs := xs)) (fun i σ' H' => ∃ x1 x2, σ' = [some (.ref a), x1, x2] ∧ Same H H' ∧ (ss.take i).all (lStD ss.length) = true) ⟨none, none, rfl, Same.refl H, rfl⟩ (fun i σ' H' _ hP' => ?_) (fun i x σ' H'0 H' hi hP' hY => ?_) (fun σ' H' hP' => ?_)⟩
          · obtain ⟨_, _, _, s1, _⟩ := hP'
            exact same_tup s1 hT
          · obtain ⟨x1, x2, rfl, s1, al⟩ := hP'
            obtain ⟨rfl, hx⟩ := hY
            obtain ⟨d1, h1, v1⟩ := pairedX hP hx
            have v1 := v1.same s1
            have hT1 := same_tup s1 hT
            cases d1 with
            | bad =>
              have q2 := q H' s1
              rw [all_false h1 rfl] at q2
              rcases v1 with v1 | ⟨b, ys, rfl, hT2, v1⟩
              · exact ⟨_, rfl, v1.rd ⟨_, rfl, q2⟩⟩
              · refine ⟨_, rfl, (ist_tup hT2).rd ⟨_, rfl, _, rfl, b, ys, rfl, .inr hT2, rfl, _, rfl, ite2 (fun e3 => q2) (fun e3 => ?_)⟩⟩
                have l2 : ys.length = 2 := int_eq (m := 2) e3
                obtain ⟨y, r, rfl, hy⟩ := v1.resolve_left fun z => z l2
                obtain ⟨z, rfl⟩ : ∃ z, r = [z] := by
                  match r, l2 with
                  | [z], _ => exact ⟨z, rfl⟩
                exact ⟨_, rfl, b, _, 0, y, rfl, rfl, hT2, rfl, hy.rd ⟨_, rfl, q2⟩⟩
            | good rs ys ds =>
              obtain ⟨b, m, rfl, hT2, hA, l1, hm, hR, sm⟩ := v1
              obtain ⟨o, rfl⟩ : ∃ o, ds = [o] := by
                match ds, l1 with
                | [o], _ => exact ⟨o, rfl⟩
              cases hA with
              | cons g1 hA =>
              cases hA
              rename_i vo
              refine ⟨_, rfl, (ist_tup hT2).rd ⟨_, rfl, _, rfl, b, _, rfl, .inr hT2, rfl, _, rfl, ?_⟩⟩
              refine ⟨_, rfl, b, _, 0, .ref m, rfl, rfl, hT2, rfl, (ist_md hm).rd ⟨_, rfl, ?_⟩⟩
              refine ⟨fun σ' H'' => ∃ x2, σ' = [some (.ref a), some (.ref b), x2] ∧ Same H' H'' ∧ (rs.all fun r => isSignD r.2.1 && isNumD 0 (ss.length - 1) r.2.2) = true, ?_, ?_⟩
              · refine ⟨m, _, hm, trivial, fun od => ⟨_, rfl, b, _, 0, .ref m, rfl, rfl, sqt_lock hm hT2, rfl, m, od, _, rfl, upd_same, for_it (walk_mkeys (kvs := rs.map (fun x : RX => x.1))) (fun j σ' Hj => ∃ x2, σ' = [some (.ref a), some (.ref b), x2] ∧ Same (upd H' m (.frz od (dM w m (rs.map (fun x : RX => x.1))))) Hj ∧ ((rs.take j).all fun r => isSignD r.2.1 && isNumD 0 (ss.length - 1) r.2.2) = true)
                  ⟨x2, rfl, Same.refl _, rfl⟩ (fun j σ' Hj _ hP => ?_) (fun j x σ' Hj0 Hj hj hP hY => ?_) (fun σ' Hj hP => ?_)⟩⟩
                · obtain ⟨_, _, s3, _⟩ := hP
                  exact s3 _ _ upd_same
                · obtain ⟨y2, rfl, s3, al2⟩ := hP
                  obtain ⟨rfl, p, hp, rfl⟩ := hY
                  rw [List.getElem?_map] at hp
                  obtain ⟨r, hr2, rfl⟩ := Option.map_eq_some_iff.mp hp
                  have mr := List.mem_of_getElem? hr2
                  obtain ⟨dk, dv⟩ := hR.dat r mr
                  obtain ⟨sk, sv, _⟩ := hR.small r mr
                  have dk2 := (dv_lock (f := .frz od (dM w m (rs.map (fun x : RX => x.1)))) hm _ _ dk).same' s3
                  have dv2 := (dv_lock (f := .frz od (dM w m (rs.map (fun x : RX => x.1)))) hm _ _ dv).same' s3
                  have fail : (isSignD r.2.1 && isNumD 0 (ss.length - 1) r.2.2) = false → ∀ H5, Same Hj H5 → H5 m = some (.frz od (dM w m (rs.map (fun x : RX => x.1)))) ∧ Q (.bl false) (upd H5 m (dM w m (rs.map (fun x : RX => x.1)))) := fun e5 H5 s5 => by
                    refine ⟨s5 _ _ (s3 _ _ upd_same), ?_⟩
                    have q3 := q (upd H5 m (dM w m (rs.map (fun x : RX => x.1)))) (s1.trans (same_unlock (s3.trans s5) hm))
                    rw [all_false h1 (show (isNumD 0 (ss.length - 1) o && rs.all fun r => isSignD r.2.1 && isNumD 0 (ss.length - 1) r.2.2) = false by rw [all_false hr2 e5, Bool.and_false])] at q3
                    exact q3
                  refine ⟨_, rfl, _, r.2.1, rfl, dk2, by omega, fun H5 s5 => ⟨_, rfl, ite2 (fun e5 => ?_) (fun e5 => ?_)⟩⟩
                  · exact fail (by rw [nF e5, Bool.false_and]) H5 s5
                  · have hT5 := same_tup (s3.trans s5) (sqt_lock (f := .frz od (dM w m (rs.map (fun x : RX => x.1)))) hm hT2)
                    have ks5 := ((keys_lock (f := .frz od (dM w m (rs.map (fun x : RX => x.1)))) hm hR.ks).same s3).same s5
                    obtain ⟨kv5, kd5⟩ := ks5 r.1 (List.mem_map.mpr ⟨r, mr, rfl⟩)
                    have lk : MD.look (rs.map (fun x : RX => x.1)) r.1.1 = some r.1.2.2 := MD.look_some hR.nd hR.nd (show (rs.map (fun x : RX => x.1))[j]? = some r.1 by rw [List.getElem?_map, hr2]; rfl)
                    refine ⟨_, rfl, b, _, 0, .ref m, rfl, rfl, hT5, rfl, _, rfl, m, r.1.1, _, _, od, rfl, s5 _ _ (s3 _ _ upd_same), ks5, kv5, kd5, lk, ?_⟩
                    refine ⟨_, rfl, a, xs, rfl, .inr (same_tup (s3.trans s5) (sqt_lock hm hT1)), _, r.2.2, xs.length, rfl, dv2.same' s5, _, rfl, ?_⟩
                    rw [pl]
                    refine ite2 (fun e6 => ?_) (fun e6 => ?_)
                    · exact fail (by rw [nF e6, Bool.and_false]) H5 s5
                    · exact ⟨_, rfl, s3.trans s5, all_take hr2 al2 (by rw [nT e5, nT e6]; rfl)⟩
                · obtain ⟨y2, rfl, s3, al2⟩ := hP
                  rw [List.length_map, List.take_length] at al2
                  exact ⟨s3 _ _ upd_same, y2, rfl, same_unlock s3 hm, al2⟩
              rintro σ3 H3 ⟨y2, rfl, s3, al2⟩
              refine ⟨_, rfl, b, _, 1, vo, rfl, rfl, same_tup s3 hT2, rfl, _, rfl, a, xs, rfl, .inr (same_tup s3 hT1), vo, o, xs.length, rfl, g1.same' s3, _, rfl, ?_⟩
              rw [pl]
              refine ite2 (fun e6 => ?_) (fun e6 => ?_)
              · have q3 := q H3 (s1.trans s3)
                rw [all_false h1 (show (isNumD 0 (ss.length - 1) o && rs.all fun r => isSignD r.2.1 && isNumD 0 (ss.length - 1) r.2.2) = false by rw [nF e6, Bool.false_and])] at q3
                exact q3
              · refine ⟨_, _, rfl, s1.trans s3, all_take h1 al (show (isNumD 0 (ss.length - 1) o && rs.all fun r => isSignD r.2.1 && isNumD 0 (ss.length - 1) r.2.2) = true by rw [nT e6, al2]; rfl)⟩
          · obtain ⟨x1, x2, rfl, s1, al⟩ := hP'
            rw [pl, List.take_length] at al
            exact ⟨x1, x2, rfl, s1, al⟩
        rintro σ1 H1 ⟨x1, x2, rfl, s1, al⟩
        have q3 := q H1 s1
        rw [al] at q3
        exact q3
      · rw [ed, decide_eq_false (show ¬ 0 < ss.length by have y : ¬ (0 : Int) < xs.length := fun z => e (decide_eq_true z); omega), Bool.false_and, Bool.false_and] at q0
        exact q0
end
end K0
end
/-! ### LD3 -/
section
set_option Elab.async false
set_option linter.all false
set_option maxRecDepth 100000
set_option maxHeartbeats 4000000
/-! _law_is_row. -/
namespace K0
open PySem PySem.Spec PyProof.Rows L2
open MD (dM KeysV KeyV call_isiM Itmk pi_mkeys)
section
variable {P : Program} {w : World} {K : PySem.W.Frag} {mg : Str → Option Value} {base : Heap} {f fS fN fT : Addr} {fd fdS fdN fdT : FuncData}
theorem ok_lrow {k : Nat} (F : FnP K "_law_is_row" iLRow f fd) (misi : mg "isinstance" = none) (mtup : mg "tuple" = none) (mlen : mg "len" = none) (mdict : mg "dict" = none)
    (FS : FnOk P w K mg base CX0 (k + 1) fS fdS ["value"] (spD K isSignD)) (gS : mg "_law_is_sign" = some (.ref fS)) (kS : PySem.W.keepIn K (.ref fS) = true) (bS : Binds K fdS ["value"] [])
    (FT : FnOk P w K mg base CX0 (k + 1) fT fdT ["value"] (spD K isTextD)) (gT : mg "_law_is_text" = some (.ref fT)) (kT : PySem.W.keepIn K (.ref fT) = true) (bT : Binds K fdT ["value"] [])
    (FN : FnOk P w K mg base CX0 (k + 1) fN fdN ["value", "size"] (spLNum K)) (gN : mg "_law_is_number" = some (.ref fN)) (kN : PySem.W.keepIn K (.ref fN) = true) (bN : Binds K fdN ["value", "size"] []) :
    FnOk P w K mg base CX0 (k + 2) f fd ["value", "size", "views"] (spLRow K w) := by
  refine F.ok scLRow (fun vs H Q E h => ?_) (fun cdv A outer s H vs Q E hr h => ?_)
  · obtain ⟨v, d, n, vw, rfl, _⟩ := h
    rfl
  · obtain ⟨v, d, n, vw, rfl, hd, q⟩ := h
    refine ⟨_, PSs.nox (pss_cons (ps_if (PW.pt (pw_or (pt_not (pt_val (pe_callB call_isiM (by rfl) misi boot_isinstance (pa_cons (pv 0) (pa_cons (pe_bltn (v := .ty "tuple") (by rfl) mtup (by decide +kernel) rfl) pa_nil)))))
            (pw_or (pt_cmpR op_ne (pe_callB call_len_seq (by rfl) mlen PySem.boot_len (pa_cons (pv 0) pa_nil)) pe_int (nomark _))
            (pw_or1 (pt_not (pt_val (pe_callB call_isiM (by rfl) misi boot_isinstance (pa_cons (pe_ix ix_tup (pv 0) pe_int (fun _ _ => rfl)) (pa_cons (pe_bltn (v := .ty "dict") (by rfl) mdict (by decide +kernel) rfl) pa_nil))))))))) (pss_one (ps_ret pe_bl)) pss_nil)
      (C8.pss_cut (ps_lock (ps_for PassesOwn.never rfl (pi_mkeys (pe_ix ix_tup (pv 0) pe_int (fun _ _ => rfl))) (pg_name (i := 3) scLRow.nd rfl (.inl rfl))
        (pss_cons (ps_set (i := 4) scLRow.nd rfl (.inl rfl) (pe_mgetFK (K := K) (w := w) rfl rfl hr.units (pe_ix ix_tup (pv 0) pe_int (fun _ _ => rfl)) (pv 3) (fun _ _ => rfl)))
        (pss_cons (ps_if (PW.pt (pw_or (pt_not (pt_val (pe_callB call_isi (by rfl) misi boot_isinstance (pa_cons (pv 3) (pa_cons (pe_bltn (v := .ty "tuple") (by rfl) mtup (by decide +kernel) rfl) pa_nil)))))
            (pw_or (pt_cmpR op_ne (pe_callB call_len_seq (by rfl) mlen PySem.boot_len (pa_cons (pv 3) pa_nil)) pe_int (nomark _))
            (pw_or1 (pt_not (pt_val (pe_call FS hr (by rfl) gS kS bS .nil pass0 (pa_cons (pe_ix ix_tup (pv 3) pe_int (fun _ _ => rfl)) pa_nil)))))))) (pss_one (ps_ret pe_bl)) pss_nil)
        (C8.pss_cut (ps_if (PW.pt (pw_and (pt_cmp (pc_notN (pe_ix ix_tup (pv 3) pe_int (fun _ _ => rfl)))) (pw_and1 (pt_not (pt_val (pe_call FN hr (by rfl) gN kN bN .nil pass0 (pa_cons (pe_ix ix_tup (pv 3) pe_int (fun _ _ => rfl)) (pa_cons (pv 2) pa_nil)))))))) (pss_one (ps_ret pe_bl)) pss_nil)
        (pss_cons (ps_if (PW.pt (pw_or (pt_not (pt_val (pe_callB call_isi (by rfl) misi boot_isinstance (pa_cons (pv 4) (pa_cons (pe_bltn (v := .ty "tuple") (by rfl) mtup (by decide +kernel) rfl) pa_nil)))))
            (pw_or1 (pt_cmpR op_ne (pe_callB call_len_seq (by rfl) mlen PySem.boot_len (pa_cons (pv 4) pa_nil)) pe_int (nomark _))))) (pss_one (ps_ret pe_bl)) pss_nil)
        (pss_cons (ps_if (PW.pt (pw_or (pt_not (pt_val (pe_call FT hr (by rfl) gT kT bT .nil pass0 (pa_cons (pe_ix ix_tup (pv 4) pe_int (fun _ _ => rfl)) pa_nil))))
            (pw_or1 (pt_cmpR op_gt (pe_callB call_len (by rfl) mlen PySem.boot_len (pa_cons (pe_ix ix_tup (pv 4) pe_int (fun _ _ => rfl)) pa_nil)) pe_int (nomark _))))) (pss_one (ps_ret pe_bl)) pss_nil)
        (pss_one (ps_if (pt_not (pt_val (pe_call FN hr (by rfl) gN kN bN .nil pass0 (pa_cons (pe_ix ix_tup (pv 4) pe_int (fun _ _ => rfl)) (pa_cons (pv 1) pa_nil))))) (pss_one (ps_ret pe_bl)) pss_nil)))))))))
      (pss_one (ps_ret (pe_and (pe_call FN hr (by rfl) gN kN bN .nil pass0 (pa_cons (pe_ix ix_tup (pv 0) pe_int (fun _ _ => rfl)) (pa_cons (pv 1) pa_nil))) (pe_and (pe_call FT hr (by rfl) gT kT bT .nil pass0 (pa_cons (pe_ix ix_tup (pv 0) pe_int (fun _ _ => rfl)) pa_nil))
        (pe_one (pe_cmpR op_lt (pe_callB call_len (by rfl) mlen PySem.boot_len (pa_cons (pe_ix ix_tup (pv 0) pe_int (fun _ _ => rfl)) pa_nil)) pe_int (nomark _))))))))), ?_⟩
    cases d with
    | bad =>
      have q2 := q H (Same.refl H)
      rcases hd with hd | ⟨a, xs, rfl, hT, hd⟩
      · exact ⟨_, rfl, hd.rd ⟨_, rfl, q2⟩⟩
      · refine ⟨_, rfl, (ist_tup hT).rd ⟨_, rfl, _, rfl, a, xs, rfl, .inr hT, rfl, _, rfl, ite2 (fun e3 => q2) (fun e3 => ?_)⟩⟩
        have l3 : xs.length = 3 := int_eq (m := 3) e3
        obtain ⟨x, r, rfl, hx⟩ := hd.resolve_left fun z => z l3
        obtain ⟨y, z, rfl⟩ : ∃ y z, r = [y, z] := by
          match r, l3 with
          | [y, z], _ => exact ⟨y, z, rfl⟩
        exact ⟨_, rfl, a, _, 0, x, rfl, rfl, hT, rfl, hx.rd ⟨_, rfl, q2⟩⟩
    | good rs ys ds =>
      obtain ⟨a, m, rfl, hT, hA, l1, hm, hR, sm⟩ := hd
      obtain ⟨o, l, rfl⟩ : ∃ o l, ds = [o, l] := two (by omega)
      cases hA with
      | cons g1 hA =>
      cases hA with
      | cons g2 hA =>
      cases hA
      rename_i vo vl
      refine ⟨_, rfl, (ist_tup hT).rd ⟨_, rfl, _, rfl, a, _, rfl, .inr hT, rfl, _, rfl, ?_⟩⟩
      refine ⟨_, rfl, a, _, 0, .ref m, rfl, rfl, hT, rfl, (ist_md hm).rd ⟨_, rfl, ?_⟩⟩
      obtain ⟨g, hg⟩ : ∃ g : RX → Bool, g = fun r => isSeenD vw r.2.1 && isMoveD n r.2.2 := ⟨_, rfl⟩
      have ed : wStD n vw (.good rs [vo, vl] [o, l]) = (isNumD 0 (n - 1) o && isWrittenD l && rs.all g) := by rw [hg]; rfl
      rw [ed] at q
      refine ⟨fun σ' H' => ∃ x3 x4, σ' = [some (.ref a), some (.int n), some (.int vw), x3, x4] ∧ Same H H' ∧ rs.all g = true, ?_, ?_⟩
      · refine ⟨m, _, hm, trivial, fun od => ⟨_, rfl, a, _, 0, .ref m, rfl, rfl, sqt_lock hm hT, rfl, m, od, _, rfl, upd_same, for_it (walk_mkeys (kvs := rs.map (fun x : RX => x.1))) (fun j σ' Hj => ∃ x3 x4, σ' = [some (.ref a), some (.int n), some (.int vw), x3, x4] ∧ Same (upd H m (.frz od (dM w m (rs.map (fun x : RX => x.1))))) Hj ∧ (rs.take j).all g = true)
          ⟨none, none, rfl, Same.refl _, rfl⟩ (fun j σ' Hj _ hP => ?_) (fun j x σ' Hj0 Hj hj hP hY => ?_) (fun σ' Hj hP => ?_)⟩⟩
        · obtain ⟨_, _, _, s3, _⟩ := hP
          exact s3 _ _ upd_same
        · obtain ⟨y3, y4, rfl, s3, al2⟩ := hP
          obtain ⟨rfl, p, hp, rfl⟩ := hY
          rw [List.getElem?_map] at hp
          obtain ⟨r, hr2, rfl⟩ := Option.map_eq_some_iff.mp hp
          have mr := List.mem_of_getElem? hr2
          obtain ⟨⟨nk, kV, vV⟩, kd, vd⟩ := r
          obtain ⟨dk, dv⟩ := hR.dat _ mr
          obtain ⟨sk, sv, _⟩ := hR.small _ mr
          have dk2 := (dv_lock (f := .frz od (dM w m (rs.map (fun x : RX => x.1)))) hm _ _ dk).same' s3
          have dv2 := (dv_lock (f := .frz od (dM w m (rs.map (fun x : RX => x.1)))) hm _ _ dv).same' s3
          have ks3 := (keys_lock (f := .frz od (dM w m (rs.map (fun x : RX => x.1)))) hm hR.ks).same s3
          obtain ⟨kv3, kd3⟩ := ks3 (nk, kV, vV) (List.mem_map.mpr ⟨_, mr, rfl⟩)
          have lk : MD.look (rs.map (fun x : RX => x.1)) nk = some vV := MD.look_some hR.nd hR.nd (show (rs.map (fun x : RX => x.1))[j]? = some (nk, kV, vV) by rw [List.getElem?_map, hr2]; rfl)
          have hT3 := same_tup s3 (sqt_lock (f := .frz od (dM w m (rs.map (fun x : RX => x.1)))) hm hT)
          have fail : g ((nk, kV, vV), kd, vd) = false → ∀ H5, Same Hj H5 → H5 m = some (.frz od (dM w m (rs.map (fun x : RX => x.1)))) ∧ Q (.bl false) (upd H5 m (dM w m (rs.map (fun x : RX => x.1)))) := fun e5 H5 s5 => by
            refine ⟨s5 _ _ (s3 _ _ upd_same), ?_⟩
            have q3 := q (upd H5 m (dM w m (rs.map (fun x : RX => x.1)))) (same_unlock (s3.trans s5) hm)
            rw [all_false hr2 e5, Bool.and_false] at q3
            exact q3
          have gr : g ((nk, kV, vV), kd, vd) = (isSeenD vw kd && isMoveD n vd) := by rw [hg]
          refine ⟨_, rfl, a, _, 0, .ref m, rfl, rfl, hT3, rfl, _, rfl, m, nk, _, _, od, rfl, s3 _ _ upd_same, ks3, kv3, kd3, lk, ?_⟩
          -- the key
          have dk2 : Dv K Hj kV kd := dk2
          have dv2 : Dv K Hj vV vd := dv2
          have sk : kd.bulk ≤ 1000 := sk
          have sv : vd.bulk ≤ 10000 := sv
          refine ⟨_, rfl, _, .ty "tuple", _, _, _, rfl, .ty _, dk2.ty, kit_tup kd, _, rfl, ite2 (fun e => ?_) (fun e => ?_)⟩
          · exact fail (by rw [gr, (not_tupD (m := 0) (nF e)).1, Bool.false_and]) Hj (Same.refl Hj)
          obtain ⟨ka, kxs, kds, rfl, rfl, kT, kA⟩ := is_tup dk2 (nT e)
          have kl := kA.length
          have bk : PyData.bulkAll kds ≤ 1000 := sk
          refine ⟨_, rfl, ka, kxs, rfl, .inr kT, rfl, _, rfl, ite2 (fun e3 => ?_) (fun e3 => ?_)⟩
          · exact fail (by rw [gr, (not_two (m := 0) (kl ▸ int_ne (m := 2) e3)).1, Bool.false_and]) Hj (Same.refl Hj)
          obtain ⟨s1, s2, rfl⟩ := two (kl ▸ int_eq (m := 2) e3)
          cases kA with
          | cons k1 kA =>
          cases kA with
          | cons k2 kA =>
          cases kA
          rename_i u1 u2
          rw [PyData.bulkAll, PyData.bulkAll] at bk
          have sn : isSeenD vw (.tuple [s1, s2]) = (isSignD s1 && isViewD vw s2) := rfl
          refine ⟨_, rfl, ka, _, 0, u1, rfl, rfl, kT, rfl, u1, s1, rfl, k1, by omega, fun H5 s5 => ⟨_, rfl, ite2 (fun e4 => ?_) (fun e4 => ?_)⟩⟩
          · exact fail (by rw [gr, sn, nF e4, Bool.false_and, Bool.false_and]) H5 s5
          have kT5 := same_tup s5 kT
          -- its view
          refine ⟨fun σ' H6 => σ' = [some (.ref a), some (.int n), some (.int vw), some (.ref ka), some vV] ∧ Same Hj H6 ∧ isViewD vw s2 = true, ?_, ?_⟩
          · refine ⟨_, rfl, ka, _, 1, u2, rfl, rfl, kT5, rfl, _, rfl, ite2 (fun e5 => ?_) (fun e5 => ?_)⟩
            · have un : u2 ≠ .non := fun z => by rw [z] at e5; cases e5
              have kT5' := kT5
              refine ⟨_, rfl, ka, _, 1, u2, rfl, rfl, kT5', rfl, _, rfl, u2, s2, vw, rfl, k2.same' s5, _, rfl, ite2 (fun e6 => ?_) (fun e6 => ?_)⟩
              · exact fail (by rw [gr, sn, isView_nn k2 un, nF e6, Bool.and_false, Bool.false_and]) H5 s5
              · exact ⟨rfl, s5, by rw [isView_nn k2 un]; exact nT e6⟩
            · have un : u2 = .non := by
                cases z : decide (u2 = .non) with
                | true => exact of_decide_eq_true z
                | false => rw [z] at e5; exact absurd rfl e5
              subst un
              cases k2
              exact ⟨rfl, s5, rfl⟩
          rintro σ6 H6 ⟨rfl, s6, vok⟩
          -- the move
          have dv6 := dv2.same' s6
          refine ⟨_, rfl, _, .ty "tuple", _, _, _, rfl, .ty _, dv6.ty, kit_tup vd, _, rfl, ite2 (fun e7 => ?_) (fun e7 => ?_)⟩
          · exact fail (by rw [gr, (not_tupD (n := 0) (nF e7)).2, Bool.and_false]) H6 s6
          obtain ⟨ma, mxs, mds, rfl, rfl, mT, mA⟩ := is_tup dv6 (nT e7)
          have ml := mA.length
          have mbk : PyData.bulkAll mds ≤ 10000 := sv
          refine ⟨_, rfl, ma, mxs, rfl, .inr mT, rfl, _, rfl, ite2 (fun e8 => ?_) (fun e8 => ?_)⟩
          · exact fail (by rw [gr, (not_two (n := 0) (ml ▸ int_ne (m := 2) e8)).2, Bool.and_false]) H6 s6
          obtain ⟨t1, t2, rfl⟩ := two (ml ▸ int_eq (m := 2) e8)
          cases mA with
          | cons m1 mA =>
          cases mA with
          | cons m2 mA =>
          cases mA
          rename_i w1 w2
          rw [PyData.bulkAll, PyData.bulkAll] at mbk
          have mn : isMoveD n (.tuple [t1, t2]) = (isWrittenD t1 && isNumD 0 (n - 1) t2) := rfl
          refine ⟨_, rfl, ma, _, 0, w1, rfl, rfl, mT, rfl, w1, t1, rfl, m1, by omega, fun H7 s7 => ⟨_, rfl, ite2 (fun e9 => ?_) (fun e9 => ?_)⟩⟩
          · have z : isWrittenD t1 = false := by
              have y := nF e9
              cases t1 with
              | str z => have y : sgAll z = false := y; show (sgAll z && _) = _; rw [y, Bool.false_and]
              | _ => rfl
            exact fail (by rw [gr, mn, z, Bool.false_and, Bool.and_false]) H7 (s6.trans s7)
          have mT7 := same_tup s7 mT
          have t9 := nT e9
          cases m1 with
          | str z =>
            have t9 : sgAll z = true := t9
            have zl : z.length ≤ 10000 := by
              have : (PyData.str z).bulk = z.length := rfl
              omega
            refine ⟨_, rfl, ma, _, 0, .str z, rfl, rfl, mT7, rfl, _, z.length, rfl, ⟨by rw [sizeLine_eq]; omega, rfl⟩, _, _, rfl, rfl, _, rfl, ite2 (fun e10 => ?_) (fun e10 => ?_)⟩
            · have y : (2 : Int) < z.length := of_decide_eq_true e10
              exact fail (by rw [gr, mn, show isWrittenD (.str z) = false by show (sgAll z && decide (z.length ≤ 2)) = false; rw [decide_eq_false (by omega), Bool.and_false], Bool.false_and, Bool.and_false]) H7 (s6.trans s7)
            have l2 : z.length ≤ 2 := by
              have y : ¬ (2 : Int) < z.length := fun y => e10 (decide_eq_true y)
              omega
            have wr : isWrittenD (.str z) = true := by show (sgAll z && decide (z.length ≤ 2)) = true; rw [t9, decide_eq_true l2]; rfl
            refine ⟨_, rfl, ma, _, 1, w2, rfl, rfl, mT7, rfl, _, rfl, w2, t2, n, rfl, m2.same' s7, _, rfl, ite2 (fun e11 => ?_) (fun e11 => ?_)⟩
            · exact fail (by rw [gr, mn, nF e11, Bool.and_false, Bool.and_false]) H7 (s6.trans s7)
            · refine ⟨_, _, rfl, s3.trans (s6.trans s7), all_take hr2 al2 ?_⟩
              rw [gr, sn, mn, nT e4, vok, wr, nT e11]
              rfl
          | _ => cases t9
        · obtain ⟨y3, y4, rfl, s3, al2⟩ := hP
          rw [List.length_map, List.take_length] at al2
          exact ⟨s3 _ _ upd_same, y3, y4, rfl, same_unlock s3 hm, al2⟩
      rintro σ3 H3 ⟨y3, y4, rfl, s3, al2⟩
      have hT3 := same_tup s3 hT
      have q3 := fun H' z => q H' z
      rw [al2, Bool.and_true] at q3
      have l100 : l.bulk ≤ 1000 := sm l (by simp)
      refine ⟨_, rfl, a, _, 1, vo, rfl, rfl, hT3, rfl, _, rfl, vo, o, n, rfl, g1.same' s3, _, rfl, ite2 (fun e => ?_) (fun e => ?_)⟩
      · have e : isNumD 0 (n - 1) o = true := e
        rw [e, Bool.true_and] at q3
        refine ⟨_, rfl, a, _, 2, vl, rfl, rfl, hT3, rfl, vl, l, rfl, g2.same' s3, by omega, fun H4 s4 => ⟨_, rfl, ite2 (fun e2 => ?_) (fun e2 => ?_)⟩⟩
        · have q4 := q3 H4 (s3.trans s4)
          cases g2 with
          | str z =>
            have e2 : sgAll z = true := e2
            rw [show isWrittenD (.str z) = decide (z.length ≤ 2) by show (sgAll z && _) = _; rw [e2, Bool.true_and]] at q4
            refine ⟨_, rfl, a, _, 2, .str z, rfl, rfl, same_tup s4 hT3, rfl, _, z.length, rfl, ⟨by rw [sizeLine_eq]; have : (PyData.str z).bulk = z.length := rfl; omega, rfl⟩, _, _, rfl, rfl, ?_⟩
            rw [show decide (z.length ≤ 2) = decide ((z.length : Int) < 3) from decide_eq_decide.mpr (by omega)] at q4
            exact q4
          | _ => cases e2
        · have q4 := q3 H4 (s3.trans s4)
          rw [show isWrittenD l = false by
            cases l with
            | str z => show (sgAll z && _) = _; rw [show sgAll z = false from cF e2, Bool.false_and]
            | _ => rfl] at q4
          exact q4
      · have q4 := q3 H3 s3
        rw [cF e, Bool.false_and] at q4
        exact q4
end
end K0
end
/-! ### LD4 -/
section
set_option Elab.async false
set_option linter.all false
set_option maxRecDepth 100000
set_option maxHeartbeats 4000000
/-! _law_are_parts. -/
namespace K0
open PySem PySem.Spec PyProof.Rows L2
open MD (dM KeysV KeyV call_isiM)
abbrev lpN : List Str := ["rows", "back", "starts", "views", "row", "one"]
theorem scLParts : FnScope lpN ["rows", "back", "starts"] (defScope (top iLParts)) := ⟨rfl, rfl, rfl, by decide +kernel, rfl, by decide +kernel, by decide +kernel⟩
theorem look0 : lookD dl0 = true := by decide +kernel
theorem len0 : lenD dl0 = 1 := rfl
theorem look_pos {dl : WhD} (h : lookD dl = true) : ∃ ls, dl = .sts ls ∧ 1 ≤ ls.length ∧ ls.length ≤ 3 := by
  cases dl with
  | bad => cases h
  | sts ls =>
    have h : (decide (0 < ls.length) && decide (ls.length ≤ 3) && ls.all (lStD ls.length)) = true := h
    rw [Bool.and_eq_true, Bool.and_eq_true, decide_eq_true_iff, decide_eq_true_iff] at h
    exact ⟨ls, rfl, h.1.1, h.1.2⟩
theorem first_none {dl : WhD} {ws : List StD} (h : lookD dl = true) (hw : 1 ≤ ws.length) : firstsD (lenD dl) (lenD (.sts ws)) (firstD dl .none) = true := by
  obtain ⟨ls, rfl, l1, l2⟩ := look_pos h
  show (decide (((List.replicate ls.length (PyData.int 0)).length : Int) = ls.length) && (List.replicate ls.length (PyData.int 0)).all (isViewD ws.length)) = true
  rw [List.length_replicate, decide_eq_true rfl, Bool.true_and]
  refine List.all_eq_true.mpr fun d hd => ?_
  rw [List.eq_of_mem_replicate hd]
  show (decide ((0 : Int) ≤ 0) && decide ((0 : Int) ≤ (ws.length : Int) - 1)) = true
  rw [decide_eq_true (by omega), decide_eq_true (by omega)]
  rfl
theorem first_some {dl : WhD} {df : PyData} (h : df ≠ .none) : firstD dl df = df := by
  cases dl with
  | bad => rfl
  | sts ls => cases df <;> first | rfl | exact absurd rfl h
def spLParts (K : PySem.W.Frag) (w : World) : Sp := fun vs H Q _ => ∃ (rv bv sv : V) (dw dl : WhD) (df : PyData), vs = [rv, bv, sv] ∧ WhX K w H 3 rv dw ∧ LookV K w H bv dl ∧ Dv K H sv df ∧ df.bulk ≤ 10000 ∧ ∀ H', Same H H' → Q (.bl (partsD dw dl (firstD dl df))) H'
section
variable {P : Program} {w : World} {K : PySem.W.Frag} {mg : Str → Option Value} {base : Heap} {f fL fR fN : Addr} {fd fdL fdR fdN : FuncData}
theorem ok_lparts {k : Nat} (F : FnP K "_law_are_parts" iLParts f fd) (misi : mg "isinstance" = none) (mtup : mg "tuple" = none) (mlen : mg "len" = none)
    (FL : FnOk P w K mg base CX0 (k + 1) fL fdL ["value"] (spLLook K w)) (gL : mg "_law_is_look" = some (.ref fL)) (kL : PySem.W.keepIn K (.ref fL) = true) (bL : Binds K fdL ["value"] [])
    (FR : FnOk P w K mg base CX0 (k + 1) fR fdR ["value", "size", "views"] (spLRow K w)) (gR : mg "_law_is_row" = some (.ref fR)) (kR : PySem.W.keepIn K (.ref fR) = true) (bR : Binds K fdR ["value", "size", "views"] [])
    (FN : FnOk P w K mg base CX0 (k + 1) fN fdN ["value", "size"] (spLNum K)) (gN : mg "_law_is_number" = some (.ref fN)) (kN : PySem.W.keepIn K (.ref fN) = true) (bN : Binds K fdN ["value", "size"] []) :
    FnOk P w K mg base CX0 (k + 2) f fd ["rows", "back", "starts"] (spLParts K w) := by
  refine F.ok scLParts (fun vs H Q E h => ?_) (fun cdv A outer s H vs Q E hr h => ?_)
  · obtain ⟨rv, bv, sv, dw, dl, df, rfl, _⟩ := h
    rfl
  · obtain ⟨rv, bv, sv, dw, dl, df, rfl, hW, hL, hF, sz, q⟩ := h
    refine ⟨_, PSs.nox (C8.pss_cut (ps_if (PW.pt (pw_and (pt_cmp (pc_notN (pv 1))) (pw_and1 (pt_not (pt_val (pe_call FL hr (by rfl) gL kL bL .nil pass0 (pa_cons (pv 1) pa_nil))))))) (pss_one (ps_ret pe_bl)) pss_nil)
      (pss_cons (ps_if (PW.pt (pw_or (pt_not (pt_val (pe_callB call_isiM (by rfl) misi boot_isinstance (pa_cons (pv 0) (pa_cons (pe_bltn (v := .ty "tuple") (by rfl) mtup (by decide +kernel) rfl) pa_nil)))))
          (pw_or1 (pt_not (pt_chain op_lt op_lt pe_int (pe_callB call_len_seq (by rfl) mlen PySem.boot_len (pa_cons (pv 0) pa_nil)) pe_int))))) (pss_one (ps_ret pe_bl)) pss_nil)
      (C8.pss_cut (ps_set (i := 3) scLParts.nd rfl (.inr rfl) (pe_ifExp (pt_cmp (pc_isN (pv 1))) pe_int (pe_callB call_len_seq (by rfl) mlen PySem.boot_len (pa_cons (pv 1) pa_nil))))
      (C8.pss_cut (ps_if (pt_cmpR (op_neNil hr.units) (pe_lc (own := [("row", 4)]) (g := gName 4) (te := tVar 4) rfl scLParts.nd (pi_tup (pv 0)) (blkOk_by (N := lpN) (sc := defScope (top iLParts)) (by decide +kernel))
          (fun _ _ _ _ _ => pg_name (i := 4) scLParts.nd rfl (Or.inl rfl)) (fun _ _ _ _ _ => pts_one (pt_not (pt_val (pe_call FR hr (by rfl) gR kR bR .nil pass0 (pa_cons (pv 4) (pa_cons (pe_callB (call_lenK K rfl) (by rfl) mlen PySem.boot_len (pa_cons (pv 0) pa_nil)) (pa_cons (pv 3) pa_nil))))))) (fun _ _ _ _ _ => pv 4)) (pe_lst pa_nil) (nomark _)) (pss_one (ps_ret pe_bl)) pss_nil)
      (pss_cons (ps_if (pt_cmp (pc_isN (pv 2))) (pss_one (ps_ret pe_bl)) pss_nil)
      (pss_cons (ps_if (PW.pt (pw_or (pt_not (pt_val (pe_callB call_isi (by rfl) misi boot_isinstance (pa_cons (pv 2) (pa_cons (pe_bltn (v := .ty "tuple") (by rfl) mtup (by decide +kernel) rfl) pa_nil)))))
          (pw_or1 (pt_cmpR op_ne (pe_callB call_len_seq (by rfl) mlen PySem.boot_len (pa_cons (pv 2) pa_nil)) (pv 3) (nomark _))))) (pss_one (ps_ret pe_bl)) pss_nil)
      (pss_one (ps_ret (pe_cmpR (op_eqNil hr.units) (pe_lc (own := [("one", 5)]) (g := gName 5) (te := tVar 5) rfl scLParts.nd (pi_tup (pv 2)) (blkOk_by (N := lpN) (sc := defScope (top iLParts)) (by decide +kernel))
          (fun _ _ _ _ _ => pg_name (i := 5) scLParts.nd rfl (Or.inl rfl)) (fun _ _ _ _ _ => pts_one (PW.pt (pw_and (pt_cmp (pc_notN (pv 5))) (pw_and1 (pt_not (pt_val (pe_call FN hr (by rfl) gN kN bN .nil pass0 (pa_cons (pv 5) (pa_cons (pe_callB (call_lenK K rfl) (by rfl) mlen PySem.boot_len (pa_cons (pv 0) pa_nil)) pa_nil)))))))))
          (fun _ _ _ _ _ => pv 5)) (pe_lst pa_nil) (nomark _)))))))))), ?_⟩
    have sl : sizeLine = 16777216 := sizeLine_eq
    have ed : partsD dw dl (firstD dl df) = (lookD dl && writerD (lenD dl) dw && firstsD (lenD dl) (lenD dw) (firstD dl df)) := rfl
    rw [ed] at q
    -- the look
    refine ⟨fun σ' H' => σ' = [some rv, some bv, some sv, none, none, none] ∧ Same H H' ∧ lookD dl = true, ?_, ?_⟩
    · refine ⟨_, rfl, _, rfl, ite2 (fun e => ?_) (fun e => ?_)⟩
      · have en : bv ≠ .non := fun z => by rw [z] at e; cases e
        obtain ⟨_, hL⟩ := hL.resolve_left fun z => en z.1
        refine ⟨_, rfl, bv, dl, rfl, hL, fun H1 s1 => ⟨_, rfl, ite2 (fun e2 => ?_) (fun e2 => ?_)⟩⟩
        · have q1 := q H1 s1
          rw [nF e2, Bool.false_and, Bool.false_and] at q1
          exact q1
        · exact ⟨rfl, s1, nT e2⟩
      · have en : bv = .non := by
          cases z : decide (bv = .non) with
          | true => exact of_decide_eq_true z
          | false => rw [z] at e; exact absurd rfl e
        obtain ⟨_, rfl⟩ := hL.resolve_right fun z => z.1 en
        exact ⟨rfl, Same.refl H, look0⟩
    rintro σ1 H1 ⟨rfl, s1, lok⟩
    obtain ⟨ls, rfl, l1, l2⟩ := look_pos lok
    rw [lok, Bool.true_and] at q
    have hW1 := hW.same s1
    -- the writer
    cases dw with
    | bad => exact ⟨_, rfl, Ist.rd hW1 ⟨_, rfl, q H1 s1⟩⟩
    | sts ws =>
    obtain ⟨a, xs, rfl, hT, hP, fewx⟩ := hW1
    have pl := MD.paired_len hP
    have ew : writerD (lenD (.sts ls)) (.sts ws) = (decide (0 < ws.length) && decide (ws.length ≤ 4) && ws.all (wStD ws.length ls.length)) := rfl
    refine ⟨_, rfl, (ist_tup hT).rd ⟨_, rfl, _, rfl, a, xs, rfl, .inr hT, _, _, rfl, rfl, _, rfl, ite2 (fun e => ⟨_, _, rfl, rfl, _, rfl, ite2 (fun e2 => ?_) (fun e2 => ?_)⟩) (fun e => ⟨_, rfl, ?_⟩)⟩⟩
    · have q1 := q H1 s1
      rw [ew, decide_eq_false (show ¬ ws.length ≤ 4 by have y := of_decide_eq_false (nF e2); omega), Bool.and_false, Bool.false_and, Bool.false_and] at q1
      exact q1
    · have pos : 0 < ws.length := by have y := of_decide_eq_true e; omega
      have l4 : ws.length ≤ 4 := by have y := of_decide_eq_true (nT e2); omega
      rw [ew, decide_eq_true pos, decide_eq_true l4, Bool.true_and, Bool.true_and] at q
      -- the views
      refine ⟨fun σ' H' => σ' = [some (.ref a), some bv, some sv, some (.int ls.length), none, none] ∧ H' = H1, ?_, ?_⟩
      · refine ⟨_, rfl, _, rfl, ite2 (fun e3 => ?_) (fun e3 => ?_)⟩
        · have en : bv = .non := of_decide_eq_true e3
          obtain ⟨_, z⟩ := hL.resolve_right fun z => z.1 en
          have lz : ls.length = 1 := by
            have z : WhD.sts ls = .sts [.good [] [.int 0] [.int 0]] := z
            injection z with z
            rw [z]
            rfl
          rw [lz]
          exact ⟨rfl, rfl⟩
        · have en : bv ≠ .non := fun z => e3 (decide_eq_true z)
          obtain ⟨_, hL⟩ := hL.resolve_left fun z => en z.1
          obtain ⟨b, ys, rfl, hT2, hP2, _⟩ := hL.same s1
          refine ⟨_, rfl, b, ys, rfl, .inr hT2, ?_⟩
          rw [MD.paired_len hP2]
          exact ⟨rfl, rfl⟩
      rintro σ2 H2 ⟨rfl, rfl⟩
      obtain ⟨g, hg⟩ : ∃ g : StD → Bool, g = wStD ws.length ls.length := ⟨_, rfl⟩
      rw [← hg] at q
      refine ⟨fun σ' H' => σ' = [some (.ref a), some bv, some sv, some (.int ls.length), none, none] ∧ Same H2 H' ∧ ws.all g = true, ?_, ?_⟩
      · refine ⟨_, rfl, a, rfl, ⟨xs, hT⟩, fun D nD => lc_it (walk_tup (xs := xs)) (fun i H' => Same H2 H' ∧ ∃ bl : List V, H' D = some (.lst bl) ∧ bl.length ≤ i ∧ bl.isEmpty = (ws.take i).all g) ⟨same_upd nD, [], upd_same, Nat.le_refl _, rfl⟩ (fun i H' _ hP' => same_tup hP'.1 hT) (fun i x H' H'' hi hP' hY => ?_) (fun H' hP' => ?_)⟩
        · obtain ⟨s3, bl, hD, bn, be⟩ := hP'
          obtain ⟨rfl, hx⟩ := hY
          obtain ⟨d1, h1, v1⟩ := pairedX hP hx
          refine ⟨rfl, _, rfl, _, rfl, a, xs, rfl, .inr (same_tup s3 hT), _, rfl, x, d1, xs.length, ls.length, rfl, v1.same s3, fun H5 s5 => ⟨_, rfl, ?_⟩⟩
          rw [pl, ← hg]
          have tk : (ws.take (i + 1)).all g = ((ws.take i).all g && g d1) := by
            rw [List.take_add_one, h1, List.all_append]
            show (_ && (g d1 && true)) = _
            rw [Bool.and_true]
          refine ite2 (fun e5 => ?_) (fun e5 => ?_)
          · refine ⟨_, rfl, bl, s5 _ _ hD, by omega, fun y o u => by rw [upd_ne (ne_of_none u nD)]; exact s5 _ _ (s3 _ _ u), bl ++ [x], upd_same, by rw [List.length_append]; show bl.length + 1 ≤ i + 1; omega, ?_⟩
            rw [tk, nF e5, Bool.and_false]
            cases bl <;> rfl
          · refine ⟨s3.trans s5, bl, s5 _ _ hD, by omega, ?_⟩
            rw [tk, nT e5, Bool.and_true]
            exact be
        · obtain ⟨s3, bl, hD, bn, be⟩ := hP'
          rw [pl, List.take_length] at be
          refine ⟨by show 0 ≤ sizeLine; omega, fun l nl => ⟨D, l, bl, rfl, rfl, .of (same_upd nl _ _ hD), .of upd_same, _, rfl, ?_⟩⟩
          rw [be]
          refine ite2 (fun e5 => ?_) (fun e5 => ?_)
          · have q3 := q _ ((s1.trans s3).trans (same_upd nl (o := .lst [])))
            rw [nF e5, Bool.false_and] at q3
            exact q3
          · exact ⟨rfl, s3.trans (same_upd nl), nT e5⟩
      rintro σ3 H3 ⟨rfl, s3, al⟩
      rw [al, Bool.true_and] at q
      have hF3 := hF.same' (s1.trans s3)
      have hT3 := same_tup s3 hT
      -- the starts
      refine ⟨_, rfl, _, rfl, ite2 (fun e6 => ?_) (fun e6 => ?_)⟩
      · have en : sv = .non := of_decide_eq_true e6
        subst en
        cases hF
        have q3 := q H3 (s1.trans s3)
        rw [first_none lok pos] at q3
        exact q3
      have sn : sv ≠ .non := fun z => e6 (decide_eq_true z)
      have dn : df ≠ .none := fun z => by
        rw [z] at hF3
        cases hF3
        exact sn rfl
      rw [first_some dn] at q
      have q3 := q H3 (s1.trans s3)
      refine ⟨_, rfl, sv, _, _, _, _, rfl, .ty _, hF3.ty, kit_tup df, _, rfl, ite2 (fun e7 => ?_) (fun e7 => ?_)⟩
      · rw [show firstsD (lenD (.sts ls)) (lenD (.sts ws)) df = false by
          have y := nF e7
          cases df <;> first | rfl | cases y] at q3
        exact q3
      obtain ⟨c, zs, ds, rfl, rfl, hTs, hA⟩ := is_tup hF3 (nT e7)
      have zl := hA.length
      have bl : ∀ es : List PyData, es.length ≤ PyData.bulkAll es := fun es => by
        induction es with
        | nil => exact Nat.zero_le _
        | cons e es ih => rw [PyData.bulkAll, List.length_cons]; omega
      have few := bl ds
      have sz2 : PyData.bulkAll ds ≤ 10000 := sz
      have ef : firstsD (lenD (.sts ls)) (lenD (.sts ws)) (.tuple ds) = (decide ((ds.length : Int) = ls.length) && ds.all (isViewD ws.length)) := rfl
      rw [ef] at q q3
      refine ⟨_, rfl, c, zs, rfl, .inr hTs, _, rfl, rfl, _, rfl, ite2 (fun e8 => ?_) (fun e8 => ?_)⟩
      · rw [decide_eq_false (show ¬ ((ds.length : Int) = ls.length) from fun z => int_ne (n := zs.length) (m := ls.length) e8 (by omega)), Bool.false_and] at q3
        exact q3
      rw [decide_eq_true (show ((ds.length : Int) = ls.length) by have := int_eq (n := zs.length) (m := ls.length) e8; omega), Bool.true_and] at q
      refine ⟨_, rfl, c, rfl, ⟨zs, hTs⟩, fun D nD => lc_it (walk_tup (xs := zs)) (fun i H' => Same H3 H' ∧ ∃ bl : List V, H' D = some (.lst bl) ∧ bl.length ≤ i ∧ bl.isEmpty = (ds.take i).all (isViewD ws.length)) ⟨same_upd nD, [], upd_same, Nat.le_refl _, rfl⟩ (fun i H' _ hP' => same_tup hP'.1 hTs) (fun i x H' H'' hi hP' hY => ?_) (fun H' hP' => ?_)⟩
      · obtain ⟨s4, bl, hD, bn, be⟩ := hP'
        obtain ⟨rfl, hx⟩ := hY
        obtain ⟨d1, h1, v1⟩ := hA.get hx
        have tk : (ds.take (i + 1)).all (isViewD ws.length) = ((ds.take i).all (isViewD ws.length) && isViewD ws.length d1) := by
          rw [List.take_add_one, h1, List.all_append]
          show (_ && (isViewD ws.length d1 && true)) = _
          rw [Bool.and_true]
        refine ⟨rfl, _, rfl, _, rfl, ite2 (fun e9 => ?_) (fun e9 => ?_)⟩
        · have un : x ≠ .non := fun z => by rw [z] at e9; cases e9
          refine ⟨_, rfl, _, rfl, a, xs, rfl, .inr (same_tup s4 hT3), x, d1, xs.length, rfl, v1.same' s4, _, rfl, ?_⟩
          rw [pl, ← isView_nn v1 un]
          refine ite2 (fun e5 => ?_) (fun e5 => ?_)
          · refine ⟨_, rfl, bl, hD, by omega, fun y o u => by rw [upd_ne (ne_of_none u nD)]; exact s4 _ _ u, bl ++ [x], upd_same, by rw [List.length_append]; show bl.length + 1 ≤ i + 1; omega, ?_⟩
            rw [tk, nF e5, Bool.and_false]
            cases bl <;> rfl
          · refine ⟨s4, bl, hD, by omega, ?_⟩
            rw [tk, nT e5, Bool.and_true]
            exact be
        · have un : x = .non := by
            cases z : decide (x = .non) with
            | true => exact of_decide_eq_true z
            | false => rw [z] at e9; exact absurd rfl e9
          subst un
          cases v1
          refine ⟨s4, bl, hD, by omega, ?_⟩
          rw [tk, show isViewD ws.length .none = true from rfl, Bool.and_true]
          exact be
      · obtain ⟨s4, bl, hD, bn, be⟩ := hP'
        rw [zl, List.take_length] at be
        refine ⟨by show 0 ≤ sizeLine; omega, fun l nl => ⟨D, l, bl, rfl, rfl, .of (same_upd nl _ _ hD), .of upd_same, ?_⟩⟩
        rw [be]
        exact q _ (((s1.trans s3).trans s4).trans (same_upd nl))
    · have q1 := q H1 s1
      rw [ew, decide_eq_false (show ¬ 0 < ws.length by have y : ¬ (0 : Int) < xs.length := fun z => e (decide_eq_true z); omega), Bool.false_and, Bool.false_and, Bool.false_and] at q1
      exact q1
end
end K0
end
/-! ### EVX -/
section
set_option Elab.async false
set_option linter.all false
set_option maxRecDepth 100000
set_option maxHeartbeats 4000000
/-! Displays with tuples that are joined, repeated, cut. -/
namespace K0
open PySem PySem.Spec PyProof.Rows L2
namespace J
section
variable {K : PySem.W.Frag} {p : Addr} {σ : L2.St} {H0 : Hp}
theorem evb_cat {te tf : TE} {d e : List PyData} (h : EvB K p H0 σ te (.tuple d)) (g : EvB K p H0 σ tf (.tuple e)) (sz : d.length + e.length ≤ 1000) : EvB K p H0 σ (tOp (rCatA K) te tf) (.tuple (d ++ e)) := fun H Q D s q =>
  h H _ D s fun x H1 e1 v1 => g H1 _ (D.same e1) (s.trans (same_hid2 e1)) fun y H2 e2 v2 => by
    cases v1 with
    | tup a1 a2 =>
    cases v2 with
    | tup b1 b2 =>
    have l1 := a2.length
    have l2 := b2.length
    refine catA (same_tup hid_out (same_tup (same_hid2 e2) a1)) (same_tup hid_out b1) (by omega) fun c H3 e3 hc => ?_
    exact q _ H3 (e1.trans (e2.trans e3)) (.tup (sqt_unhid (D.same (e1.trans (e2.trans e3))) hc) ((DvAll.same (same_hid2 (e2.trans e3)) _ _ a2).append (DvAll.same (same_hid2 e3) _ _ b2)))
theorem dvRep {H : Hp} {vs : List V} {ds : List PyData} (h : DvAll K H vs ds) : ∀ n : Nat, DvAll K H (List.replicate n vs).flatten (List.replicate n ds).flatten
  | 0 => .nil
  | n + 1 => by
    rw [List.replicate_succ, List.replicate_succ, List.flatten_cons, List.flatten_cons]
    exact h.append (dvRep h n)
theorem evb_rep {te : TE} {d : List PyData} {j : Nat} {n : Nat} (h : EvB K p H0 σ te (.tuple d)) (e : σ[j]? = some (some (.int (n : Nat)))) (ne : d ≠ []) (n1 : 1 ≤ n) (n2 : n ≤ 1000) (sz : d.length ≤ 1000) : EvB K p H0 σ (tOp (rRepA K) te (tVar j)) (.tuple (List.replicate n d).flatten) := fun H Q D s q =>
  h H _ D s fun x H1 e1 v1 => ⟨_, e, by
    cases v1 with
    | tup a1 a2 =>
    have l1 := a2.length
    refine repA (same_tup hid_out a1) (fun z => ne (by rw [z] at l1; exact List.eq_nil_of_length_eq_zero l1.symm)) (by omega) (by omega) (by omega) fun c H3 e3 hc => ?_
    rw [show ((n : Nat) : Int).toNat = n by omega] at hc
    exact q _ H3 (e1.trans e3) (.tup (sqt_unhid (D.same (e1.trans e3)) hc) (dvRep (DvAll.same (same_hid2 e3) _ _ a2) n))⟩
theorem dvDrop {H : Hp} : ∀ {vs : List V} {ds : List PyData} (n : Nat), DvAll K H vs ds → DvAll K H (vs.drop n) (ds.drop n)
  | _, _, 0, h => h
  | _, _, n + 1, .nil => .nil
  | _, _, n + 1, .cons _ t => dvDrop n t
theorem evb_drop1 {te : TE} {d : List PyData} (h : EvB K p H0 σ te (.tuple d)) : EvB K p H0 σ (tSl (rSlA K) te (tPart (tC (.int 1))) (fun σ H Q => Q none H)) (.tuple (d.drop 1)) := fun H Q D s q =>
  h H _ D s fun x H1 e1 v1 => ⟨1, rfl, by
    cases v1 with
    | tup a1 a2 =>
    refine slA (same_tup hid_out a1) fun c H3 e3 hc => ?_
    rw [show (1 : Int) = ((1 : Nat) : Int) from rfl, cut_suf] at hc
    exact q _ H3 (e1.trans e3) (.tup (sqt_unhid (D.same (e1.trans e3)) hc) (dvDrop 1 (DvAll.same (same_hid2 e3) _ _ a2)))⟩
end
end J
end K0
end
/-! ### SRT -/
section
set_option Elab.async false
set_option linter.all false
set_option maxRecDepth 100000
set_option maxHeartbeats 4000000
/-! _law_spoilt_right. -/
namespace K0
open PySem PySem.Spec PyProof.Rows L2 LamX OE
open MD (dM KeysV KeyV op_eqM)
abbrev stN : List Str := ["dice", "cleaner", "rows", "back", "starts", "way", "at", "row", "size", "views", "some", "made"]
theorem scSRight : FnScope stN ["dice", "cleaner"] (defScope (top iSRight)) := ⟨rfl, rfl, rfl, by decide +kernel, rfl, by decide +kernel, by decide +kernel⟩
def spSRight (K : PySem.W.Frag) (w : World) (PT : Addr) : Sp := fun vs H Q _ => ∃ (p t R B S : Addr) (xs ys zs : List V) (ws ls : List StD) (ds : List PyData), vs = [.ref p, .ref t] ∧ Dice p H ∧ WildAt K w (hid p H) t R B S xs ys zs ws ls ds ∧ WildOk ws ls ds ∧ (∀ s ∈ ws, fewS s) ∧ (∀ s ∈ ls, fewS s) ∧ Tabs [(PT, ioQ)] H ∧
  ∀ H', Dice p H' → (∀ b o, b ≠ p → H b = some o → (∀ ps, o ≠ .tbl ps) → H' b = some o) → Tabs [(PT, ioQ)] H' → Q (.bl true) H'
theorem evb_listof {K : PySem.W.Frag} {p : Addr} {σ : L2.St} {H0 : Hp} {te : TE} {d : List PyData} (h : EvB K p H0 σ te (.tuple d)) : EvB K p H0 σ (tCB (fun xs H Q => ∃ p ys, xs = [V.ref p] ∧ (SqL K H p ys ∨ SqT K H p ys) ∧ ∀ l, H l = none → Q (V.ref l) (upd H l (.lst ys))) (tCons te tNil)) (.list d) := fun H Q D s q =>
  h H _ D s fun x H1 e1 v1 => by
    cases v1 with
    | tup a1 a2 =>
    exact ⟨_, _, rfl, .inr (same_tup hid_out a1), fun l nl => q _ _ (e1.trans (same_upd nl)) (.lst (.of (by rw [hid_ne (Dice.ne (D.same e1) nl), upd_same])) (DvAll.same (same_hid2 (same_upd nl)) _ _ a2))⟩
theorem bulkApp : ∀ (a b : List PyData), PyData.bulkAll (a ++ b) = PyData.bulkAll a + PyData.bulkAll b
  | [], b => by rw [List.nil_append, PyData.bulkAll, Nat.zero_add]
  | x :: a, b => by rw [List.cons_append, PyData.bulkAll, PyData.bulkAll, bulkApp a b]; omega
theorem bulkRep (x : PyData) : ∀ n : Nat, PyData.bulkAll (List.replicate n [x]).flatten = n * (x.bulk + 1)
  | 0 => by rw [Nat.zero_mul]; rfl
  | n + 1 => by
    rw [List.replicate_succ, List.flatten_cons, bulkApp, bulkRep x n, Nat.succ_mul]
    show x.bulk + 1 + 0 + _ = _
    omega
theorem bulkDrop : ∀ (a : List PyData) (n : Nat), PyData.bulkAll (a.drop n) ≤ PyData.bulkAll a
  | _, 0 => Nat.le_refl _
  | [], _ + 1 => Nat.le_refl _
  | x :: a, n + 1 => by
    rw [List.drop_succ_cons, PyData.bulkAll]
    have := bulkDrop a n
    omega
def sl1 (ds : List PyData) (m n : Nat) : List PyData := [.tuple (ds ++ [.int 0]), .tuple (ds.drop 1), .list ds, .none, .int 0, .tuple (List.replicate n [.int (m : Nat)]).flatten, .tuple (List.replicate n [.int (-1)]).flatten, .tuple [.bool true]]
def sl2 (m n : Nat) : List PyData := [.tuple (List.replicate n [.none]).flatten, .tuple (List.replicate n [.int ((m : Nat) - 1)]).flatten, .tuple [.str "0"], .dict [], .tuple []]
theorem sl_small {ds : List PyData} {m n : Nat} (h : PyData.bulkAll ds ≤ 1000) (hn : n ≤ 2) : ∀ d ∈ sl1 ds m n ++ sl2 m n, d.bulk ≤ 10000 := by
  have rep : ∀ x : PyData, x.bulk ≤ 10 → (PyData.tuple (List.replicate n [x]).flatten).bulk ≤ 10000 := fun x hx => by
    show PyData.bulkAll _ ≤ _
    rw [bulkRep]
    have := Nat.mul_le_mul hn (show x.bulk + 1 ≤ 11 by omega)
    omega
  intro d hd
  simp only [sl1, sl2, List.mem_append, List.mem_cons, List.not_mem_nil, or_false] at hd
  rcases hd with (rfl | rfl | rfl | rfl | rfl | rfl | rfl | rfl) | (rfl | rfl | rfl | rfl | rfl)
  · show PyData.bulkAll _ ≤ _
    rw [bulkApp]
    show _ + (0 + 1 + 0) ≤ _
    omega
  · have := bulkDrop ds 1
    show PyData.bulkAll _ ≤ _
    omega
  · show PyData.bulkAll _ ≤ _
    omega
  · show 0 ≤ 10000; decide
  · show 0 ≤ 10000; decide
  · exact rep _ (by show 0 ≤ 10; decide)
  · exact rep _ (by show 0 ≤ 10; decide)
  · show 1 ≤ 10000; decide
  · exact rep _ (by show 0 ≤ 10; decide)
  · exact rep _ (by show 0 ≤ 10; decide)
  · show 2 ≤ 10000; decide
  · show 0 ≤ 10000; decide
  · show 0 ≤ 10000; decide
theorem op_inK16 {X : Cx} (K : PySem.W.Frag) (e : X.K = K) : OpR X (compareOp .In) (rIn K false) := by
  subst e
  exact op_in_seq
theorem tabs_keep {T : List (Addr × Str)} {p : Addr} {H H' : Hp} (d : Dice p H) (k : Keep p H H') (t : Tabs T H) : Tabs T H' := fun x hx => by
  obtain ⟨a, b, c, e⟩ := d
  obtain ⟨ps, h1, h2, h3⟩ := t x hx
  refine ⟨ps, k.1 _ _ (fun z => by rw [z, e] at h1; cases h1) h1, h2, fun pos cv hc => ?_⟩
  obtain ⟨cc, e1, e2⟩ := h3 pos cv hc
  refine ⟨cc, e1, k.1 _ _ (fun z => ?_) e2⟩
  rw [z, e] at e2
  have y := Option.some.inj e2
  unfold CodeO dk at y
  cases y
/-- the parts under work, as the way lets them change -/
def PtM (K : PySem.W.Frag) (w : World) (p t t1 t2 t3 : Addr) (way at' : Int) (ws ls : List StD) (ds : List PyData) (H : Hp) (A B C : Prop) : L2.St → Hp → Prop := fun σ' H' => ∃ (rv bv sv : V) (dw dl : WhD) (df : PyData) (x7 x8 x9 x10 : Option V),
  σ' = [some (.ref p), some (.ref t), some rv, some bv, some sv, some (.int way), some (.int at'), x7, x8, x9, x10, none] ∧ Keep p H H' ∧ WhX K w (hid p H') 3 rv dw ∧ LookV K w (hid p H') bv dl ∧ Dv K (hid p H') sv df ∧ df.bulk ≤ 10000 ∧
  (A → rv = .ref t1 ∧ dw = .sts ws) ∧ (B → bv = .ref t2 ∧ dl = .sts ls) ∧ (C → sv = .ref t3 ∧ df = .tuple ds)
namespace J
section
variable {P : Program} {w : World} {K : PySem.W.Frag} {mg : Str → Option Value} {base : Heap} {f fR fO fW fL fM fP gL gG pG C PT : Addr} {fd fdR fdO fdW fdL fdM fdP fdF : FuncData}
set_option maxHeartbeats 8000000 in
theorem ok_sright {k : Nat} (F : FnP K "_law_spoilt_right" iSRight f fd) (mlist : mg "list" = none) (mtup : mg "tuple" = none) (mlen : mg "len" = none) (T : ClK K C)
    (FR : FnOk P w K mg base CX0 (k + 10) fR fdR ["dice", "total"] spRoll) (gR : mg "_law_roll" = some (.ref fR)) (kR : PySem.W.keepIn K (.ref fR) = true) (bR : Binds K fdR ["dice", "total"] [])
    (FO : FnOk P w K mg base CX0 (k + 10) fO fdO ["dice", "items"] (spOne K)) (gO : mg "_law_one_of" = some (.ref fO)) (kO : PySem.W.keepIn K (.ref fO) = true) (bO : Binds K fdO ["dice", "items"] [])
    (FW : FnOk P w K mg base CX0 (k + 10) fW fdW ["dice", "row", "size", "views"] (spSRow K w)) (gW : mg "_law_spoilt_row" = some (.ref fW)) (kW : PySem.W.keepIn K (.ref fW) = true) (bW : Binds K fdW ["dice", "row", "size", "views"] [])
    (FL : FnOk P w K mg base CX0 (k + 10) fL fdL ["dice", "back"] (spSLook K w)) (gLk : mg "_law_spoilt_look" = some (.ref fL)) (kL : PySem.W.keepIn K (.ref fL) = true) (bL : Binds K fdL ["dice", "back"] [])
    (FM : FnG P w K mg base CX0 (k + 10) fM fdM ["rows", "back", "starts"] (spMadeOf K w C PT)) (gM : mg "_law_made_of" = some (.ref fM)) (kM : PySem.W.keepIn K (.ref fM) = true) (bM : Binds K fdM ["rows", "back", "starts"] [])
    (FP : FnOk P w K mg base CX0 (k + 10) fP fdP ["rows", "back", "starts"] (spLParts K w)) (gP : mg "_law_are_parts" = some (.ref fP)) (kP : PySem.W.keepIn K (.ref fP) = true) (bP : Binds K fdP ["rows", "back", "starts"] [])
    (hLen : PySem.W.findIn K (.ref C) "__len__" = some (some (.ref gL))) (fLen : PySem.W.isFn K (.ref gL) = true) (FLen : FnR P w K mg base CX0 (k + 8) gL (spCLen K w C))
    (hF : PropOf K C "firsts" pG gG) (FF : FnOk P w K mg base CX0 (k + 9) gG fdF ["self"] (spCFirsts C)) (bF : Binds K fdF ["self"] []) :
    FnG P w K mg base CX0 (k + 11) f fd ["dice", "cleaner"] (spSRight K w PT) := by
  refine fnG_ofC F scSRight (fun vs H Q E h => ?_) (fun cdv hcd A outer s H vs Q E gd hr h => ?_)
  · obtain ⟨p, t, R, B, S, xs, ys, zs, ws, ls, ds, rfl, _⟩ := h
    rfl
  · obtain ⟨p, t, R, B, S, xs, ys, zs, ws, ls, ds, rfl, d0, W, O, fw, fl, tabs, q⟩ := h
    refine ⟨_, PSs.nox (C8.pss_cut (ps_par3 (i := 2) (j := 3) (l := 4) (by rfl) scSRight.nd rfl rfl rfl (by decide) (by decide) (by decide) rfl rfl rfl
        (pa_cons (pe_callTy call_tuple_of (by rfl) mtup (by decide +kernel) (pa_cons (pe_ix ix_tup (pv 1) pe_int (fun _ _ => rfl)) pa_nil)) (pa_cons (pe_callTy call_tuple_of (by rfl) mtup (by decide +kernel) (pa_cons (pe_ix ix_tup (pv 1) pe_int (fun _ _ => rfl)) pa_nil)) (pa_cons (pe_callTy call_tuple_of (by rfl) mtup (by decide +kernel) (pa_cons (pe_ix ix_tup (pv 1) pe_int (fun _ _ => rfl)) pa_nil)) pa_nil))) (by rfl))
      (C8.pss_cut (ps_par (i := 5) (j := 6) (by rfl) scSRight.nd rfl rfl (by decide) rfl rfl (pa_cons (pe_call FR hr (by rfl) gR kR bR .nil pass0 (pa_cons (pv 0) (pa_cons pe_int pa_nil))) (pa_cons (pe_call FR hr (by rfl) gR kR bR .nil pass0 (pa_cons (pv 0) (pa_cons (pe_callB call_len_seq (by rfl) mlen PySem.boot_len (pa_cons (pv 2) pa_nil)) pa_nil))) pa_nil)) (by rfl))
      (C8.pss_cut (ps_if (pt_cmpR op_lt (pv 5) pe_int (nomark _))
        (C8.pss_cut (ps_set (i := 7) scSRight.nd rfl (.inl rfl) (pe_call FW hr (by rfl) gW kW bW .nil pass0 (pa_cons (pv 0) (pa_cons (pe_ix ix_tup (pv 2) (pv 6) (fun _ _ => rfl)) (pa_cons (pe_callB call_len_seq (by rfl) mlen PySem.boot_len (pa_cons (pv 2) pa_nil)) (pa_cons (pe_callB call_len_seq (by rfl) mlen PySem.boot_len (pa_cons (pv 3) pa_nil)) pa_nil))))))
        (pss_one (ps_set (i := 2) scSRight.nd rfl (.inl rfl) (pe_op op_catA (pe_op op_catA (pe_slice sl_tupA (pv 2) po_none (po_some (pv 6))) (pe_tup (pa_cons (pv 7) pa_nil))) (pe_slice sl_tupA (pv 2) (po_some (pe_op op_add (pv 6) pe_int)) po_none))))) pss_nil)
      (C8.pss_cut (ps_if (pt_cmpR (op_inK16 K rfl) (pv 5) (pe_tup (pa_cons pe_int (pa_cons pe_int pa_nil))) rfl)
        (pss_one (ps_set (i := 3) scSRight.nd rfl (.inl rfl) (pe_call FL hr (by rfl) gLk kL bL .nil pass0 (pa_cons (pv 0) (pa_cons (pv 3) pa_nil))))) pss_nil)
      (C8.pss_cut (ps_if (pt_cmpR op_eq (pv 5) pe_int (nomark _))
        (C8.pss_cut (ps_par (i := 8) (j := 9) (by rfl) scSRight.nd rfl rfl (by decide) rfl rfl (pa_cons (pe_callB call_len_seq (by rfl) mlen PySem.boot_len (pa_cons (pv 2) pa_nil)) (pa_cons (pe_callB call_len_seq (by rfl) mlen PySem.boot_len (pa_cons (pv 3) pa_nil)) pa_nil)) (by rfl))
        (C8.pss_cut (ps_set (i := 10) scSRight.nd rfl (.inl rfl) (pe_lst (pa_cons (pe_op op_catA (pv 4) (pe_tup (pa_cons pe_int pa_nil))) (pa_cons (pe_slice sl_tupA (pv 4) (po_some pe_int) po_none) (pa_cons (pe_callTy call_list_of (by rfl) mlist (by decide +kernel) (pa_cons (pv 4) pa_nil)) (pa_cons pe_non (pa_cons pe_int (pa_cons (pe_op op_repA (pe_tup (pa_cons (pv 8) pa_nil)) (pv 9)) (pa_cons (pe_op op_repA (pe_tup (pa_cons (pe_un un_neg pe_int) pa_nil)) (pv 9)) (pa_cons (pe_tup (pa_cons pe_bl pa_nil)) pa_nil))))))))))
        (C8.pss_cut (ps_set (i := 10) scSRight.nd rfl (.inl rfl) (pe_op op_cat (pv 10) (pe_lst (pa_cons (pe_op op_repA (pe_tup (pa_cons pe_non pa_nil)) (pv 9)) (pa_cons (pe_op op_repA (pe_tup (pa_cons (pe_op op_sub (pv 8) pe_int) pa_nil)) (pv 9)) (pa_cons (pe_tup (pa_cons pe_str pa_nil)) (pa_cons pe_dnewK (pa_cons (pe_tup pa_nil) pa_nil))))))))
        (pss_one (ps_set (i := 4) scSRight.nd rfl (.inl rfl) (pe_call FO hr (by rfl) gO kO bO .nil pass0 (pa_cons (pv 0) (pa_cons (pv 10) pa_nil)))))))) pss_nil)
      (C8.pss_cut (ps_if (pt_cmpR op_gt (pv 5) pe_int (nomark _))
        (C8.pss_cut (ps_set (i := 10) scSRight.nd rfl (.inl rfl) (pe_lst (pa_cons (pe_tup pa_nil) (pa_cons (pe_callTy call_list_of (by rfl) mlist (by decide +kernel) (pa_cons (pv 2) pa_nil)) (pa_cons (pe_ix ix_tup (pv 2) pe_int (fun _ _ => rfl)) (pa_cons (pe_tup (pa_cons (pv 2) pa_nil)) (pa_cons pe_non
            (pa_cons (pe_op op_catA (pv 2) (pe_op op_repA (pe_slice sl_tupA (pv 2) po_none (po_some pe_int)) (pe_op op_sub pe_int (pe_callB call_len_seq (by rfl) mlen PySem.boot_len (pa_cons (pv 2) pa_nil))))) (pa_cons (pe_op op_repA (pe_slice sl_tupA (pv 2) po_none (po_some pe_int)) pe_int) pa_nil)))))))))
        (pss_one (ps_set (i := 2) scSRight.nd rfl (.inl rfl) (pe_call FO hr (by rfl) gO kO bO .nil pass0 (pa_cons (pv 0) (pa_cons (pv 10) pa_nil)))))) pss_nil)
      (C8.pss_cut (ps_set (i := 11) scSRight.nd rfl (.inl rfl) (peG FM gd hr (by rfl) gM kM bM pass0 (pa_cons (pv 2) (pa_cons (pv 3) (pa_cons (pv 4) pa_nil)))))
      (pss_cons (ps_if (pt_cmpR op_ne (pe_cmp (pc_notN (pv 11)) rfl) (pe_call FP hr (by rfl) gP kP bP .nil pass0 (pa_cons (pv 2) (pa_cons (pv 3) (pa_cons (pv 4) pa_nil)))) (nomark _)) (pss_one (ps_ret pe_bl)) pss_nil)
      (pss_cons (ps_if (pt_cmp (pc_isN (pv 11))) (pss_one (ps_ret pe_bl)) pss_nil)
      (pss_one (ps_ret (pe_and (pe_cmpR op_eq (pe_callB (call_lenO hLen fLen FLen (Room.mono hr (Nat.le_refl _)) pass0) (by rfl) mlen PySem.boot_len (pa_cons (pv 11) pa_nil)) (pe_callB call_len_seq (by rfl) mlen PySem.boot_len (pa_cons (pv 2) pa_nil)) (nomark _))
        (pe_one (pe_or (pe_cmp (pc_isN (pv 4)) rfl) (pe_one (pe_cmpR (op_eqM hr.units) (pe_prop (pv 11) T.cl hF FF hr bF .nil pass0 rfl) (pv 4) (nomark _))))))))))))))))), ?_⟩
    have sl : sizeLine = 16777216 := sizeLine_eq
    have pw := MD.paired_len W.rows
    have pb := MD.paired_len W.back
    have pz := W.starts.length
    have O1 := O.nw
    have O2 := O.nl
    have O3 := O.nf
    have bkd := wild_bulk O.fb
    have Wt := same_tup hid_out W.tup
    -- rows, back, starts
    refine ⟨fun σ' H' => ∃ t1 t2 t3, σ' = [some (.ref p), some (.ref t), some (.ref t1), some (.ref t2), some (.ref t3), none, none, none, none, none, none, none] ∧ Keep p H H' ∧ SqT K (hid p H') t1 xs ∧ SqT K (hid p H') t2 ys ∧ SqT K (hid p H') t3 zs, ?_, ?_⟩
    · refine ⟨_, rfl, t, _, 0, .ref R, rfl, rfl, Wt, rfl, R, xs, rfl, .inl ⟨hid_out.seq W.rl, fun t1 n1 => ?_⟩⟩
      have u1 := same_upd (o := .tup xs) n1
      refine ⟨_, rfl, t, _, 1, .ref B, rfl, rfl, same_tup u1 Wt, rfl, B, ys, rfl, .inl ⟨u1.seq (hid_out.seq W.bl), fun t2 n2 => ?_⟩⟩
      have l2 := same_upd (o := .tup ys) n2
      have u2 := u1.trans l2
      refine ⟨_, rfl, t, _, 2, .ref S, rfl, rfl, same_tup u2 Wt, rfl, S, zs, rfl, .inl ⟨u2.seq (hid_out.seq W.sl), fun t3 n3 => ?_⟩⟩
      have l3 := same_upd (o := .tup zs) n3
      have u3 := u2.trans l3
      have d3 := Dice.same d0 u3
      exact ⟨_, _, _, rfl, t1, t2, t3, rfl, ⟨fun b o _ e => u3 b o e, d3⟩, sqt_unhid d3 (.of (l3 _ _ (l2 _ _ upd_same))), sqt_unhid d3 (.of (l3 _ _ upd_same)), sqt_unhid d3 (.of upd_same)⟩
    rintro σ1 H1 ⟨t1, t2, t3, rfl, k1, q1, q2, q3⟩
    have wr1 : ∀ {Hc : Hp}, Keep p H1 Hc → WhX K w (hid p Hc) 3 (.ref t1) (.sts ws) := fun kc => ⟨t1, xs, rfl, same_tup (hid_keep kc) q1, (W.same (hid_keep (k1.trans kc))).rows, by omega⟩
    have lk1 : ∀ {Hc : Hp}, Keep p H1 Hc → LookV K w (hid p Hc) (.ref t2) (.sts ls) := fun kc => .inr ⟨by simp, t2, ys, rfl, same_tup (hid_keep kc) q2, (W.same (hid_keep (k1.trans kc))).back, by omega⟩
    have fi1 : ∀ {Hc : Hp}, Keep p H1 Hc → Dv K (hid p Hc) (.ref t3) (.tuple ds) := fun kc => .tup (same_tup (hid_keep kc) q3) (W.same (hid_keep (k1.trans kc))).starts
    -- way, at
    refine ⟨fun σ' H' => ∃ (way : Int) (i : Nat), σ' = [some (.ref p), some (.ref t), some (.ref t1), some (.ref t2), some (.ref t3), some (.int way), some (.int (i : Nat)), none, none, none, none, none] ∧ Keep p H1 H' ∧ i < xs.length, ?_, ?_⟩
    · refine ⟨_, rfl, roll_at k1.2 (by decide) (by decide) fun r r0 r1 H2 k2 => ⟨_, rfl, _, rfl, t1, xs, rfl, .inr (same_tup hid_out (same_tup (hid_keep k2) q1)), roll_at k2.2 (by omega) (by omega) fun i i0 i1 H3 k3 => ⟨_, _, rfl, r, i.toNat, ?_, k2.trans k3, by omega⟩⟩⟩
      rw [show ((i.toNat : Nat) : Int) = i by omega]
      rfl
    rintro σ2 H2 ⟨way, i, rfl, k2, hi⟩
    -- a row
    refine ⟨PtM K w p t t1 t2 t3 way (i : Nat) ws ls ds H (3 ≤ way) True True, ?_, ?_⟩
    · refine ⟨_, rfl, _, _, rfl, rfl, _, rfl, ite2 (fun e => ?_) (fun e => ?_)⟩
      · have hx : xs[i]? = some xs[i] := List.getElem?_eq_getElem hi
        have W2 := W.same (hid_keep (k1.trans k2))
        obtain ⟨sd, hsd, st⟩ := pairedX W2.rows hx
        have msd := List.mem_of_getElem? hsd
        have fsd := fw sd msd
        cases sd with
        | bad => exact fsd.elim
        | good rs ys0 ds0 =>
        have qt := same_tup (hid_keep k2) q1
        have qt2 := same_tup (hid_keep k2) q2
        refine ⟨fun σ' H' => ∃ x d, σ' = [some (.ref p), some (.ref t), some (.ref t1), some (.ref t2), some (.ref t3), some (.int way), some (.int (i : Nat)), some x, none, none, none, none] ∧ Keep p H2 H' ∧ StX K w (hid p H') 3 x d, ?_, ?_⟩
        · exact ⟨_, rfl, _, rfl, _, rfl, t1, xs, _, xs[i], rfl, rfl, same_tup hid_out qt, atI_nat hx, _, rfl, t1, xs, rfl, .inr (same_tup hid_out qt), _, rfl, t2, ys, rfl, .inr (same_tup hid_out qt2), p, xs[i], xs.length, ys.length, rs, ys0, ds0, rfl, k2.2, st, fsd, by omega, fun H3 x d k3 s3 => ⟨x, d, rfl, k3, s3⟩⟩
        rintro σ3 H3 ⟨x, d, rfl, k3, st3⟩
        have k23 := k2.trans k3
        have qt3 := same_tup hid_out (same_tup (hid_keep k23) q1)
        refine ⟨_, rfl, _, rfl, _, rfl, slA qt3 fun c1 H8 e8 h8 => ⟨_, rfl, by show 1 ≤ sizeLine; omega, fun t2' n2 => ?_⟩⟩
        have u2 := same_upd (o := .tup [x]) n2
        refine catA (same_tup u2 h8) (.of upd_same) (by have := cutV_length xs none (some ((i : Nat) : Int)); show _ + 1 ≤ 1000; omega) fun c3 H9 e9 h9 => ?_
        have s9 := (e8.trans u2).trans e9
        refine ⟨_, rfl, _, rfl, _, _, rfl, rfl, _, rfl, slA (same_tup s9 qt3) fun c4 H10 e10 h10 => ?_⟩
        refine catA (same_tup e10 h9) h10 (by
          have a1 := cutV_length xs none (some ((i : Nat) : Int))
          have a2 := cutV_length xs (some (((i : Nat) : Int) + 1)) none
          rw [List.length_append]
          show _ + 1 + _ ≤ 1000
          omega) fun c5 H11 e11 h11 => ?_
        have sA := (s9.trans e10).trans e11
        have kA : Keep p H3 H11 := ⟨fun b o _ e => sA b o e, Dice.same k3.2 sA⟩
        have W11 := W.same (hid_keep (k1.trans (k23.trans kA)))
        rw [cut_pre, show (((i : Nat) : Int) + 1) = ((i + 1 : Nat) : Int) from rfl, cut_suf] at h11
        have lt3 : way < 3 := of_decide_eq_true e
        refine ⟨.ref c5, .ref t2, .ref t3, .sts (ws.take i ++ [d] ++ ws.drop (i + 1)), .sts ls, .tuple ds, _, _, _, _, rfl, k1.trans (k23.trans kA), ⟨c5, _, rfl, sqt_unhid kA.2 h11, pairedApp (pairedApp (pairedTake i W11.rows) (.cons (st3.same (hid_keep kA)) .nil)) (pairedDrop (i + 1) W11.rows), ?_⟩, lk1 (k23.trans kA), fi1 (k23.trans kA), by show PyData.bulkAll ds ≤ 10000; omega, fun z => absurd z (by omega), fun _ => ⟨rfl, rfl⟩, fun _ => ⟨rfl, rfl⟩⟩
        rw [List.length_append, List.length_append, List.length_take, List.length_drop]
        show _ + 1 + _ ≤ 1000
        omega
      · exact ⟨.ref t1, .ref t2, .ref t3, .sts ws, .sts ls, .tuple ds, _, _, _, _, rfl, k1.trans k2, wr1 k2, lk1 k2, fi1 k2, by show PyData.bulkAll ds ≤ 10000; omega, fun _ => ⟨rfl, rfl⟩, fun _ => ⟨rfl, rfl⟩, fun _ => ⟨rfl, rfl⟩⟩
    rintro σ3 H3 ⟨rv, bv, sv, dw, dl, df, x7, x8, x9, x10, rfl, k3, hW3, hL3, hF3, bf3, A3, B3, C3⟩
    obtain ⟨rfl, rfl⟩ := B3 trivial
    -- the back
    refine ⟨PtM K w p t t1 t2 t3 way (i : Nat) ws ls ds H (3 ≤ way) (inV (.int way) [.int 3, .int 6] = false) True, ?_, ?_⟩
    · refine ⟨_, rfl, by show 2 ≤ sizeLine; omega, fun T nT => ⟨T, _, rfl, .inr (.of upd_same), rfl, rfl, _, rfl, ite2 (fun e => ?_) (fun e => ?_)⟩⟩
      · have uT := same_upd (o := .tup [.int 3, .int 6]) nT
        have kT : Keep p H3 (upd H3 T (.tup [.int 3, .int 6])) := ⟨fun b o _ e => uT b o e, Dice.same k3.2 uT⟩
        obtain ⟨b, ys2, eb, g1, g2, g3⟩ := (hL3.resolve_left fun z => by cases z.1).2
        cases eb
        refine ⟨_, rfl, _, rfl, p, t2, ys2, ls, rfl, kT.2, ⟨same_tup (hid_keep kT) g1, pairedI2 (fun _ _ z => z.same (hid_keep kT)) g2⟩, O2, fun s ms => ⟨O.l s ms, fl s ms⟩, fun H4 x d k4 hx => ?_⟩
        have kk := kT.trans k4
        exact ⟨rv, x, sv, dw, d, df, x7, x8, x9, x10, rfl, k3.trans kk, hW3.same (hid_keep kk), hx, hF3.same' (hid_keep kk), bf3, A3, fun z => absurd (show inV (.int way) [.int 3, .int 6] = true from e) (by rw [z]; simp), C3⟩
      · have uT := same_upd (o := .tup [.int 3, .int 6]) nT
        have kT : Keep p H3 (upd H3 T (.tup [.int 3, .int 6])) := ⟨fun b o _ e => uT b o e, Dice.same k3.2 uT⟩
        exact ⟨rv, .ref t2, sv, dw, .sts ls, df, x7, x8, x9, x10, rfl, k3.trans kT, hW3.same (hid_keep kT), hL3.same (hid_keep kT), hF3.same' (hid_keep kT), bf3, A3, fun _ => ⟨rfl, rfl⟩, C3⟩
    clear hW3 hL3 hF3 bf3 A3 B3 C3 k3
    rintro σ4 H4 ⟨rv, bv, sv, dw, dl, df, x7, x8, x9, x10, rfl, k4, hW4, hL4, hF4, bf4, A4, B4, C4⟩
    obtain ⟨rfl, rfl⟩ := C4 trivial
    -- the starts
    refine ⟨PtM K w p t t1 t2 t3 way (i : Nat) ws ls ds H (3 ≤ way) (inV (.int way) [.int 3, .int 6] = false) (way ≠ 4), ?_, ?_⟩
    · refine ⟨_, rfl, rfl, _, rfl, ite2 (fun e => ?_) (fun e => ⟨rv, bv, .ref t3, dw, dl, .tuple ds, x7, x8, x9, x10, rfl, k4, hW4, hL4, hF4, bf4, A4, B4, fun _ => ⟨rfl, rfl⟩⟩)⟩
      have w4 : way = 4 := by
        have y := of_decide_eq_true e
        injection y
      subst w4
      obtain ⟨rfl, rfl⟩ := A4 (by decide)
      obtain ⟨rfl, rfl⟩ := B4 (by decide)
      obtain ⟨a1, xs4, ea, hx1, hx2, _⟩ := id hW4
      cases ea
      obtain ⟨b1, ys4, eb, hy1, hy2, _⟩ := (hL4.resolve_left fun z => by cases z.1).2
      cases eb
      refine ⟨fun σ' H' => σ' = [some (.ref p), some (.ref t), some (.ref t1), some (.ref t2), some (.ref t3), some (.int 4), some (.int (i : Nat)), x7, some (.int (ws.length : Nat)), some (.int (ls.length : Nat)), x10, none] ∧ H' = H4, ?_, ?_⟩
      · refine ⟨_, rfl, t1, xs4, rfl, .inr (same_tup hid_out hx1), _, rfl, t2, ys4, rfl, .inr (same_tup hid_out hy1), _, _, rfl, ?_, rfl⟩
        rw [MD.paired_len hx2, MD.paired_len hy2]
        rfl
      rintro σ5 H5 ⟨rfl, rfl⟩
      have n1 : 1 ≤ ls.length := by omega
      have n2 : ls.length ≤ 1000 := by omega
      refine ⟨fun σ' H' => ∃ l1 xs1, σ' = [some (.ref p), some (.ref t), some (.ref t1), some (.ref t2), some (.ref t3), some (.int 4), some (.int (i : Nat)), x7, some (.int (ws.length : Nat)), some (.int (ls.length : Nat)), some (.ref l1), none] ∧ Keep p H5 H' ∧ H' l1 = some (.lst xs1) ∧ DvAll K (hid p H') xs1 (sl1 ds ws.length ls.length), ?_, ?_⟩
      · refine asg (rd_lstB (H0 := H5) (ds := sl1 ds ws.length ls.length) (p := p) (K := K) ?_ k4.2 (Same.refl _) (by show 8 ≤ 1000; decide) fun xs1 H6 l1 e1 v1 nl1 => ?_)
        · exact evb_cons (evb_cat (evb_var (by rfl) hF4) (evb_tup (evb_cons (evb_of ev_int) evb_nil) (by decide)) (by show ds.length + 1 ≤ 1000; omega)) (evb_cons (evb_drop1 (evb_var (by rfl) hF4)) (evb_cons (evb_listof (evb_var (by rfl) hF4)) (evb_cons (evb_of ev_non) (evb_cons (evb_of ev_int)
            (evb_cons (evb_rep (evb_tup (evb_cons (evb_var (by rfl) (.int _)) evb_nil) (by show 1 ≤ 1000; decide)) (by rfl) (by simp) n1 n2 (by show 1 ≤ 1000; decide)) (evb_cons (evb_rep (evb_tup (evb_cons (evb_of ev_neg) evb_nil) (by decide)) (by rfl) (by simp) n1 n2 (by show 1 ≤ 1000; decide)) (evb_cons (evb_tup (evb_cons (evb_of ev_bl) evb_nil) (by decide)) evb_nil)))))))
        · have s6 : Same H5 (upd H6 l1 (.lst xs1)) := e1.trans (same_upd nl1)
          exact ⟨l1, xs1, rfl, ⟨fun b o _ e => s6 b o e, Dice.same k4.2 s6⟩, upd_same, v1.same (same_hid2 (same_upd nl1))⟩
      rintro σ6 H6 ⟨l1, xs1, rfl, k6, hl1, dv1⟩
      refine ⟨fun σ' H' => ∃ l2 xs2, σ' = [some (.ref p), some (.ref t), some (.ref t1), some (.ref t2), some (.ref t3), some (.int 4), some (.int (i : Nat)), x7, some (.int (ws.length : Nat)), some (.int (ls.length : Nat)), some (.ref l2), none] ∧ Keep p H5 H' ∧ H' l2 = some (.lst xs2) ∧ l2 ≠ p ∧ DvAll K (hid p H') xs2 (sl1 ds ws.length ls.length ++ sl2 ws.length ls.length), ?_, ?_⟩
      · refine asg ⟨_, rfl, rd_lstB (H0 := H6) (ds := sl2 ws.length ls.length) (p := p) (K := K) ?_ k6.2 (Same.refl _) (by show 5 ≤ 1000; decide) fun xs2 H7 l2 e2 v2 nl2 => ?_⟩
        · exact evb_cons (evb_rep (evb_tup (evb_cons (evb_of ev_non) evb_nil) (by decide)) (by rfl) (by simp) n1 n2 (by show 1 ≤ 1000; decide)) (evb_cons (evb_rep (evb_tup (evb_cons (evb_less (by rfl)) evb_nil) (by show 1 ≤ 1000; decide)) (by rfl) (by simp) n1 n2 (by show 1 ≤ 1000; decide)) (evb_cons (evb_tup (evb_cons (evb_of ev_str) evb_nil) (by decide)) (evb_cons (evb_of ev_dict0) (evb_cons (evb_tup evb_nil (by decide)) evb_nil))))
        · have s7 : Same H6 (upd H7 l2 (.lst xs2)) := e2.trans (same_upd nl2)
          have dl1 := dv1.length
          have dl2 := v2.length
          have z8 : (sl1 ds ws.length ls.length).length = 8 := rfl
          have z5 : (sl2 ws.length ls.length).length = 5 := rfl
          refine ⟨l1, l2, xs1, xs2, rfl, rfl, s7 _ _ hl1, upd_same, by omega, fun l3 nl3 => ?_⟩
          have s8 := s7.trans (same_upd (o := .lst (xs1 ++ xs2)) nl3)
          have k8 : Keep p H6 (upd (upd H7 l2 (.lst xs2)) l3 (.lst (xs1 ++ xs2))) := ⟨fun b o _ e => s8 b o e, Dice.same k6.2 s8⟩
          exact ⟨l3, _, rfl, k6.trans k8, upd_same, Dice.ne (Dice.same k6.2 s7) nl3, (dv1.same (same_hid2 s8)).append (v2.same (same_hid2 ((same_upd nl2).trans (same_upd nl3))))⟩
      rintro σ7 H7 ⟨l2, xs2, rfl, k7, hl2, l2p, dv2⟩
      refine ⟨_, rfl, _, rfl, one_data k7.2 hl2 l2p dv2 (by simp [sl1]) (by show 13 ≤ 1000; decide) fun x dd H8 md k8 hv => ?_⟩
      have kk := k7.trans k8
      exact ⟨.ref t1, .ref t2, x, .sts ws, .sts ls, dd, _, _, _, _, rfl, k4.trans kk, hW4.same (hid_keep kk), hL4.same (hid_keep kk), hv, sl_small (by omega) (by omega) dd md, A4, B4, fun z => absurd rfl z⟩
    clear hW4 hL4 hF4 bf4 A4 B4 C4 k4
    rintro σ5 H5 ⟨rv, bv, sv, dw, dl, df, x7, x8, x9, x10, rfl, k5, hW5, hL5, hF5, bf5, A5, B5, C5⟩
    -- the rows
    refine ⟨PtM K w p t t1 t2 t3 way (i : Nat) ws ls ds H False (inV (.int way) [.int 3, .int 6] = false) (way ≠ 4), ?_, ?_⟩
    · refine ⟨_, rfl, _, _, rfl, rfl, _, rfl, ite2 (fun e => ?_) (fun e => ⟨rv, bv, sv, dw, dl, df, x7, x8, x9, x10, rfl, k5, hW5, hL5, hF5, bf5, fun z => z.elim, B5, C5⟩)⟩
      have w5 : 4 < way := of_decide_eq_true e
      obtain ⟨rfl, rfl⟩ := A5 (by omega)
      obtain ⟨a1, xs5, ea, hx1, hx2, _⟩ := id hW5
      cases ea
      have pl5 := MD.paired_len hx2
      have hT5 := same_tup hid_out hx1
      obtain ⟨x0, r, ex⟩ : ∃ x0 r, xs5 = x0 :: r := by
        cases z : xs5 with
        | nil => rw [z] at pl5; simp at pl5; omega
        | cons x0 r => exact ⟨x0, r, rfl⟩
      obtain ⟨s0, ss, es, st0⟩ : ∃ s0 ss, ws = s0 :: ss ∧ StX K w (hid p H5) 3 x0 s0 := by
        have z := hx2
        rw [ex] at z
        cases z with
        | cons a b => exact ⟨_, _, rfl, a⟩
      have f0 := fw s0 (by rw [es]; exact List.mem_cons_self)
      have w0 := O.w s0 (by rw [es]; exact List.mem_cons_self)
      have ax : atI xs5 0 = some x0 := atI_nat (i := 0) (by rw [ex]; rfl)
      refine ⟨fun σ' H' => ∃ L items, σ' = [some (.ref p), some (.ref t), some (.ref t1), some bv, some sv, some (.int way), some (.int (i : Nat)), x7, x8, x9, some (.ref L), none] ∧ Keep p H5 H' ∧ H' L = some (.lst items) ∧ L ≠ p ∧ items ≠ [] ∧ items.length ≤ 1000 ∧ ∀ x ∈ items, ∃ d, WhX K w (hid p H') 3 x d, ?_, ?_⟩
      · refine ⟨by show 0 ≤ sizeLine; omega, fun n1' n1 => ?_⟩
        have u1 := same_upd (o := .tup []) n1
        refine ⟨_, rfl, t1, xs5, rfl, .inr (same_tup u1 hT5), fun l2 n2 => ?_⟩
        have u2 := same_upd (o := .lst xs5) n2
        refine ⟨_, rfl, t1, xs5, 0, x0, rfl, rfl, same_tup (u1.trans u2) hT5, ax, _, rfl, by show 1 ≤ sizeLine; omega, fun t3' n3 => ?_⟩
        have u3 := same_upd (o := .tup [.ref t1]) n3
        have s3 := (u1.trans u2).trans u3
        refine ⟨_, rfl, _, rfl, _, rfl, slA (same_tup s3 hT5) fun c4 H8 e8 h8 => ⟨_, rfl, t1, xs5, rfl, .inr (same_tup (s3.trans e8) hT5), _, _, rfl, rfl, repA h8 (by rw [show (1 : Int) = ((1 : Nat) : Int) from rfl, cut_pre, ex]; simp) (by omega) (by omega) (Nat.le_trans (cutV_length _ _ _) (by omega)) fun c5 H9 e9 h9 => ?_⟩⟩
        have s9 := (s3.trans e8).trans e9
        have len9 : (List.replicate (4 - (xs5.length : Int)).toNat (cutV xs5 none (some 1))).flatten.length ≤ 10 := by
          rw [show (1 : Int) = ((1 : Nat) : Int) from rfl, cut_pre, PyProof.Rows.lm_len_rep_flat, List.length_take]
          have a1 : (4 - (xs5.length : Int)).toNat ≤ 3 := by omega
          have a2 : min 1 xs5.length ≤ 1 := Nat.min_le_left _ _
          have := Nat.mul_le_mul a1 a2
          omega
        refine catA (same_tup s9 hT5) h9 (by omega) fun c6 H10 e10 h10 => ?_
        have s10 := s9.trans e10
        refine ⟨_, rfl, _, rfl, slA (same_tup s10 hT5) fun c7 H11 e11 h11 => repA h11 (by rw [show (1 : Int) = ((1 : Nat) : Int) from rfl, cut_pre, ex]; simp) (by decide) (by decide) (Nat.le_trans (cutV_length _ _ _) (by omega)) fun c8 H12 e12 h12 => ⟨by show 7 ≤ sizeLine; omega, fun L nL => ?_⟩⟩
        have s12 := (s10.trans e11).trans e12
        have uL := same_upd (o := .lst [.ref n1', .ref l2, x0, .ref t3', .non, .ref c6, .ref c8]) nL
        have d5 := k5.2
        have sAll := s12.trans uL
        have kL : Keep p H5 (upd H12 L (.lst [.ref n1', .ref l2, x0, .ref t3', .non, .ref c6, .ref c8])) := ⟨fun b o _ e => sAll b o e, Dice.same d5 sAll⟩
        have p2 := Dice.ne (Dice.same d5 u1) n2
        have hWL := hW5.same (hid_keep kL)
        obtain ⟨a9, xs9, e9', hx9, hp9, _⟩ := id hWL
        have hP9 := pairedI2 (fun _ _ z => StX.same z (hid_keep kL)) hx2
        have sE : ∀ {Hc : Hp} {a : Addr} {zs : List V}, Same H5 Hc → Same Hc (upd H12 L (.lst [.ref n1', .ref l2, x0, .ref t3', .non, .ref c6, .ref c8])) → SqT K Hc a zs → SqT K (hid p (upd H12 L (.lst [.ref n1', .ref l2, x0, .ref t3', .non, .ref c6, .ref c8]))) a zs := fun z1 z2 hz => same_tup (same_hid2 z2) (sqt_unhid (Dice.same d5 z1) hz)
        refine ⟨L, _, rfl, kL, upd_same, Dice.ne (Dice.same d5 s12) nL, by simp, by show 7 ≤ 1000; decide, fun x mx => ?_⟩
        simp only [List.mem_cons, List.not_mem_nil, or_false] at mx
        rcases mx with rfl | rfl | rfl | rfl | rfl | rfl | rfl
        · exact ⟨.sts [], n1', [], rfl, sE u1 ((((((u2.trans u3).trans e8).trans e9).trans e10).trans e11).trans (e12.trans uL)) (.of upd_same), .nil, by decide⟩
        · exact ⟨.bad, ist_lst (.of (by rw [hid_ne p2]; exact uL _ _ (e12 _ _ (e11 _ _ (e10 _ _ (e9 _ _ (e8 _ _ (u3 _ _ upd_same)))))))) ⟩
        · have st13 := st0.same (hid_keep kL)
          cases s0 with
          | bad => exact f0.elim
          | good rs0 ys0 ds0 =>
            obtain ⟨a0, m0, rfl, hT0, hA0, l0, hm0, _, _⟩ := st13
            obtain ⟨z0, z1, rfl⟩ : ∃ z0 z1, ds0 = [z0, z1] := two (by omega)
            cases hA0 with
            | cons g1 g2 =>
            cases g2 with
            | cons g2 g3 =>
            cases g3
            have w0 : (isNumD 0 ((ws.length : Int) - 1) z0 && isWrittenD z1 && rs0.all fun r => isSeenD ls.length r.2.1 && isMoveD ws.length r.2.2) = true := w0
            obtain ⟨y1, y2⟩ := Bool.and_eq_true_iff.mp (Bool.and_eq_true_iff.mp w0).1
            obtain ⟨i0, rfl, _⟩ := num_int g1 y1
            have hz1 : ∃ z, z1 = .str z := by
              have y := y2
              cases z1 <;> first | exact ⟨_, rfl⟩ | cases y
            obtain ⟨z, rfl⟩ := hz1
            cases g2
            exact ⟨.sts [.bad, .bad, .bad], a0, _, rfl, hT0, .cons (.inl (ist_mdt hm0)) (.cons (.inl (ist_dv (.int i0) (kit_ty (by show kitB "int" "tuple" = some false; decide +kernel)))) (.cons (.inl (ist_dv (.str z) (kit_ty (by show kitB "str" "tuple" = some false; decide +kernel)))) .nil)), by show 3 ≤ 1000; decide⟩
        · have hx0 : Ist K w (hid p (upd H12 L (.lst [.ref n1', .ref l2, x0, .ref t3', .non, .ref c6, .ref c8]))) x0 "dict" false := by
            have st13 := st0.same (hid_keep kL)
            cases s0 with
            | bad => exact f0.elim
            | good rs0 ys0 ds0 =>
              obtain ⟨a0, m0, rfl, hT0, _⟩ := st13
              exact ist_tupd hT0
          exact ⟨.sts [.bad], t3', [.ref t1], rfl, sE s3 ((((e8.trans e9).trans e10).trans e11).trans (e12.trans uL)) (.of upd_same), .cons (.inr ⟨t1, xs5, rfl, same_tup (hid_keep kL) hx1, .inr ⟨x0, r, ex, hx0⟩⟩) .nil, by show 1 ≤ 1000; decide⟩
        · exact ⟨.bad, ist_dv .non (kit_tup .none)⟩
        · refine ⟨.sts (ws ++ (List.replicate (4 - (xs5.length : Int)).toNat (ws.take 1)).flatten), c6, _, rfl, sE s10 (e11.trans (e12.trans uL)) h10, pairedApp hP9 ?_, by rw [List.length_append]; omega⟩
          rw [show (1 : Int) = ((1 : Nat) : Int) from rfl, cut_pre]
          exact pairedRep (pairedTake 1 hP9) _
        · refine ⟨.sts (List.replicate (5 : Int).toNat (ws.take 1)).flatten, c8, _, rfl, sE s12 uL h12, ?_, ?_⟩
          · rw [show (1 : Int) = ((1 : Nat) : Int) from rfl, cut_pre]
            exact pairedRep (pairedTake 1 hP9) _
          · rw [show (1 : Int) = ((1 : Nat) : Int) from rfl, cut_pre, PyProof.Rows.lm_len_rep_flat, List.length_take]
            have a2 : min 1 xs5.length ≤ 1 := Nat.min_le_left _ _
            show 5 * min 1 xs5.length ≤ 1000
            omega
      rintro σ6 H6 ⟨L, items, rfl, k6, hL, Lp, ne6, sz6, all6⟩
      refine ⟨_, rfl, _, rfl, one_at (xs := items) k6.2 (.inl ⟨L, rfl, .inl (.of (by rw [hid_ne Lp]; exact hL))⟩) ne6 sz6 fun x mx H7 k7 => ?_⟩
      obtain ⟨d, hd⟩ := all6 x mx
      have kk := k6.trans k7
      exact ⟨x, bv, sv, d, dl, df, _, _, _, _, rfl, k5.trans kk, hd.same (hid_keep k7), hL5.same (hid_keep kk), hF5.same' (hid_keep kk), bf5, fun z => z.elim, B5, C5⟩
    clear hW5 hL5 hF5 bf5 A5 B5 C5 k5
    rintro σ6 H6 ⟨rv, bv, sv, dw, dl, df, x7, x8, x9, x10, rfl, k6, hW6, hL6, hF6, bf6, _, B6, C6⟩
    have tabs6 := tabs_keep d0 k6 tabs
    have few6 : df = .none → ∀ ss, dl = .sts ss → ss.length ≤ 1000 := fun ed ss es => by
      by_cases w4 : way = 4
      · subst w4
        obtain ⟨_, e2⟩ := B6 (by decide)
        rw [e2] at es
        cases es
        omega
      · obtain ⟨_, e2⟩ := C6 w4
        rw [e2] at ed
        cases ed
    -- made
    refine ⟨fun σ' H' => ∃ v, σ' = [some (.ref p), some (.ref t), some rv, some bv, some sv, some (.int way), some (.int (i : Nat)), x7, x8, x9, x10, some v] ∧ ExtN H6 H' ∧ Tabs [(PT, ioQ)] H' ∧ ((v = .non ∧ partsD dw dl (firstD dl df) = false) ∨ ∃ x fv', v = .ref x ∧ partsD dw dl (firstD dl df) = true ∧ CleanerAt K w C H' x (stsD dw) (stsD dl) fv' ∧ (sv ≠ .non → fv' = sv)), ?_, ?_⟩
    · exact ⟨_, rfl, _, rfl, _, rfl, rv, bv, sv, dw, dl, df, rfl, hW6.same hid_out, hL6.same hid_out, hF6.same' hid_out, bf6, few6, tabs6, fun ok H7 x fv' kf ex tb ca => ⟨.ref x, rfl, ex, tb, .inr ⟨x, fv', rfl, ok, ca, kf⟩⟩, fun no H7 s7 => ⟨.non, rfl, ExtN.of s7, Tabs.ext tabs6 s7, .inl ⟨rfl, no⟩⟩⟩
    rintro σ7 H7 ⟨v, rfl, e7, t7, hv⟩
    have hW7 : WhX K w H7 3 rv dw := (hW6.same hid_out).dat.same (dat_ext e7)
    have hL7 : LookV K w H7 bv dl := (hL6.same hid_out).elim .inl fun z => .inr ⟨z.1, z.2.dat.same (dat_ext e7)⟩
    have hF7 : Dv K H7 sv df := (dv_dat (hF6.same' hid_out)).same' (dat_ext e7)
    have eb : (!decide (v = .non)) = partsD dw dl (firstD dl df) := by
      rcases hv with ⟨rfl, e⟩ | ⟨x, fv', rfl, e, _⟩
      · rw [e]; rfl
      · rw [e]; rfl
    have fin : ∀ H8, Same H7 H8 → Q (.bl true) H8 := fun H8 s8 => by
      obtain ⟨a, b, c, e⟩ := k6.2
      exact q H8 ⟨a, b, c, s8 _ _ (e7 _ _ e (fun _ z => by cases z))⟩ (fun b o n e nt => s8 _ _ (e7 _ _ (k6.1 _ _ n e) nt)) (Tabs.ext t7 s8)
    refine ⟨_, rfl, _, rfl, _, rfl, _, rfl, rv, bv, sv, dw, dl, df, rfl, hW7, hL7, hF7, bf6, fun H8 s8 => ⟨rfl, _, rfl, ite2 (fun e => ?_) (fun e => ?_)⟩⟩
    · rw [eb] at e
      simp at e
    refine ⟨_, rfl, _, rfl, ite2 (fun e2 => fin H8 s8) (fun e2 => ?_)⟩
    have vn : v ≠ .non := fun z => e2 (decide_eq_true z)
    rcases hv with ⟨z, _⟩ | ⟨x, fv', rfl, ok, ca, kf⟩
    · exact absurd z vn
    have ok2 := ok
    rw [show partsD dw dl (firstD dl df) = (lookD dl && writerD (lenD dl) dw && firstsD (lenD dl) (lenD dw) (firstD dl df)) from rfl, Bool.and_eq_true, Bool.and_eq_true] at ok2
    cases dw with
    | bad => cases ok2.1.2
    | sts ws' =>
    obtain ⟨a, xs8, rfl, hT8, hP8, few8⟩ := hW7.same s8
    have pl8 := MD.paired_len hP8
    have ca8 := ca.same s8
    obtain ⟨dx, tw, tl, to, hx8, kw8, kl8⟩ := id ca8
    have lenS : ((ws'.length : Nat) : Int) < 2 ^ 63 := by
      have : ws'.length ≤ 1000 := by omega
      omega
    refine ⟨_, rfl, x, dx, _, rfl, hx8, x, ws', stsD dl, fv', rfl, ca8, _, rfl, Int.natCast_nonneg _, lenS, _, rfl, a, xs8, rfl, .inr hT8, rfl, _, rfl, ite2 (fun e3 => ?_) (fun e3 => ?_)⟩
    · refine ⟨_, rfl, _, rfl, ite2 (fun e4 => fin H8 s8) (fun e4 => ?_)⟩
      have sn : sv ≠ .non := fun z => e4 (decide_eq_true z)
      have ef := kf sn
      subst ef
      have hF8 := hF7.same' s8
      have dn : df ≠ .none := fun z => by
        rw [z] at hF8
        cases hF8
        exact sn rfl
      have of := ok2.2
      rw [first_some dn] at of
      cases hF8 with
      | tup z1 z2 =>
        exact ⟨_, rfl, x, dx, _, rfl, hx8, x, dx, tw, tl, to, _, rfl, hx8, _, rfl, 2, _, _, _, _, by decide, rfl, rfl, z1, z1, eqm_all (n := 1) (dvAll_sf z2), fin H8 s8⟩
      | _ => cases of
    · exact absurd (decide_eq_true (by rw [pl8])) e3
end
end J
end K0
end
/-! ### RT -/
section
set_option Elab.async false
set_option linter.all false
set_option maxRecDepth 100000
set_option maxHeartbeats 4000000
/-! _law_right. -/
namespace K0
open PySem PySem.Spec PyProof.Rows L2 LamX OE
open MD (dM KeysV KeyV)
theorem scRight : FnScope ["dice", "signs", "cleaner", "made", "turn"] ["dice"] (defScope (top iRight)) := ⟨rfl, rfl, rfl, by decide +kernel, rfl, by decide +kernel, by decide +kernel⟩
theorem WildAt.dat {K : PySem.W.Frag} {w : World} {H : Hp} {t R B S : Addr} {xs ys zs : List V} {ws ls : List StD} {ds : List PyData} (h : WildAt K w H t R B S xs ys zs ws ls ds) : WildAt K w (K0.dat H) t R B S xs ys zs ws ls ds :=
  ⟨sqt_dat h.tup, sql_dat h.rl, sql_dat h.bl, sql_dat h.sl, pairedI2 (fun _ _ z => z.dat) h.rows, pairedI2 (fun _ _ z => z.dat) h.back, dvAll_dat h.starts⟩
theorem dat_hid {p : Addr} {H H' : Hp} (k : Ex p H H') : Same (dat (hid p H)) (hid p H') := fun b o h => by
  have h1 := dat_some h
  have n : b ≠ p := fun z => by
    have h2 := h1.1
    unfold hid at h2
    rw [if_pos z] at h2
    cases h2
  have h2 := h1.1
  rw [hid_ne n] at h2
  rw [hid_ne n]
  exact k b o n h2 h1.2.2
theorem sqt_off {K : PySem.W.Frag} {H : Hp} {a l : Addr} {xs ys : List V} {u : HO} (e : H l = some (.lst ys)) (h : SqT K H a xs) : SqT K (upd H l u) a xs := by
  rcases h with (h | ⟨o, h⟩) | h
  · exact .inl (.inl (by rw [upd_ne (fun z => by rw [z, e] at h; cases h)]; exact h))
  · exact .inl (.inr ⟨o, by rw [upd_ne (fun z => by rw [z, e] at h; cases h)]; exact h⟩)
  · exact .inr h
theorem KeptAt.off {K : PySem.W.Frag} {w : World} {H : Hp} {t l : Addr} {ss : List StD} {ys : List V} {u : HO} (e : H l = some (.lst ys)) (h : KeptAt K w H t ss) : KeptAt K w (upd H l u) t ss := by
  obtain ⟨Ts, h1, h2⟩ := h
  exact ⟨Ts, sqt_off e h1, pairedI2 (fun _ _ z => z.off e) h2⟩
theorem CleanerAt.off {K : PySem.W.Frag} {w : World} {C x l : Addr} {H : Hp} {ws ls : List StD} {fv : V} {ys : List V} {u : HO} (e : H l = some (.lst ys)) (h : CleanerAt K w C H x ws ls fv) : CleanerAt K w C (upd H l u) x ws ls fv := by
  obtain ⟨dx, tw, tl, to, h1, h2, h3⟩ := h
  exact ⟨dx, tw, tl, to, by rw [upd_ne (fun z => by rw [z, e] at h1; cases h1)]; exact h1, h2.off e, h3.off e⟩
theorem ex_extN {p : Addr} {H H' : Hp} {o : HO} (k : Ex p H H') (e : H' p = some o) : ExtN (upd H p o) H' := fun b u h t => by
  by_cases z : b = p
  · rw [z, upd_same] at h
    rw [z, e, h]
  · rw [upd_ne z] at h
    exact k b u z h t
theorem CleanerAt.ex {K : PySem.W.Frag} {w : World} {C x p : Addr} {H H' : Hp} {ws ls : List StD} {fv : V} (h : CleanerAt K w C H x ws ls fv) (d : Dice p H) (k : Ex p H H') (d' : Dice p H') : CleanerAt K w C H' x ws ls fv := by
  obtain ⟨a, b, c, e⟩ := d
  obtain ⟨a', b', c', e'⟩ := d'
  exact (h.off (u := dk a' b' c') e).ext (ex_extN k e')
theorem sqt_ex {K : PySem.W.Frag} {p t : Addr} {H H' : Hp} {xs : List V} (h : SqT K H t xs) (d : Dice p H) (k : Ex p H H') (d' : Dice p H') : SqT K H' t xs := by
  obtain ⟨a, b, c, e⟩ := d
  obtain ⟨a', b', c', e'⟩ := d'
  exact same_tup (dat_ext (ex_extN k e')) (sqt_dat (sqt_off (u := dk a' b' c') e h))
theorem dice_ext {p : Addr} {H H' : Hp} (d : Dice p H) (k : ExtN H H') : Dice p H' := by
  obtain ⟨a, b, c, e⟩ := d
  exact ⟨a, b, c, k _ _ e (fun _ z => by cases z)⟩
theorem Keep.ex {p : Addr} {H H' : Hp} (k : Keep p H H') : Ex p H H' := fun b o n h _ => k.1 b o n h
theorem few_good {s : StD} (h : fewS s) : goodS s := by
  cases s with
  | bad => exact h.elim
  | good => exact True.intro
theorem rows_self {K : PySem.W.Frag} {w : World} {H : Hp} {n : Nat} : ∀ {xs : List V} {ss : List StD}, Paired (StX K w H n) xs ss → (∀ s ∈ ss, fewS s) → ∀ s ∈ ss, selfS s
  | _, _, .nil, _, s, m => nomatch m
  | _, _, .cons h t, g, s, m => by
    rcases List.mem_cons.mp m with e | m
    · rw [e]
      exact stx_self h (few_good (g _ List.mem_cons_self))
    · exact rows_self t (fun s m => g s (List.mem_cons_of_mem _ m)) s m
def spRight (PT : Addr) : Sp := fun vs H Q _ => ∃ p : Addr, vs = [.ref p] ∧ Dice p H ∧ Tabs [(PT, ioQ)] H ∧ ∀ H', Dice p H' → Ex p H H' → Tabs [(PT, ioQ)] H' → Q (.bl true) H'
section
variable {P : Program} {w : World} {K : PySem.W.Frag} {mg : Str → Option Value} {base : Heap} {f fG fW fM fS gE C PT : Addr} {fd fdG fdW fdM fdS : FuncData}
theorem ok_right {k : Nat} (F : FnP K "_law_right" iRight f fd) (mrange : mg "range" = none) (T : ClK K C) (M : ClM K C) (O : OEq K C gE)
    (FG : FnOk P w K mg base CX0 (k + 11) fG fdG ["dice", "upto"] spSigns) (gG : mg "_law_signs" = some (.ref fG)) (kG : PySem.W.keepIn K (.ref fG) = true) (bG : Binds K fdG ["dice", "upto"] [])
    (FW : FnOk P w K mg base CX0 (k + 11) fW fdW ["dice", "signs"] (spWild K w)) (gW : mg "_law_wild_cleaner" = some (.ref fW)) (kW : PySem.W.keepIn K (.ref fW) = true) (bW : Binds K fdW ["dice", "signs"] [])
    (FM : FnG P w K mg base CX0 (k + 11) fM fdM ["cleaner"] (spMadeC K w C PT)) (gM : mg "_law_made_cleaner" = some (.ref fM)) (kM : PySem.W.keepIn K (.ref fM) = true) (bM : Binds K fdM ["cleaner"] [])
    (FS : FnG P w K mg base CX0 (k + 11) fS fdS ["dice", "cleaner"] (spSRight K w PT)) (gS : mg "_law_spoilt_right" = some (.ref fS)) (kS : PySem.W.keepIn K (.ref fS) = true) (bS : Binds K fdS ["dice", "cleaner"] [])
    (FE : FnR P w K mg base CX0 (k + 11) gE (spCEq K w C)) :
    FnG P w K mg base CX0 (k + 12) f fd ["dice"] (spRight PT) := by
  refine fnG_ofC F scRight (fun vs H Q E h => ?_) (fun cdv hcd A outer s H vs Q E gd hr h => ?_)
  · obtain ⟨p, rfl, _⟩ := h
    rfl
  · obtain ⟨p, rfl, d0, tabs, q⟩ := h
    refine ⟨_, PSs.nox (C8.pss_cut (ps_set (i := 1) scRight.nd rfl (.inl rfl) (pe_call FG hr (by rfl) gG kG bG .nil pass0 (pa_cons (pv 0) (pa_cons pe_int pa_nil))))
      (C8.pss_cut (ps_set (i := 2) scRight.nd rfl (.inl rfl) (pe_call FW hr (by rfl) gW kW bW .nil pass0 (pa_cons (pv 0) (pa_cons (pv 1) pa_nil))))
      (C8.pss_cut (ps_set (i := 3) scRight.nd rfl (.inl rfl) (peG FM gd hr (by rfl) gM kM bM pass0 (pa_cons (pv 2) pa_nil)))
      (C8.pss_cut (ps_for PassesOwn.never rfl (pi_range1 (by rfl) mrange (pa_cons pe_int pa_nil)) (pg_name (i := 4) scRight.nd rfl (.inl rfl))
        (pss_one (ps_if (pt_not (pt_val (peG FS gd hr (by rfl) gS kS bS pass0 (pa_cons (pv 0) (pa_cons (pv 2) pa_nil))))) (pss_one (ps_ret pe_bl)) pss_nil)))
      (pss_one (ps_ret (pe_cmpR (op_oeq O FE hr pass0) (pv 3) (peG FM gd hr (by rfl) gM kM bM pass0 (pa_cons (pv 2) pa_nil)) (nomark _)))))))), ?_⟩
    -- signs
    refine ⟨fun σ' H' => ∃ t cs, σ' = [some (.ref p), some (.ref t), none, none, none] ∧ Keep p H H' ∧ SqT K (hid p H') t (cs.map oneV) ∧ cs.Nodup ∧ cs ≠ [] ∧ cs.length ≤ 3 ∧ (∀ c ∈ cs, c ∈ allSigns.cps.toList), ?_, ?_⟩
    · obtain ⟨x, y, z, e⟩ := d0
      exact ⟨_, rfl, p, x, y, z, 3, rfl, e, by decide, by decide, fun H2 t cs k2 ht pw cne inS c3 => ⟨t, cs, rfl, k2, sqt_unhid k2.2 ht.sq, pw.imp fun h => Nat.ne_of_lt h, cne, by omega, inS⟩⟩
    rintro σ1 H1 ⟨sg, cs, rfl, k1, hT, nd, ne, l3, mem⟩
    -- cleaner
    refine ⟨fun σ' H' => ∃ t R B S xs ys zs ws ls ds, σ' = [some (.ref p), some (.ref sg), some (.ref t), none, none] ∧ Keep p H1 H' ∧ WildAt K w (hid p H') t R B S xs ys zs ws ls ds ∧ WildOk ws ls ds, ?_, ?_⟩
    · exact ⟨_, rfl, _, rfl, p, sg, cs, rfl, k1.2, hT, nd, ne, l3, mem, fun H2 t R B S xs ys zs ws ls ds k2 W O => ⟨t, R, B, S, xs, ys, zs, ws, ls, ds, rfl, k2, W, O⟩⟩
    rintro σ2 H2 ⟨t, R, B, S, xs, ys, zs, ws, ls, ds, rfl, k2, W, WO⟩
    have k02 := k1.trans k2
    have t2 := tabs_keep d0 k02 tabs
    have sw := rows_self W.rows WO.fw
    have sls := rows_self W.back WO.fl
    have sz := dvAll_sf W.starts
    -- made
    refine ⟨fun σ' H' => ∃ x fv, σ' = [some (.ref p), some (.ref sg), some (.ref t), some (.ref x), none] ∧ ExtN H2 H' ∧ Tabs [(PT, ioQ)] H' ∧ CleanerAt K w C H' x ws ls (.ref fv) ∧ SqT K H' fv zs, ?_, ?_⟩
    · exact ⟨_, rfl, t, R, B, S, xs, ys, zs, ws, ls, ds, rfl, W.same hid_out, WO, t2, fun H3 x fv e3 t3 ca hz => ⟨x, fv, rfl, e3, t3, ca, hz⟩⟩
    rintro σ3 H3 ⟨x, fv, rfl, e3, t3, ca, hz⟩
    have d3 := dice_ext k2.2 e3
    have W3 := W.dat.same (dat_hid (p := p) (fun b o _ h n => e3 b o h n))
    -- four times
    refine ⟨fun σ' H' => ∃ x4, σ' = [some (.ref p), some (.ref sg), some (.ref t), some (.ref x), x4] ∧ Dice p H' ∧ Ex p H3 H' ∧ Tabs [(PT, ioQ)] H', ?_, ?_⟩
    · refine ⟨_, rfl, by decide, by decide, for_range (lo := 0) (fun i σ' H' => ∃ x4, σ' = [some (.ref p), some (.ref sg), some (.ref t), some (.ref x), x4] ∧ Dice p H' ∧ Ex p H3 H' ∧ Tabs [(PT, ioQ)] H') ⟨_, rfl, d3, fun _ _ _ h _ => h, t3⟩ (fun i σ' H' hi hP => ?_) (fun σ' H' hP => hP)⟩
      obtain ⟨x4, rfl, dh, eh, th⟩ := hP
      exact ⟨_, rfl, _, rfl, p, t, R, B, S, xs, ys, zs, ws, ls, ds, rfl, dh, W3.dat.same (dat_hid eh), WO, WO.fw, WO.fl, th, fun H5 d5 e5 t5 => ⟨true, rfl, ite2 (fun e => by cases e) (fun _ => ⟨_, rfl, d5, eh.trans e5, t5⟩)⟩⟩
    rintro σ4 H4 ⟨x4, rfl, d4, e4, t4⟩
    have W4 := W3.dat.same (dat_hid e4)
    have ca4 := ca.ex d3 e4 d4
    have hz4 := sqt_ex hz d3 e4 d4
    refine ⟨_, rfl, _, rfl, t, R, B, S, xs, ys, zs, ws, ls, ds, rfl, W4.same hid_out, WO, t4, fun H5 y fv2 e5 t5 cb hz2 => ?_⟩
    have ca5 := ca4.ext e5
    have hz5 := same_tup (dat_ext e5) (sqt_dat hz4)
    obtain ⟨dx, tw, tl, to, hx, _⟩ := id ca5
    refine ⟨x, dx, _, .ref C, rfl, hx, cb.ty T M, ?_, x, y, fv, fv2, ws, ls, zs, rfl, ca5, cb, sw, sls, hz5, hz2, sz, fun H6 s6 => ⟨true, rfl, ?_⟩⟩
    · unfold PySem.W.notFirst
      rw [beq_self_eq_true, Bool.true_or]
    · exact q H6 ((dice_ext d4 e5).same s6) (fun b o n h nt => s6 _ _ (e5 _ _ (e4 _ _ n (e3 _ _ (k02.1 _ _ n h) nt) nt) nt)) (Tabs.ext t5 s6)
end
end K0
end
/-! ### MON -/
section
set_option Elab.async false
set_option linter.all false
set_option maxRecDepth 100000
set_option maxHeartbeats 4000000
/-! {k: v} with any key. -/
namespace MD
open PySem PySem.Spec PyProof.Rows L2
def tMOne (K : PySem.W.Frag) (w : World) (tk tv : TE) : TE := fun σ H Q => ∀ p, H p = none → tk σ (upd H p (dM w p [])) fun x H1 => tv σ H1 fun y H2 => H2 p = some (dM w p []) ∧ ∃ k, KeyV K H2 x k ∧ k.depth ≤ 8 ∧ Q (.ref p) (upd H2 p (dM w p [(k, x, y)]))
theorem pe_mone {X : Cx} {ke ve : Expr} {pos : Pos} {tk tv : TE} (hu : X.A.units + 64 < cLine) (hk : PE X ke tk) (hv : PE X ve tv) : PE X (.Dict [some ke] [ve] pos) (tMOne X.K X.w tk tv) := by
  refine ⟨fun pins s σ H Q I q => ?_⟩
  have hn := I.hok.fresh (Nat.le_refl s.heap.objs.size)
  have I1 := I.laid (a := s.heap.objs.size) (o := dM X.w s.heap.objs.size []) (h' := s.heap.push { cls := .type "dict", data := .dict #[] }) (t' := s.toks) (fun _ _ q => Heap.get?_push_of_some _ q) (Nat.le_refl _)
    (TabM.ok ⟨Nat.zero_le _, beq_eq_false_iff_ne.mpr (Ne.symm (Nat.ne_of_lt I.big)), [], .nil, _, #[], 0, Heap.get?_push_size _ rfl, ⟨rfl, rfl, rfl⟩, rfl, rfl, List.nodup_nil⟩)
  refine wpAny_Dict_any rfl rfl (by simp) (by show 1 ≤ 15; decide) (pairTrees_cons_walk (thn (hk.run pins _ σ _ _ I1 (q _ hn)) fun u s1 ⟨x, H1, I1', rx, q1⟩ => thn (hv.run pins s1 σ H1 _ I1' q1) fun vv s2 ⟨y, H2, I2, ry, ed, k, n, dk, q2⟩ => pairTrees_nil_walk ?_))
  obtain ⟨_, hs, xs, r, m⟩ := atM I2 ed (fun _ z => nomatch z)
  cases r
  unfold storeAll
  rw [List.forIn_cons]
  refine wpAny_bind (wpAny_bind (set_md (by show X.A.units + 8 < _; omega) m (key_is I2 _ _ _ n rx) dk (Nat.zero_le _) fun h' ⟨o, es, ep, h1, h2, h3, h4, h5⟩ sb => wpAny_pure ?_))
  dsimp only
  rw [List.forIn_nil]
  refine wpAny_pure ?_
  exact ⟨.ref s.heap.objs.size, _, d_write I2 (by rw [ed]; exact True.intro) sb ⟨o, h1⟩ (TabM.ok ⟨by show 1 ≤ sizeLine; decide, hs, _, .cons ⟨rfl, rx, ry⟩ .nil, o, es, ep, h1, h2, h3, h4, h5.one⟩), rfl, q2⟩
end MD
end
/-! ### LW -/
section
set_option Elab.async false
set_option linter.all false
set_option maxRecDepth 100000
set_option maxHeartbeats 4000000
/-! The law. -/
namespace K0
open PySem PySem.Spec PyProof.Rows L2 LamX OE
open MD (dM KeysV KeyV)
abbrev lawN : List Str := ["script", "at", "dice", "turn", "row", "told", "starts"]
theorem scLaw : FnScope lawN ["script"] (defScope (top iLaw)) := ⟨rfl, rfl, rfl, by decide +kernel, rfl, by decide +kernel, by decide +kernel⟩
def spLaw (K : PySem.W.Frag) (T : Addr) : Sp := fun vs H Q _ => ∃ (a : Addr) (ns : List Int), vs = [.ref a] ∧ SqL K H a (ns.map V.int) ∧ Tabs [(T, ioQ)] H ∧ ∀ H', Q (.bl true) H'
def rowG (T1 T2 : Addr) : StD := .good [((.tup [.text "a", .num 0], .ref T1, .ref T2), .tuple [.str "a", .int 0], .tuple [.str "ab", .int 0])] [.int 0, .str "ab"] [.int 0, .str "ab"]
def lkG : StD := .good [] [.int 0] [.int 0]
def emG : StD := .good [] [.int 0, .str ""] [.int 0, .str ""]
theorem p1 (T1 T2 : Addr) : partsD (.sts [rowG T1 T2, rowG T1 T2, rowG T1 T2, rowG T1 T2]) dl0 (firstD dl0 .none) = true := by kernel_rfl
theorem p2 (T1 T2 : Addr) : partsD (.sts [rowG T1 T2, rowG T1 T2, rowG T1 T2, rowG T1 T2, rowG T1 T2]) dl0 (firstD dl0 .none) = false := by rfl
theorem p3 (T1 T2 : Addr) : partsD (.sts [rowG T1 T2]) (.sts [lkG, lkG, lkG]) (firstD (.sts [lkG, lkG, lkG]) (.tuple [.none, .none, .none])) = true := by kernel_rfl
theorem p4 (T1 T2 : Addr) : partsD (.sts [rowG T1 T2]) (.sts [lkG, lkG, lkG, lkG]) (firstD (.sts [lkG, lkG, lkG, lkG]) .none) = false := by rfl
theorem p5 (d : PyData) : partsD (.sts [emG]) (.sts []) d = false := by rfl
theorem rowFit : Fit (.tuple [.str "a", .int 0]) := ⟨by decide +kernel, by decide +kernel, by decide +kernel, by decide +kernel⟩
def RowAt (K : PySem.W.Frag) (w : World) (H : Hp) (R T1 T2 : Addr) : Prop := StX K w H 3 (.ref R) (rowG T1 T2)
theorem RowAt.ext {K : PySem.W.Frag} {w : World} {H H' : Hp} {R T1 T2 : Addr} (h : RowAt K w H R T1 T2) (e : ExtN H H') : RowAt K w H' R T1 T2 := (StX.dat h).same (dat_ext e)
theorem none_back {H H' : Hp} {b : Addr} (s : Same H H') (n : H' b = none) : H b = none := by
  cases e : H b with
  | none => rfl
  | some o => rw [s _ _ e] at n; cases n
theorem mo_at {K : PySem.W.Frag} {w : World} {C PT : Addr} {H : Hp} {wv lv fv : V} {dw dl : WhD} {df : PyData} {c : Bool} {Q : VK} {E : XK} (hW : WhX K w H 3 wv dw) (hL : LookV K w H lv dl) (hF : Dv K H fv df) (sz : df.bulk ≤ 10000) (few : df = .none → ∀ ss, dl = .sts ss → ss.length ≤ 1000) (tabs : Tabs [(PT, ioQ)] H)
    (hc : partsD dw dl (firstD dl df) = c) (q : ∀ v H', ExtN H H' → Tabs [(PT, ioQ)] H' → decide (v = V.non) = !c → Q v H') : spMadeOf K w C PT [wv, lv, fv] H Q E :=
  ⟨wv, lv, fv, dw, dl, df, rfl, hW, hL, hF, sz, few, tabs, fun ok H' x fv' kf ex tb ca => q (.ref x) H' ex tb (by rw [← hc, ok]; rfl), fun no H' s' => q .non H' (ExtN.of s') (Tabs.ext tabs s') (by rw [← hc, no]; rfl)⟩
theorem xtr {H H1 H2 : Hp} (a : ExtN H H1) (b : ExtN H1 H2) : ExtN H H2 := fun c o h t => b c o (a c o h t) t
theorem lk_at {K : PySem.W.Frag} {w : World} {H : Hp} {a m : Addr} (ha : SqT K H a [.ref m, .int 0]) (hm : H m = some (dM w m [])) : StX K w H 2 (.ref a) lkG :=
  ⟨a, m, rfl, ha, .cons (.int 0) .nil, rfl, hm, ⟨fun p hp => (nomatch hp), List.nodup_nil, by decide, fun r hr => (nomatch hr), fun r hr => (nomatch hr)⟩, fun d hd => by
    rw [List.mem_singleton.mp hd]
    decide +kernel⟩
theorem em_at {K : PySem.W.Frag} {w : World} {H : Hp} {a m : Addr} (ha : SqT K H a [.ref m, .int 0, .str ""]) (hm : H m = some (dM w m [])) : StX K w H 3 (.ref a) emG :=
  ⟨a, m, rfl, ha, .cons (.int 0) (.cons (.str "") .nil), rfl, hm, ⟨fun p hp => (nomatch hp), List.nodup_nil, by decide, fun r hr => (nomatch hr), fun r hr => (nomatch hr)⟩, fun d hd => by
    simp only [List.mem_cons, List.not_mem_nil, or_false] at hd
    rcases hd with rfl | rfl <;> decide +kernel⟩
theorem pe_mnewK {X : Cx} {w : World} {pos : Pos} (ew : X.w = w) : PE X (.Dict [] [] pos) (MD.tMNew w) := by
  subst ew
  exact MD.pe_mnew
def Off (H : Hp) (l : Addr) : Prop := ∀ b o, H b = some o → (∀ ps, o ≠ .tbl ps) → b ≠ l
theorem off_new {H H' : Hp} {l : Addr} (e : ExtN H H') (n : H' l = none) : Off H l := fun b o h t z => by
  have y := e b o h t
  rw [z, n] at y
  cases y
theorem off_put {H H' : Hp} {l : Addr} {o : HO} (e : ExtN H H') (f : Off H l) : ExtN H (upd H' l o) := fun b u h t => by
  rw [upd_ne (f b u h t)]
  exact e b u h t
def dueD : PyData := .list [.bool false, .bool true, .bool false, .bool true, .bool true, .bool true]
section
variable {P : Program} {w : World} {K : PySem.W.Frag} {mg : Str → Option Value} {base : Heap} {f fD fR fM C T : Addr} {fd fdD fdR fdM : FuncData}
theorem ok_law {n : Nat} (F : FnP K "law" iLaw f fd) (mrange : mg "range" = none) (mmax : mg "max" = none) (mmin : mg "min" = none) (mlen : mg "len" = none)
    (FD : FnOk P w K mg base CX0 n fD fdD ["script", "at"] (spDice K)) (gD : mg "_law_dice" = some (.ref fD)) (kD : PySem.W.keepIn K (.ref fD) = true) (bD : Binds K fdD ["script", "at"] [])
    (FR : FnG P w K mg base CX0 n fR fdR ["dice"] (spRight T)) (gR : mg "_law_right" = some (.ref fR)) (kR : PySem.W.keepIn K (.ref fR) = true) (bR : Binds K fdR ["dice"] [])
    (FM : FnG P w K mg base CX0 n fM fdM ["rows", "back", "starts"] (spMadeOf K w C T)) (gM : mg "_law_made_of" = some (.ref fM)) (kM : PySem.W.keepIn K (.ref fM) = true) (bM : Binds K fdM ["rows", "back", "starts"] []) :
    FnG P w K mg base CX0 (n + 1) f fd ["script"] (spLaw K T) := by
  refine fnG_ofC F scLaw (fun vs H Q E h => ?_) (fun cdv _ A outer s H vs Q E gd hr h => ?_)
  · obtain ⟨a, ns, rfl, _⟩ := h
    rfl
  · obtain ⟨a, ns, rfl, hS, T0, q⟩ := h
    have sl : sizeLine = 16777216 := sizeLine_eq
    refine ⟨_, PSs.nox (C8.pss_cut (ps_for PassesOwn.never rfl (pi_range1 (by rfl) mrange (pa_cons (pe_callB (call_max2 rfl) (by rfl) mmax boot_max (pa_cons pe_int (pa_cons (pe_callB (call_min2 rfl) (by rfl) mmin boot_min (pa_cons pe_int (pa_cons (pe_callB call_len_seq (by rfl) mlen PySem.boot_len (pa_cons (pv 0) pa_nil)) pa_nil))) pa_nil))) pa_nil)) (pg_name (i := 1) scLaw.nd rfl (.inl rfl))
        (pss_cons (ps_set (i := 2) scLaw.nd rfl (.inl rfl) (pe_call FD hr (by rfl) gD kD bD .nil pass0 (pa_cons (pv 0) (pa_cons (pv 1) pa_nil))))
        (pss_one (ps_for PassesOwn.never rfl (pi_range1 (by rfl) mrange (pa_cons pe_int pa_nil)) (pg_name (i := 3) scLaw.nd rfl (.inl rfl))
          (pss_one (ps_if (pt_not (pt_val (peG FR gd hr (by rfl) gR kR bR pass0 (pa_cons (pv 2) pa_nil)))) (pss_one (ps_ret pe_bl)) pss_nil))))))
      (C8.pss_cut (ps_set (i := 4) scLaw.nd rfl (.inl rfl) (pe_tup (pa_cons (MD.pe_mone hr.units (pe_tup (pa_cons pe_str (pa_cons pe_int pa_nil))) (pe_tup (pa_cons pe_str (pa_cons pe_int pa_nil)))) (pa_cons pe_int (pa_cons pe_str pa_nil)))))
      (C8.pss_cut (ps_set (i := 5) scLaw.nd rfl (.inl rfl) (pe_lst (pa_cons (pe_cmp (pc_isN (peG FM gd hr (by rfl) gM kM bM pass0 (pa_cons (pe_op op_repA (pe_tup (pa_cons (pv 4) pa_nil)) pe_int) (pa_cons pe_non (pa_cons pe_non pa_nil))))) rfl)
          (pa_cons (pe_cmp (pc_isN (peG FM gd hr (by rfl) gM kM bM pass0 (pa_cons (pe_op op_repA (pe_tup (pa_cons (pv 4) pa_nil)) pe_int) (pa_cons pe_non (pa_cons pe_non pa_nil))))) rfl) pa_nil))))
      (C8.pss_cut (ps_expr (pe_bm PySem.F.plainAttrs_list PySem.F.slot_list_append PySem.F.type_list_append mt_append (pv 5) (pa_cons (pe_cmp (pc_isN (peG FM gd hr (by rfl) gM kM bM pass0
          (pa_cons (pe_tup (pa_cons (pv 4) pa_nil)) (pa_cons (pe_op op_repA (pe_tup (pa_cons (pe_tup (pa_cons MD.pe_mnew (pa_cons pe_int pa_nil))) pa_nil)) pe_int) (pa_cons (pe_op op_repA (pe_tup (pa_cons pe_non pa_nil)) pe_int) pa_nil))))) rfl) pa_nil)))
      (C8.pss_cut (ps_expr (pe_bm PySem.F.plainAttrs_list PySem.F.slot_list_append PySem.F.type_list_append mt_append (pv 5) (pa_cons (pe_cmp (pc_isN (peG FM gd hr (by rfl) gM kM bM pass0
          (pa_cons (pe_tup (pa_cons (pv 4) pa_nil)) (pa_cons (pe_op op_repA (pe_tup (pa_cons (pe_tup (pa_cons MD.pe_mnew (pa_cons pe_int pa_nil))) pa_nil)) pe_int) (pa_cons pe_non pa_nil))))) rfl) pa_nil)))
      (C8.pss_cut (ps_set (i := 5) scLaw.nd rfl (.inl rfl) (pe_op op_cat (pv 5) (pe_lc (own := [("starts", 6)]) (g := gName 6) (tt := tYes) rfl scLaw.nd (pi_tup (pe_tup (pa_cons pe_non (pa_cons (pe_tup pa_nil) pa_nil)))) (blkOk_by (N := lawN) (sc := defScope (top iLaw)) (by decide +kernel))
          (fun _ _ _ _ _ => pg_name (i := 6) scLaw.nd rfl (Or.inl rfl)) (fun _ _ _ _ _ => pts_nil)
          (fun _ _ _ _ _ => pe_cmp (pc_isN (peG FM gd hr (by rfl) gM kM bM pass0 (pa_cons (pe_tup (pa_cons (pe_tup (pa_cons (pe_mnewK (w := w) rfl) (pa_cons pe_int (pa_cons pe_str pa_nil)))) pa_nil)) (pa_cons (pe_tup pa_nil) (pa_cons (pv 6) pa_nil))))) rfl))))
      (pss_one (ps_ret (pe_cmpR (op_eqD hr.units) (pv 5) (pe_lst (pa_cons pe_bl (pa_cons pe_bl (pa_cons pe_bl (pa_cons pe_bl (pa_cons pe_bl (pa_cons pe_bl pa_nil))))))) (nomark _)))))))))), ?_⟩
    -- the loop
    refine ⟨fun σ' H' => ∃ x1 x2 x3, σ' = [some (.ref a), x1, x2, x3, none, none, none] ∧ Tabs [(T, ioQ)] H', ?_, ?_⟩
    · generalize hB : noTab H = B
      have sB : Same B H := by rw [← hB]; exact noTab_out
      have nB : ∀ b ps, B b ≠ some (.tbl ps) := fun b ps e => by
        rw [← hB] at e
        exact (noTab_of e).2 ps rfl
      have hS' : SqL K B a (ns.map V.int) := by rw [← hB]; exact sql_noTab hS
      refine ⟨_, rfl, a, _, rfl, .inl hS, _, _, rfl, _, _, rfl, ?_⟩
      have bd : ∀ m : Int, -(2 ^ 62) ≤ (if (if m < 6 then m else 6) > 1 then (if m < 6 then m else 6) else 1) ∧ (if (if m < 6 then m else 6) > 1 then (if m < 6 then m else 6) else 1) < (2 : Int) ^ 62 := fun m => by
        have e2 : (2 : Int) ^ 62 = 4611686018427387904 := by decide
        split <;> (try split) <;> omega
      refine ⟨_, rfl, (bd _).1, (bd _).2, for_range (lo := 0) (fun i σ' H' => ∃ x1 x2 x3, σ' = [some (.ref a), x1, x2, x3, none, none, none] ∧ Same B H' ∧ Tabs [(T, ioQ)] H') ⟨_, _, _, rfl, sB, T0⟩ (fun i σ' H' hi hP => ?_) (fun σ' H' ⟨x1, x2, x3, e, _, t⟩ => ⟨x1, x2, x3, e, t⟩)⟩
      obtain ⟨x1, x2, x3, rfl, s1, t1⟩ := hP
      refine ⟨_, rfl, _, rfl, a, ns, i, by rw [Int.zero_add]; rfl, s1.seq hS', fun p x y z np => ?_⟩
      have nBp : B p = none := none_back s1 np
      have sp : Same H' (upd H' p (dk x y z)) := same_upd np
      have tp : Tabs [(T, ioQ)] (upd H' p (dk x y z)) := Tabs.ext t1 sp
      have dp : Dice p (upd H' p (dk x y z)) := ⟨x, y, z, upd_same⟩
      have sBp : Same B (upd H' p (dk x y z)) := s1.trans sp
      refine ⟨_, rfl, by decide, by decide, for_range (lo := 0) (fun j σ' Hj => ∃ x3, σ' = [some (.ref a), some (.int (0 + i)), some (.ref p), x3, none, none, none] ∧ Same B Hj ∧ Dice p Hj ∧ Tabs [(T, ioQ)] Hj) ⟨_, rfl, sBp, dp, tp⟩ (fun j σ' Hj hj hPj => ?_) (fun σ' Hj ⟨x3, e, sj, dj, tj⟩ => ⟨_, _, _, e, sj, tj⟩)⟩
      obtain ⟨x3, rfl, sj, dj, tj⟩ := hPj
      refine ⟨_, rfl, p, rfl, dj, tj, fun H5 d5 e5 t5 => ⟨true, rfl, ite2 (fun e => by cases e) (fun _ => ⟨_, rfl, fun b o e => ?_, d5, t5⟩)⟩⟩
      exact e5 b o (ne_of_none e nBp) (sj _ _ e) (fun ps z => nB b ps (by rw [e, z]))
    rintro σ1 H1 ⟨x1, x2, x3, rfl, T1⟩
    -- the row
    refine ⟨fun σ' H' => ∃ R A1 A2, σ' = [some (.ref a), x1, x2, x3, some (.ref R), none, none] ∧ Tabs [(T, ioQ)] H' ∧ RowAt K w H' R A1 A2, ?_, ?_⟩
    · intro m nm
      have u1 := same_upd (o := dM w m []) nm
      refine ⟨by show 2 ≤ sizeLine; omega, fun A1 n1 => ⟨by show 2 ≤ sizeLine; omega, fun A2 n2 => ?_⟩⟩
      have u2 := same_upd (o := .tup [.str "a", .int 0]) n1
      have u3 := same_upd (o := .tup [.str "ab", .int 0]) n2
      have hm : upd (upd (upd H1 m (dM w m [])) A1 (.tup [.str "a", .int 0])) A2 (.tup [.str "ab", .int 0]) m = some (dM w m []) := u3 _ _ (u2 _ _ upd_same)
      have h1 := u3 _ _ (upd_same (H := upd H1 m (dM w m [])) (a := A1) (o := .tup [.str "a", .int 0]))
      have m1 : A1 ≠ m := fun z => by rw [z, upd_same] at n1; cases n1
      have m2 : A2 ≠ m := fun z => by rw [z, u2 _ _ upd_same] at n2; cases n2
      refine ⟨hm, .tup [.text "a", .num 0], .tup (.of h1) (.cons (.atom rfl) (.cons (.atom rfl) .nil)), by decide +kernel, ?_⟩
      refine ⟨by show 3 ≤ sizeLine; omega, fun R nR => ⟨R, A1, A2, rfl, ?_, ?_⟩⟩
      · exact Tabs.ext (Tabs.ext T1 (fun b o e => by rw [upd_ne (ne_of_none e nm)]; exact u3 _ _ (u2 _ _ (u1 _ _ e)))) (same_upd nR)
      · have uR := same_upd (o := .tup [.ref m, .int 0, .str "ab"]) nR
        have a1 := uR _ _ ((upd_ne m1).trans h1)
        have a2 := uR _ _ ((upd_ne m2).trans upd_same)
        refine ⟨R, m, rfl, .of upd_same, .cons (.int 0) (.cons (.str "ab") .nil), rfl, uR _ _ upd_same, ⟨fun p hp => ?_, by show List.Nodup [_]; simp, by show 1 ≤ 1000; decide, fun r hr => ?_, fun r hr => ?_⟩, fun d hd => ?_⟩
        · rw [List.mem_singleton.mp hp]
          exact ⟨.tup (.of a1) (.cons (.atom rfl) (.cons (.atom rfl) .nil)), by show NestedKey.depth (.tup [.text "a", .num 0]) ≤ 8; decide +kernel⟩
        · rw [List.mem_singleton.mp hr]
          exact ⟨.tup (.of a1) (.cons (.str "a") (.cons (.int 0) .nil)), .tup (.of a2) (.cons (.str "ab") (.cons (.int 0) .nil))⟩
        · rw [List.mem_singleton.mp hr]
          exact ⟨by show (PyData.tuple [.str "a", .int 0]).bulk ≤ 1000; decide +kernel, by show (PyData.tuple [.str "ab", .int 0]).bulk ≤ 10000; decide +kernel, rowFit⟩
        · simp only [List.mem_cons, List.not_mem_nil, or_false] at hd
          rcases hd with rfl | rfl <;> decide +kernel
    rintro σ2 H2 ⟨R, A1, A2, rfl, T2, hR⟩
    -- told: the first two
    refine ⟨fun σ' H' => ∃ l, σ' = [some (.ref a), x1, x2, x3, some (.ref R), some (.ref l), none] ∧ Tabs [(T, ioQ)] H' ∧ ExtN H2 H' ∧ Off H2 l ∧ H' l = some (.lst [.bl false, .bl true]), ?_, ?_⟩
    · refine ⟨_, rfl, by show 1 ≤ sizeLine; omega, fun b1 n1 => ?_⟩
      have u1 := same_upd (o := .tup [.ref R]) n1
      have hR3 := hR.ext (ExtN.of u1)
      try dsimp only [tC, tCons, tNil]
      refine repA (xs := [.ref R]) (k := 4) (.of upd_same) (by simp) (by decide) (by decide) (by show 1 ≤ 1000; decide) fun c1 H3 e3 h3 => ?_
      have hR4 := hR3.ext (ExtN.of e3)
      try dsimp only [tC, tCons, tNil]
      refine mo_at (dw := .sts [rowG A1 A2, rowG A1 A2, rowG A1 A2, rowG A1 A2]) (dl := dl0) (df := .none) ⟨c1, _, rfl, h3, .cons hR4 (.cons hR4 (.cons hR4 (.cons hR4 .nil))), by show 4 ≤ 1000; decide⟩ (.inl ⟨rfl, rfl⟩) .non (by decide +kernel) (fun _ ss e => by cases e; show 1 ≤ 1000; decide) (Tabs.ext (Tabs.ext T2 u1) e3) (p1 A1 A2) fun v H4 e4 t4 d4 => ?_
      have hR5 := hR4.ext e4
      refine ⟨_, rfl, by show 1 ≤ sizeLine; omega, fun b2 n2 => ?_⟩
      have u2 := same_upd (o := .tup [.ref R]) n2
      have hR6 := hR5.ext (ExtN.of u2)
      try dsimp only [tC, tCons, tNil]
      refine repA (xs := [.ref R]) (k := 5) (.of upd_same) (by simp) (by decide) (by decide) (by show 1 ≤ 1000; decide) fun c2 H5 e5 h5 => ?_
      have hR7 := hR6.ext (ExtN.of e5)
      try dsimp only [tC, tCons, tNil]
      refine mo_at (dw := .sts [rowG A1 A2, rowG A1 A2, rowG A1 A2, rowG A1 A2, rowG A1 A2]) (dl := dl0) (df := .none) ⟨c2, _, rfl, h5, .cons hR7 (.cons hR7 (.cons hR7 (.cons hR7 (.cons hR7 .nil)))), by show 5 ≤ 1000; decide⟩ (.inl ⟨rfl, rfl⟩) .non (by decide +kernel) (fun _ ss e => by cases e; show 1 ≤ 1000; decide) (Tabs.ext (Tabs.ext t4 u2) e5) (p2 A1 A2) fun v2 H6 e6 t6 d6 => ?_
      have e26 : ExtN H2 H6 := xtr (xtr (ExtN.of (u1.trans e3)) e4) (xtr (ExtN.of (u2.trans e5)) e6)
      refine ⟨by show 2 ≤ sizeLine; omega, fun l nl => ⟨l, rfl, Tabs.ext t6 (same_upd nl), xtr e26 (ExtN.of (same_upd nl)), off_new e26 nl, ?_⟩⟩
      rw [upd_same, d4, d6]
      rfl
    rintro σ3 H3 ⟨l, rfl, T3, x3', f3, hl3⟩
    -- the third
    refine ⟨fun σ' H' => σ' = [some (.ref a), x1, x2, x3, some (.ref R), some (.ref l), none] ∧ Tabs [(T, ioQ)] H' ∧ ExtN H2 H' ∧ H' l = some (.lst [.bl false, .bl true, .bl false]), ?_, ?_⟩
    · refine ⟨_, rfl, .inl ⟨rfl, _, .of hl3⟩, _, rfl, by show 1 ≤ sizeLine; omega, fun b1 n1 m nm => ?_⟩
      have u1 := same_upd (o := .tup [.ref R]) n1
      have u2 := same_upd (o := dM w m []) nm
      refine ⟨by show 2 ≤ sizeLine; omega, fun b2 n2 => ⟨by show 1 ≤ sizeLine; omega, fun b3 n3 => ?_⟩⟩
      have u3 := same_upd (o := .tup [.ref m, .int 0]) n2
      have u4 := same_upd (o := .tup [.ref b2]) n3
      try dsimp only [tC, tCons, tNil]
      refine repA (xs := [.ref b2]) (k := 3) (.of upd_same) (by simp) (by decide) (by decide) (by show 1 ≤ 1000; decide) fun c1 H4 e4 h4 => ?_
      refine ⟨by show 1 ≤ sizeLine; omega, fun b5 n5 => ?_⟩
      have u5 := same_upd (o := .tup [.non]) n5
      try dsimp only [tC, tCons, tNil]
      refine repA (xs := [.non]) (k := 3) (.of upd_same) (by simp) (by decide) (by decide) (by show 1 ≤ 1000; decide) fun c2 H5 e5 h5 => ?_
      have s45 := u5.trans e5
      have s2 := ((u3.trans u4).trans e4).trans s45
      have s1 := u2.trans s2
      have e25 : ExtN H2 H5 := xtr x3' (ExtN.of (u1.trans s1))
      have hR5 := hR.ext e25
      have lkm := lk_at (K := K) (w := w) (.of ((u4.trans e4).trans s45 _ _ upd_same)) (s2 _ _ upd_same)
      try dsimp only [tC, tCons, tNil]
      refine mo_at (dw := .sts [rowG A1 A2]) (dl := .sts [lkG, lkG, lkG]) (df := .tuple [.none, .none, .none]) ⟨b1, [.ref R], rfl, .of (s1 _ _ upd_same), .cons hR5 .nil, by show 1 ≤ 1000; decide⟩ (.inr ⟨by simp, c1, _, rfl, same_tup s45 h4, .cons lkm (.cons lkm (.cons lkm .nil)), by show 3 ≤ 1000; decide⟩)
        (.tup h5 (.cons .non (.cons .non (.cons .non .nil)))) (by decide +kernel) (fun e => by cases e) (Tabs.ext T3 (u1.trans s1)) (p3 A1 A2) fun v H6 e6 t6 d6 => ?_
      have hl6 := e6 _ _ ((u1.trans s1) _ _ hl3) (fun _ z => by cases z)
      refine ⟨l, _, _, rfl, rfl, hl6, by show 2 < sizeLine; omega, rfl, tabs_putL hl6 t6, off_put (xtr e25 e6) f3, ?_⟩
      rw [upd_same, d6]
      rfl
    rintro σ4 H4 ⟨rfl, T4, x4, hl4⟩
    -- the fourth
    refine ⟨fun σ' H' => σ' = [some (.ref a), x1, x2, x3, some (.ref R), some (.ref l), none] ∧ Tabs [(T, ioQ)] H' ∧ ExtN H2 H' ∧ H' l = some (.lst [.bl false, .bl true, .bl false, .bl true]), ?_, ?_⟩
    · refine ⟨_, rfl, .inl ⟨rfl, _, .of hl4⟩, _, rfl, by show 1 ≤ sizeLine; omega, fun b1 n1 m nm => ?_⟩
      have u1 := same_upd (o := .tup [.ref R]) n1
      have u2 := same_upd (o := dM w m []) nm
      refine ⟨by show 2 ≤ sizeLine; omega, fun b2 n2 => ⟨by show 1 ≤ sizeLine; omega, fun b3 n3 => ?_⟩⟩
      have u3 := same_upd (o := .tup [.ref m, .int 0]) n2
      have u4 := same_upd (o := .tup [.ref b2]) n3
      try dsimp only [tC, tCons, tNil]
      refine repA (xs := [.ref b2]) (k := 4) (.of upd_same) (by simp) (by decide) (by decide) (by show 1 ≤ 1000; decide) fun c1 H5 e5 h5 => ?_
      have s2 := (u3.trans u4).trans e5
      have s1 := u2.trans s2
      have e25 : ExtN H2 H5 := xtr x4 (ExtN.of (u1.trans s1))
      have hR5 := hR.ext e25
      have lkm := lk_at (K := K) (w := w) (.of ((u4.trans e5) _ _ upd_same)) (s2 _ _ upd_same)
      try dsimp only [tC, tCons, tNil]
      refine mo_at (dw := .sts [rowG A1 A2]) (dl := .sts [lkG, lkG, lkG, lkG]) (df := .none) ⟨b1, [.ref R], rfl, .of (s1 _ _ upd_same), .cons hR5 .nil, by show 1 ≤ 1000; decide⟩ (.inr ⟨by simp, c1, _, rfl, h5, .cons lkm (.cons lkm (.cons lkm (.cons lkm .nil))), by show 4 ≤ 1000; decide⟩)
        .non (by decide +kernel) (fun _ ss e => by cases e; show 4 ≤ 1000; decide) (Tabs.ext T4 (u1.trans s1)) (p4 A1 A2) fun v H6 e6 t6 d6 => ?_
      have hl6 := e6 _ _ ((u1.trans s1) _ _ hl4) (fun _ z => by cases z)
      refine ⟨l, _, _, rfl, rfl, hl6, by show 3 < sizeLine; omega, rfl, tabs_putL hl6 t6, off_put (xtr e25 e6) f3, ?_⟩
      rw [upd_same, d6]
      rfl
    rintro σ5 H5 ⟨rfl, T5, x5, hl5⟩
    -- a look without states
    refine ⟨fun σ' H' => ∃ l2, σ' = [some (.ref a), x1, x2, x3, some (.ref R), some (.ref l2), none] ∧ H' l2 = some (.lst [.bl false, .bl true, .bl false, .bl true, .bl true, .bl true]), ?_, ?_⟩
    · refine ⟨_, rfl, by show 0 ≤ sizeLine; omega, fun b1 n1 => ⟨by show 2 ≤ sizeLine; omega, fun b2 n2 => ?_⟩⟩
      have u1 := same_upd (o := .tup []) n1
      have u2 := same_upd (o := .tup [.non, .ref b1]) n2
      have hb1 := u2 _ _ (upd_same (H := H5) (a := b1) (o := .tup []))
      refine ⟨b2, rfl, ⟨_, .of upd_same⟩, fun D nD => lc_it (walk_tup (xs := [.non, .ref b1])) (fun i H' => ExtN (upd (upd H5 b1 (.tup [])) b2 (.tup [.non, .ref b1])) H' ∧ Tabs [(T, ioQ)] H' ∧ H' D = some (.lst (List.replicate i (.bl true))) ∧ Off (upd (upd H5 b1 (.tup [])) b2 (.tup [.non, .ref b1])) D) ⟨ExtN.of (same_upd nD), Tabs.ext (Tabs.ext T5 (u1.trans u2)) (same_upd nD), upd_same, off_new (ExtN.of (Same.refl _)) nD⟩
        (fun i H' _ hP' => .of (hP'.1 _ _ upd_same (fun _ z => by cases z))) (fun i x H' H'' hi hP' hY => ?_) (fun H' hP' => ?_)⟩
      · obtain ⟨ex, tx, hD, oD⟩ := hP'
        obtain ⟨rfl, hx⟩ := hY
        have hx2 : ∃ df : PyData, (∀ Hc, ExtN (upd (upd H5 b1 (.tup [])) b2 (.tup [.non, .ref b1])) Hc → Dv K Hc x df) ∧ df.bulk ≤ 10000 := by
          match i, hx with
          | 0, hx =>
            cases hx
            exact ⟨.none, fun _ _ => .non, by decide +kernel⟩
          | 1, hx =>
            cases hx
            exact ⟨.tuple [], fun Hc e => .tup (.of (e _ _ hb1 (fun _ z => by cases z))) .nil, by decide +kernel⟩
          | n + 2, hx => simp at hx
        obtain ⟨df, hdf, bdf⟩ := hx2
        refine ⟨rfl, fun m nm => ?_⟩
        have v2 := same_upd (o := dM w m []) nm
        refine ⟨by show 3 ≤ sizeLine; omega, fun c1 n1 => ⟨by show 1 ≤ sizeLine; omega, fun c2 n2 => ⟨by show 0 ≤ sizeLine; omega, fun c3 n3 => ?_⟩⟩⟩
        have v3 := same_upd (o := .tup [.ref m, .int 0, .str ""]) n1
        have v4 := same_upd (o := .tup [.ref c1]) n2
        have v5 := same_upd (o := .tup []) n3
        have s5 := v3.trans (v4.trans v5)
        have em := em_at (K := K) (w := w) (.of ((v4.trans v5) _ _ upd_same)) (s5 _ _ upd_same)
        refine ⟨_, rfl, ?_⟩
        try dsimp only [tC, tCons, tNil]
        refine mo_at (dw := .sts [emG]) (dl := .sts []) (df := df) ⟨c2, [.ref c1], rfl, .of (v5 _ _ upd_same), .cons em .nil, by show 1 ≤ 1000; decide⟩ (.inr ⟨by simp, c3, [], rfl, .of upd_same, .nil, by show 0 ≤ 1000; decide⟩)
          (hdf _ (xtr ex (ExtN.of (v2.trans s5)))) bdf (fun _ ss e => by cases e; show 0 ≤ 1000; decide) (Tabs.ext tx (v2.trans s5)) (p5 _) fun v H6 e6 t6 d6 => ?_
        have e56 := xtr (xtr ex (ExtN.of (v2.trans s5))) e6
        have hD6 := e6 _ _ ((v2.trans s5) _ _ hD) (fun _ z => by cases z)
        refine ⟨_, hD6, by rw [List.length_replicate]; have : i < 2 := hi; omega, off_put e56 oD, tabs_putL hD6 t6, ?_, oD⟩
        rw [upd_same, d6, List.replicate_succ']
        rfl
      · obtain ⟨ex, tx, hD, oD⟩ := hP'
        have hl6 := ex _ _ ((u1.trans u2) _ _ hl5) (fun _ z => by cases z)
        exact ⟨l, D, _, _, rfl, rfl, hl6, hD, by show 4 + 2 ≤ sizeLine; omega, fun l2 n2 => ⟨l2, rfl, by rw [upd_same]; rfl⟩⟩
    rintro σ6 H6 ⟨l2, rfl, hl2⟩
    refine ⟨_, rfl, by show 6 ≤ sizeLine; omega, fun l3 n3 => ?_⟩
    have u3 := same_upd (o := .lst [.bl false, .bl true, .bl false, .bl true, .bl true, .bl true]) n3
    have dp : ∀ {Hc : Hp} {z : Addr}, Hc z = some (.lst [.bl false, .bl true, .bl false, .bl true, .bl true, .bl true]) → Dp K Hc (.ref z) dueD := fun h => .lst (.of h) (.cons (.bl _) (.cons (.bl _) (.cons (.bl _) (.cons (.bl _) (.cons (.bl _) (.cons (.bl _) .nil))))))
    refine ⟨dueD, dueD, dp (u3 _ _ hl2), dp upd_same, by decide +kernel, by decide +kernel, ?_⟩
    rw [show PyData.eqv dueD dueD = true by decide +kernel]
    exact q _
end
end K0
end
/-! ### HK16 -/
section
set_option Elab.async false
set_option linter.all false
set_option maxRecDepth 100000
set_option maxHeartbeats 0
/-! What heads of laws over cleaners tell: rows of the class, side facts. -/
namespace K0
open PySem PySem.Spec PyProof.Rows L2 LamX OE
def dfrk (m q : Str) (j : Nat) (kw : List (Str × He.Dv)) : He.DefD := ⟨("Cleaner", some m), m, q, defArgs (crow j), defBody (crow j), defScope (crow j), [], kw⟩
def dfr (m q : Str) (j : Nat) : He.DefD := dfrk m q j []
def hM (K : PySem.W.Frag) (m : Str) : Addr := He.ma K (He.ga K "Cleaner") m
def gOf (K : PySem.W.Frag) (m : Str) (kind : String) : Addr := match PySem.W.recIn K (hM K m) kind with
  | some (.ref g :: _) => g
  | _ => 0
def ownB (K : PySem.W.Frag) (m : Str) : Bool := He.eqO (PySem.W.findIn K (.ref (He.ga K "Cleaner")) m) (some (some (.ref (hM K m)))) && PySem.W.isFn K (.ref (hM K m))
def propB (K : PySem.W.Frag) (m : Str) : Bool := He.eqO (PySem.W.findIn K (.ref (He.ga K "Cleaner")) m) (some (some (.ref (hM K m)))) && (He.eqO (PySem.W.specialIn K (.ref (hM K m)) "__get__") (some (some (.builtin "property.__get__"))) && (decide (PySem.W.takesIn K (.ref (hM K m)) = some true) &&
  (match PySem.W.recIn K (hM K m) "property" with
  | some (.ref _ :: _) => true
  | _ => false)))
def sideB (K : PySem.W.Frag) : Bool := He.eqO (PySem.W.findIn K (.ref (He.ga K "Cleaner")) "__class__") (some (some (.builtin "object.__class__"))) && (He.eqO (PySem.W.specialIn K (.builtin "object.__class__") "__get__") (some (some (.builtin "getset_descriptor.__get__"))) && (decide (PySem.W.takesIn K (.builtin "object.__class__") = some true) &&
  (decide (PySem.W.mroIn K (He.ga K "Cleaner") (.type "object") = some true) && (decide (PySem.W.kitOne K (.ref (He.ga K "Cleaner")) (.ref (He.ga K "Cleaner")) = some true) && He.eqO (PySem.W.findIn K (.ref (He.ga K "Cleaner")) "__ne__") (some (some (.builtin "object.__ne__")))))))
def fnWa (K : PySem.W.Frag) (a : Addr) : He.FnW := match K.lookup a with
  | some ⟨_, _, .func fd, _⟩ => some (fd.name, fd.qualname, fd.params, fd.body, fd.scope, fd.globals, fd.closure, fd.builtins)
  | _ => none
def okAt (K : PySem.W.Frag) (a : Addr) (d : He.DefD) : Bool := PySem.W.keepIn K (.ref a) && (match K.lookup a with
  | some ⟨_, _, .func fd, _⟩ => PySem.W.codeIn K fd.code d.qual && (He.dflB K fd.defaults (d.dvs K) && He.kwdB K fd.kwdefaults (d.kws K))
  | _ => false)
theorem funA {K : PySem.W.Frag} {a : Addr} {d : He.DefD} (e : fnWa K a = d.val) (c : okAt K a d = true) : ∃ fd, FunD K d.name d.qual d.params d.body d.scope (d.dvs K) (d.kws K) a fd := by
  obtain ⟨kp, c2⟩ := He.ba c
  unfold fnWa at e
  cases q : K.lookup a with
  | none =>
    rw [q] at c2
    cases c2
  | some o =>
    obtain ⟨oc, od, dt, osl⟩ := o
    rw [q] at c2 e
    cases dt with
    | func fd =>
      obtain ⟨n1, n2, n3, n4, n5, n6, n7, n8, n9, n10, n11, n12, n13, n14, n15⟩ := fd
      have e2 : (some (n1, n2, n3, n4, n5, n6, n7, n15) : He.FnW) = some (d.name, d.qual, d.params, .stmts d.body, d.scope, mainGlobals, [], builtinsNs) := e
      simp only [Option.some.injEq, Prod.mk.injEq] at e2
      obtain ⟨h1, h2, h3, h4, h5, h6, h7, h8⟩ := e2
      subst h1 h2 h3 h4 h5 h6 h7 h8
      have c3 : (PySem.W.codeIn K n13 d.qual && (He.dflB K n8 (d.dvs K) && He.kwdB K n9 (d.kws K))) = true := c2
      obtain ⟨k1, k2⟩ := He.ba c3
      obtain ⟨k3, k4⟩ := He.ba k2
      exact ⟨_, ⟨oc, od, n8, n9, n10, n11, n12, n13, n14, osl, rfl, q, k1, He.dflB_ok k3, He.kwdB_ok k4⟩, kp⟩
    | _ => cases c2
theorem side_of {K : PySem.W.Frag} (oSide : sideB K = true) (cl : L2.Cls K (He.ga K "Cleaner")) (kp : PySem.W.keepIn K (.ref (He.ga K "Cleaner")) = true) : ClM K (He.ga K "Cleaner") ∧ PySem.W.findIn K (.ref (He.ga K "Cleaner")) "__ne__" = some (some (.builtin "object.__ne__")) := by
  unfold sideB at oSide
  obtain ⟨sd1, oSide⟩ := He.ba oSide
  obtain ⟨sd2, oSide⟩ := He.ba oSide
  obtain ⟨sd3, oSide⟩ := He.ba oSide
  obtain ⟨sd4, oSide⟩ := He.ba oSide
  obtain ⟨sd5, sd6⟩ := He.ba oSide
  exact ⟨⟨He.eqO_ok sd1, He.eqO_ok sd2, of_decide_eq_true sd3, of_decide_eq_true sd4, of_decide_eq_true sd5, kp⟩, He.eqO_ok sd6⟩
theorem own_of {K : PySem.W.Frag} {m : Str} (h : ownB K m = true) : PySem.W.findIn K (.ref (He.ga K "Cleaner")) m = some (some (.ref (hM K m))) ∧ PySem.W.isFn K (.ref (hM K m)) = true := by
  unfold ownB at h
  obtain ⟨h1, h2⟩ := He.ba h
  exact ⟨He.eqO_ok h1, h2⟩
theorem prop_of {K : PySem.W.Frag} {m : Str} (oProp : propB K m = true) : PropOf K (He.ga K "Cleaner") m (hM K m) (gOf K m "property") := by
  unfold propB at oProp
  obtain ⟨pr1, oProp⟩ := He.ba oProp
  obtain ⟨pr2, oProp⟩ := He.ba oProp
  obtain ⟨pr3, pr4⟩ := He.ba oProp
  refine ⟨He.eqO_ok pr1, He.eqO_ok pr2, of_decide_eq_true pr3, ?_⟩
  unfold gOf
  cases e : PySem.W.recIn K (hM K m) "property" with
  | none => rw [e] at pr4; cases pr4
  | some vs =>
    rw [e] at pr4
    cases vs with
    | nil => cases pr4
    | cons v vs =>
      cases v with
      | ref g => exact ⟨vs, rfl⟩
      | _ => cases pr4
/-- the constructor's call with both keywords -/
theorem kb_of {K : PySem.W.Frag} {f : Addr} {fd : FuncData} (F : CiP K f fd) : KbC K fd := by
  obtain ⟨mv, h⟩ := FunD.kbinds0 (ps := ["self", "writer", "look", "firsts"]) F 2 ["look", "firsts"] [] (fun us _ ws => us ++ ws) (by simp) (fun _ h => nomatch h) (fun r _ z => r.append z) fun D doc pm an cdv ct us mv ws l1 l2 l3 =>
    match us, ws, l1, l3 with
    | [_, _], [_, _], _, _ => rfl
  exact h
theorem raw_nil {P : Program} {w : World} {K : PySem.W.Frag} {mg : Str → Option Value} {base : Heap} {CX : CXT} {k : Nat} {g : Addr} {sp : Sp} (h : FnR P w K mg base CX k g (fun vs H Q E => sp (vs ++ []) H Q E)) : FnR P w K mg base CX k g sp := by
  have e : (fun vs H Q E => sp (vs ++ []) H Q E) = sp := by
    funext vs H Q E
    rw [List.append_nil]
  rwa [e] at h
end K0
end
/-! ### END -/
section
set_option Elab.async false
set_option linter.all false
set_option maxRecDepth 100000
set_option maxHeartbeats 4000000
/-! The end of a law whose promise is kept where nothing is being shown, beside one table of code objects. -/
namespace K0
open PySem PySem.Spec PyProof.Rows L2 LamX
theorem isTab_other {h : Heap} {b P : Addr} {o : Obj} (t : h.get? P = some { cls := .none, data := .fields #[] }) (e : h.get? b = some o) (d : o.data ≠ .fields #[]) : b ≠ P := fun z => by
  rw [z, t] at e
  cases e
  exact d rfl
section
variable {P : Program} {w : World} {K : PySem.W.Frag} {mg : Str → Option Value} {CX : CXT} {k : Nat} {f : Addr} {fd : FuncData}
theorem lawGT {a c T : Addr} {mb : Str → Option Value} {x : Str} {sp : Sp} {s₁ : Shared} {vs : List Value} {ns : List Int} (KX : K.In s₁.heap) (hns : s₁.heap.Ns mainGlobals mg) (hmb : s₁.heap.Ns builtinsNs mb) (hbb : ∀ x : Str, x ≠ "__name__" → mb x = bootBuiltins x) (lim : s₁.heap.NoLimit) (gens : s₁.gens = #[])
    (tab : s₁.heap.get? T = some { cls := .none, data := .fields #[] }) (out : K.lookup T = none) (code : PySem.W.CodeHd s₁.heap c T)
    (blt : ∃ (bm : Addr) (ob : Obj), mg "__builtins__" = some (.ref bm) ∧ bm ≠ builtinsNs ∧ s₁.heap.get? bm = some ob ∧ ob.cls = .type "module" ∧ ob.dict = some builtinsNs ∧ ob.data = .plain)
    (obj : s₁.heap.get? a = some { cls := .type "list", data := .seq vs.toArray }) (its : IntsAre vs ns) (most : ns.length ≤ sizeLine) (room : Room k callerA) (F : ∀ base : Heap, K.In base → base.Ns mainGlobals mg → TabB base mg c T → FnG P w K mg base CX k f fd [x] sp)
    (bind : ∀ (s : Shared) (u : Value), BindsTo s fd ⟨[u], []⟩ [(x, u)]) (prom : ∀ H : Hp, H T = some (.tbl #[]) → SqL K H a (ns.map V.int) → sp [.ref a] H (fun v _ => v = .bl true) fun _ _ _ => False) (none_out : ∀ H e s', CX [] H s₁ (fun _ _ _ => False) e s' → False) :
    codeAny (model P w) callerA (.call (.ref f) ⟨[.ref a], []⟩) (fun r s' => r = .ok (.ret (.bool true)) ∧ OldK s₁.heap s'.heap ∧ s'.os = s₁.os ∧ AllBare s'.gens) s₁ := by
  have rel := vals_ints its
  have size := its.length
  have aT : a ≠ T := isTab_other tab obj fun z => by cases z
  have main : ∀ H : Hp, H T = some (.tbl #[]) → (∀ b, b ≠ T → H b = none ∨ (b = a ∧ K.lookup a = none ∧ ∃ o xs, H b = some (.frz o (.lst xs)))) → SqL K H a (ns.map V.int) → HOk P w H s₁.heap →
      codeAny (model P w) callerA (.call (.ref f) ⟨[.ref a], []⟩) (fun r s' => r = .ok (.ret (.bool true)) ∧ OldK s₁.heap s'.heap ∧ s'.os = s₁.os ∧ AllBare s'.gens) s₁ := by
    intro H hT only seq hok
    have free : ∀ {b : Addr} {o : Obj}, s₁.heap.get? b = some o → o.data ≠ .fields #[] → (∀ us n, o.data ≠ .seq us n) → H b = none := fun {b o} e d1 d2 => by
      rcases only b (isTab_other tab e d1) with z | ⟨rfl, _, _⟩
      · exact z
      · rw [obj] at e
        cases e
        exact (d2 _ _ rfl).elim
    have keepNs : ∀ {b : Addr} {m : Str → Option Value}, s₁.heap.Ns b m → (hidT s₁.heap H).Ns b m := fun {b m} ⟨o, es, ep, e, d, r⟩ =>
      ⟨o, es, ep, hidT_get e (free e (fun z => by rw [d] at z; cases z) fun us n z => by rw [d] at z; cases z), d, r⟩
    have kin : K.In (hidT s₁.heap H) := fun b o e => hidT_get (KX b o e) (by
      by_cases bT : b = T
      · rw [bT, out] at e
        cases e
      · rcases only b bT with z | ⟨rfl, z, _⟩
        · exact z
        · rw [z] at e
          cases e)
    have mod : Mod K mg (hidT s₁.heap H) := ⟨kin, keepNs hns, ⟨mb, keepNs hmb, hbb⟩, lim.elim fun mc z => ⟨mc, keepNs z.1, z.2⟩⟩
    have gT : mainGlobals ≠ T := hns.elim fun o z => z.elim fun es z => z.elim fun ep z => isTab_other tab z.1 fun y => by rw [z.2.1] at y; cases y
    have TB : TabB (hidT s₁.heap H) mg c T := by
      refine ⟨?_, ?_, gT⟩
      · obtain ⟨o, us, fl, tf, fg, tg, iF, tx, tt, e1, r1, r2, r3, rest⟩ := code
        exact ⟨o, us, fl, tf, fg, tg, iF, tx, tt, hidT_get e1 (free e1 (fun z => by rw [r2] at z; cases z; simp at r3) fun us n z => by rw [r2] at z; cases z), r1, r2, r3, rest⟩
      · obtain ⟨bm, ob, b1, b2, b3, b4, b5, b6⟩ := blt
        have nG : bm ≠ mainGlobals := fun z => hns.elim fun o y => y.elim fun es y => y.elim fun ep y => by
          have e := y.1
          rw [← z, b3] at e
          cases e
          rw [b6] at y
          cases y.2.1
        exact ⟨bm, ob, b1, b2, nG, isTab_other tab b3 (fun z => by rw [b6] at z; cases z), hidT_get b3 (free b3 (fun z => by rw [b6] at z; cases z) fun us n z => by rw [b6] at z; cases z), b4, b5, b6⟩
    have e0 : Env0 P w K mg (hidT s₁.heap H) callerA [] s₁ H := ⟨rfl, mod, fun b o e => of_hidT e, Nat.le_of_eq (hidT_size _ _), trivial, (fun b z => nomatch (show b ∈ ([] : List Addr) from z)), hok, .of_eq gens⟩
    refine codeAny_mono ((F _ kin (keepNs hns) TB).go callerA [] s₁ H ⟨[.ref a], []⟩ [.ref a] [.ref a] _ _ rfl room e0 (bind s₁ (.ref a)) (.cons rfl .nil) (prom H hT seq)) fun r s' z => ?_
    rcases r with e | fl
    · exact (none_out H e s' z).elim
    cases fl with
    | next => exact z.elim
    | brk => exact z.elim
    | cont => exact z.elim
    | ret u =>
      obtain ⟨v, H', os, bare, un, hok', rv, rfl⟩ := z
      obtain rfl : u = Value.bool true := rv
      obtain ⟨more, grown⟩ := un.tbls T #[] hT
      have tab' : s'.heap.get? T = some { cls := .none, data := .fields (#[] ++ more) } := hok' T _ grown
      have key : ∀ b o, b ≠ T → s₁.heap.get? b = some o → s'.heap.get? b = some o := fun b o n e => by
        rcases only b n with z | ⟨_, _, ob, xs, z⟩
        · exact un.keep b o e z (fun y => nomatch (show b ∈ ([] : List Addr) from y)) fun y => nomatch y
        · obtain ⟨e1, _⟩ := hok b _ z
          obtain ⟨e2, _⟩ := hok' b _ (un.frzs b ob _ z)
          rw [e] at e1
          cases e1
          exact e2
      refine ⟨rfl, ⟨fun b o e => ?_, fun b o e => ?_⟩, os, bare⟩
      · by_cases n : b = T
        · rw [n] at e ⊢
          rw [tab] at e
          cases e
          exact .inr (.inl ⟨(code.tab tab).isCodeTable, rfl, #[], more, rfl, tab'⟩)
        · exact .inl (key b o n e)
      · by_cases n : b = T
        · exact ⟨_, n ▸ tab'⟩
        · exact ⟨o, key b o n e⟩
  cases own : K.lookup a with
  | some o =>
    have e := KX a o own
    rw [obj] at e
    cases e
    refine main (fun b => if b = T then some (.tbl #[]) else none) (if_pos rfl) (fun b n => .inl (if_neg n)) (.inr ⟨_, vs.toArray, _, own, rfl, rfl, rfl, by rw [List.size_toArray, size]; exact most, by simpa using rel⟩) fun b u z => ?_
    by_cases n : b = T
    · have z2 := (if_pos n).symm.trans z
      cases z2
      exact n ▸ tab
    · have z2 := (if_neg n).symm.trans z
      cases z2
  | none =>
    have at_a : ∀ {b : Addr}, b = a → (if b = T then some (HO.tbl #[]) else if b = a then some (HO.frz { cls := .type "list", data := .seq vs.toArray } (.lst (ns.map V.int))) else none) = some (HO.frz { cls := .type "list", data := .seq vs.toArray } (.lst (ns.map V.int))) := fun {b} z =>
      (if_neg (show ¬ b = T by rw [z]; exact aT)).trans (if_pos z)
    refine main (fun b => if b = T then some (.tbl #[]) else if b = a then some (.frz { cls := .type "list", data := .seq vs.toArray } (.lst (ns.map V.int))) else none) (if_pos rfl) (fun b n => ?_) (.inl (.inr ⟨_, at_a rfl⟩)) fun b u z => ?_
    · by_cases m : b = a
      · exact .inr ⟨m, own, _, _, at_a m⟩
      · exact .inl ((if_neg n).trans (if_neg m))
    · by_cases n : b = T
      · have z2 := (if_pos n).symm.trans z
        cases z2
        exact n ▸ tab
      · by_cases m : b = a
        · have z2 := (at_a m).symm.trans z
          cases z2
          subst m
          exact ⟨obj, by rw [List.length_map]; exact most, vs, _, rel, obj⟩
        · have z2 := ((if_neg n).trans (if_neg m)).symm.trans z
          cases z2
end
/-- the end over a head by facts -/
theorem walkGT {l : PySem.W.OpenLaw} {n k : Nat} {q : Program} {loose : List Str} {XP : (Str → Option Value) → Heap → Prop} {YP : World → Heap → Prop} {d : DefRec} {x : Str}
    (hn : l.most = some n) (hn2 : n ≤ sizeLine) (hdf : d.params.defaults = []) (room : Room k callerA)
    (F : ∀ (w : World) (mg : Str → Option Value) (f : Addr) (h : Heap), YP w h → h.Ns mainGlobals mg → mg d.name = some (.ref f) → ∃ (K : PySem.W.Frag) (c T : Addr), K.In h ∧ h.get? T = some { cls := .none, data := .fields #[] } ∧ K.lookup T = none ∧ PySem.W.CodeHd h c T ∧
      ∃ fd : FuncData, (∀ (s : Shared) (u : Value), BindsTo s fd ⟨[u], []⟩ [(x, u)]) ∧ ∀ base : Heap, K.In base → base.Ns mainGlobals mg → TabB base mg c T → FnG l.prog w K mg base CX0 k f fd [x] (spLaw K T)) :
    PySem.W.WalkO q loose XP YP l.row.toRowW d [] (fun f vs => PySem.call f vs) := by
  refine Att.attach_call hn hdf fun w s₀ s₁ mg mb f o pm cd doc a vs ns G Y ho hd hcd hmg hobj its len gens => ?_
  obtain ⟨K, c, T, KX, tab, out, code, fd, b, G2⟩ := F w mg f _ Y G.T.g hmg
  exact lawGT KX G.T.g G.T.b G.T.builtins G.T.nolimit gens tab out code G.T.bmain hobj its (Nat.le_trans len hn2) room G2 b (fun H t seq => ⟨a, ns, rfl, seq, fun x hx => by
    rw [List.mem_singleton.mp hx]
    exact TabS.nil t, fun _ => rfl⟩) fun H e s' z => z
end K0
end
/-! ### KH -/
section
set_option Elab.async false
set_option linter.all false
set_option maxRecDepth 100000
set_option maxHeartbeats 0
/-! The head of k16: what the top leaves, told by a Hook of its own; the run of the top. -/
namespace K0
open PySem PySem.Spec PyProof.Rows L2 LamX OE
abbrev R : PySem.W.OpenRow := PySem.W.OpenLaw.row PySem.Challenge.rw_cleandress_k16_errors_of_cleaners
def fnT : List (Str × Nat) := ([("is_number", 2), ("is_sign", 10), ("is_text", 11), ("are_parts", 18), ("is_look", 19), ("is_look_state", 20), ("is_writer", 21), ("is_writer_state", 22), ("is_seen_sign", 23), ("is_move", 24), ("is_written", 25), ("are_firsts", 26)] : List (Str × Nat)) ++ ([("in_order", 27), ("origins_of", 29), ("_law_dice", 35), ("_law_roll", 36), ("_law_one_of", 37), ("_law_mixed", 38), ("_law_all_signs", 39), ("_law_signs", 40), ("_law_word", 41), ("_law_wild_cleaner", 42), ("_law_made_cleaner", 43), ("_law_is_text", 44)] : List (Str × Nat)) ++ ([("_law_is_number", 45), ("_law_is_sign", 46), ("_law_is_look", 47), ("_law_is_row", 48), ("_law_are_parts", 49), ("_law_odd", 50), ("_law_spoilt_move", 51), ("_law_spoilt_row", 52), ("_law_spoilt_look", 53), ("_law_made_of", 54), ("_law_spoilt_right", 55), ("_law_right", 56)] : List (Str × Nat)) ++ ([("law", 57)] : List (Str × Nat))
def fn : List He.DefD := (fnT.map fun z => dfn z.1 z.2) ++ [dfrk "__init__" "Cleaner.__init__" 0 [("look", He.Dv.non), ("firsts", He.Dv.non)], dfr "_keep" "Cleaner._keep" 1, dfr "__eq__" "Cleaner.__eq__" 10, dfr "__len__" "Cleaner.__len__" 11]
def fa : List He.Fa := [He.Fa.glo "is_number", He.Fa.glo "is_sign", He.Fa.glo "is_text", He.Fa.glo "are_parts", He.Fa.glo "is_look", He.Fa.glo "is_look_state", He.Fa.glo "is_writer", He.Fa.glo "is_writer_state", He.Fa.glo "is_seen_sign", He.Fa.glo "is_move", He.Fa.glo "is_written", He.Fa.glo "are_firsts", He.Fa.glo "in_order", He.Fa.glo "origins_of", He.Fa.glo "_law_dice", He.Fa.glo "_law_roll", He.Fa.glo "_law_one_of", He.Fa.glo "_law_mixed", He.Fa.glo "_law_all_signs", He.Fa.glo "_law_signs", He.Fa.glo "_law_word", He.Fa.glo "_law_wild_cleaner", He.Fa.glo "_law_made_cleaner", He.Fa.glo "_law_is_text", He.Fa.glo "_law_is_number", He.Fa.glo "_law_is_sign", He.Fa.glo "_law_is_look", He.Fa.glo "_law_is_row", He.Fa.glo "_law_are_parts", He.Fa.glo "_law_odd", He.Fa.glo "_law_spoilt_move", He.Fa.glo "_law_spoilt_row", He.Fa.glo "_law_spoilt_look", He.Fa.glo "_law_made_of", He.Fa.glo "_law_spoilt_right", He.Fa.glo "_law_right", He.Fa.glo "law", He.Fa.free "abs", He.Fa.free "int", He.Fa.free "max", He.Fa.free "min", He.Fa.free "len", He.Fa.free "range", He.Fa.free "isinstance", He.Fa.free "repr", He.Fa.free "str", He.Fa.free "bool", He.Fa.free "tuple", He.Fa.free "list", He.Fa.free "sorted", He.Fa.free "all", He.Fa.free "dict", He.Fa.free "enumerate", He.Fa.glo "Cleaner", He.Fa.cls "Cleaner", He.Fa.noat "Cleaner" "_writer", He.Fa.noat "Cleaner" "_look", He.Fa.noat "Cleaner" "_firsts", He.Fa.noat "Cleaner" "_origins", He.Fa.mkr "Cleaner", He.Fa.keep "Cleaner", He.Fa.meth "Cleaner" "_keep", He.Fa.glo "InvalidCleaner", He.Fa.exc "InvalidCleaner", He.Fa.exm "InvalidCleaner" "InvalidCleaner" true, He.Fa.str "SIGNS" allSigns, He.Fa.int "MAX_LOOK" 3, He.Fa.int "MAX_WRITER" 4, He.Fa.int "MAX_WRITTEN" 2]
def names : List Str := (["_wall", "is_number", "DressError", "InvalidText", "InvalidCleaner", "SIGNS", "MAX_PASSED", "is_sign", "is_text", "check_passed", "MAX_LOOK", "MAX_WRITER"] : List Str) ++ (["MAX_WRITTEN", "Cleaner", "are_parts", "is_look", "is_look_state", "is_writer", "is_writer_state", "is_seen_sign", "is_move", "is_written", "are_firsts", "in_order"] : List Str) ++ (["copied", "origins_of", "views_at", "written_at", "last_at", "result_of", "_law_dice", "_law_roll", "_law_one_of", "_law_mixed", "_law_all_signs", "_law_signs"] : List Str) ++ (["_law_word", "_law_wild_cleaner", "_law_made_cleaner", "_law_is_text", "_law_is_number", "_law_is_sign", "_law_is_look", "_law_is_row", "_law_are_parts", "_law_odd", "_law_spoilt_move", "_law_spoilt_row"] : List Str) ++ (["_law_spoilt_look", "_law_made_of", "_law_spoilt_right", "_law_right"] : List Str)
def okB (K : PySem.W.Frag) : Bool := (sysB K) && ((sideB K) && ((ownB K "__eq__") && ((ownB K "__len__") && ((propB K "firsts") && (okAt K (gOf K "firsts" "property") (dfr "firsts" "Cleaner.firsts" 4))))))
abbrev AlA : Type := He.AlD × (Bool × List He.FnW)
abbrev pTab : He.Defn := ("in_order", none)
def KofG (g : Addr → Option Obj) : PySem.W.Frag := He.frT g (sysModules :: cStatics :: He.asD g 6)
def tabB (g : Addr → Option Obj) (K : PySem.W.Frag) : Bool := PySem.W.codeHdIn K (He.cT K pTab).1 (He.cT K pTab).2 && (match g (He.cT K pTab).2 with
  | some o => He.emptyTab o
  | none => false)
def obsAG (g : Addr → Option Obj) : AlA := (He.obsD fa fn (KofG g), (okB (KofG g) && tabB g (KofG g), [fnWa (KofG g) (gOf (KofG g) "firsts" "property")]))
def valA : AlA := (He.valD fn, (true, [(dfr "firsts" "Cleaner.firsts" 4).val]))
structure SaysA (h : Heap) (K : PySem.W.Frag) : Prop where
  d : He.SaysD fa fn K
  ok : okB K = true
  ws : [fnWa K (gOf K "firsts" "property")] = [(dfr "firsts" "Cleaner.firsts" 4).val]
  hd : PySem.W.codeHdIn K (He.cT K pTab).1 (He.cT K pTab).2 = true
  out : K.lookup (He.cT K pTab).2 = none
  tab : h.get? (He.cT K pTab).2 = some { cls := .none, data := .fields #[] }
theorem says_of {h : Heap} (e : obsAG h.get? = valA) : SaysA h (KofG h.get?) := by
  have e1 : He.SaysD fa fn (KofG h.get?) := congrArg (fun z : AlA => z.1) e
  have e2 : (okB (KofG h.get?) && tabB h.get? (KofG h.get?)) = true := congrArg (fun z : AlA => z.2.1) e
  have e3 := congrArg (fun z : AlA => z.2.2) e
  obtain ⟨h1, e2⟩ := He.ba e2
  unfold tabB at e2
  obtain ⟨h2, h3⟩ := He.ba e2
  cases q : h.get? (He.cT (KofG h.get?) pTab).2 with
  | none => rw [q] at h3; cases h3
  | some o =>
    rw [q] at h3
    exact ⟨e1, h1, e3, h2, He.frT_none q h3, by rw [q, He.emptyTab_eq h3]⟩
def hookA : PySem.W.Hook where
  α := AlA
  obs := fun s => obsAG s.heap.get?
  val := fun _ => valA
  says := fun _ h => ∃ K : PySem.W.Frag, K.In h ∧ SaysA h K
  of := fun _ _ e => ⟨_, He.frT_in, says_of e⟩
  keeps := fun _ _ _ ⟨K, hK, c⟩ k => ⟨K, PySem.W.Frag.In.keeps hK k, ⟨c.d, c.ok, c.ws, c.hd, c.out, k _ _ c.tab⟩⟩
def obA (s : PySem.W.SharedT) : AlA := obsAG (HandSHeadRun.getT s)
theorem obA_eq (s : PySem.W.SharedT) : obA s = hookA.obs s.abs := by
  have e : HandSHeadRun.getT s = s.abs.heap.get? := funext (HandSHeadRun.getT_eq s)
  show obsAG _ = obsAG _
  rw [e]
theorem runA (w : World) : HandSHeadRun.RunEq R (PySem.W.view R.prog [57]) hookA obA 20000 names w := by
  intro os
  kernel_rfl
end K0
end
/-! ### KF -/
section
set_option Elab.async false
set_option linter.all false
set_option maxRecDepth 100000
set_option maxHeartbeats 0
/-! The facts unpacked; each def keeps its promise. -/
namespace K0
open PySem PySem.Spec PyProof.Rows L2 LamX OE
theorem facts {P : Program} {w : World} {K : PySem.W.Frag} {h : Heap} {mg : Str → Option Value} {f : Addr} (X : K.In h) (G : h.Ns mainGlobals mg) (hfa : mg ("law" : Str) = some (.ref f)) (c : SaysA h K) :
    ∃ (cc T : Addr), h.get? T = some { cls := .none, data := .fields #[] } ∧ K.lookup T = none ∧ PySem.W.CodeHd h cc T ∧
    ∃ fd : FuncData, (∀ (s : Shared) (v : Value), BindsTo s fd ⟨[v], []⟩ [("script", v)]) ∧ ∀ base : Heap, K.In base → base.Ns mainGlobals mg → TabB base mg cc T → FnG P w K mg base CX0 13 f fd ["script"] (spLaw K T) := by
  have d := c.d
  have ok := c.ok
  unfold okB at ok
  obtain ⟨sb, ok⟩ := He.ba ok
  obtain ⟨oSide, ok⟩ := He.ba ok
  obtain ⟨oOwn0, ok⟩ := He.ba ok
  obtain ⟨oOwn1, ok⟩ := He.ba ok
  obtain ⟨oMFirsts, ok⟩ := He.ba ok
  have oAFirsts := ok
  obtain ⟨fdIsNumber, FIsNumber⟩ := d.def_ 0 (d := dfn "is_number" 2) rfl
  have gIsNumber := He.glo_ok X G (d.fact 0 (f := .glo "is_number") rfl)
  have bIsNumber : Binds K fdIsNumber ["value", "low", "high"] [] := FIsNumber.bindsN fun _ _ _ _ _ _ us hl => match us, hl with | [_, _, _], _ => rfl
  obtain ⟨fdIsSign, FIsSign⟩ := d.def_ 1 (d := dfn "is_sign" 10) rfl
  have gIsSign := He.glo_ok X G (d.fact 1 (f := .glo "is_sign") rfl)
  have bIsSign : Binds K fdIsSign ["value"] [] := FIsSign.bindsN fun _ _ _ _ _ _ us hl => match us, hl with | [_], _ => rfl
  obtain ⟨fdIsText, FIsText⟩ := d.def_ 2 (d := dfn "is_text" 11) rfl
  have gIsText := He.glo_ok X G (d.fact 2 (f := .glo "is_text") rfl)
  have bIsText : Binds K fdIsText ["value"] [] := FIsText.bindsN fun _ _ _ _ _ _ us hl => match us, hl with | [_], _ => rfl
  obtain ⟨fdAreParts, FAreParts⟩ := d.def_ 3 (d := dfn "are_parts" 18) rfl
  have gAreParts := He.glo_ok X G (d.fact 3 (f := .glo "are_parts") rfl)
  have bAreParts : Binds K fdAreParts ["writer", "look", "firsts", "limits"] [] := FAreParts.bindsN fun _ _ _ _ _ _ us hl => match us, hl with | [_, _, _, _], _ => rfl
  obtain ⟨fdIsLook, FIsLook⟩ := d.def_ 4 (d := dfn "is_look" 19) rfl
  have gIsLook := He.glo_ok X G (d.fact 4 (f := .glo "is_look") rfl)
  have bIsLook : Binds K fdIsLook ["value", "limits"] [] := FIsLook.bindsN fun _ _ _ _ _ _ us hl => match us, hl with | [_, _], _ => rfl
  obtain ⟨fdIsLookState, FIsLookState⟩ := d.def_ 5 (d := dfn "is_look_state" 20) rfl
  have gIsLookState := He.glo_ok X G (d.fact 5 (f := .glo "is_look_state") rfl)
  have bIsLookState : Binds K fdIsLookState ["value", "many"] [] := FIsLookState.bindsN fun _ _ _ _ _ _ us hl => match us, hl with | [_, _], _ => rfl
  obtain ⟨fdIsWriter, FIsWriter⟩ := d.def_ 6 (d := dfn "is_writer" 21) rfl
  have gIsWriter := He.glo_ok X G (d.fact 6 (f := .glo "is_writer") rfl)
  have bIsWriter : Binds K fdIsWriter ["value", "views", "limits"] [] := FIsWriter.bindsN fun _ _ _ _ _ _ us hl => match us, hl with | [_, _, _], _ => rfl
  obtain ⟨fdIsWriterState, FIsWriterState⟩ := d.def_ 7 (d := dfn "is_writer_state" 22) rfl
  have gIsWriterState := He.glo_ok X G (d.fact 7 (f := .glo "is_writer_state") rfl)
  have bIsWriterState : Binds K fdIsWriterState ["value", "many", "views", "limits"] [] := FIsWriterState.bindsN fun _ _ _ _ _ _ us hl => match us, hl with | [_, _, _, _], _ => rfl
  obtain ⟨fdIsSeenSign, FIsSeenSign⟩ := d.def_ 8 (d := dfn "is_seen_sign" 23) rfl
  have gIsSeenSign := He.glo_ok X G (d.fact 8 (f := .glo "is_seen_sign") rfl)
  have bIsSeenSign : Binds K fdIsSeenSign ["value", "views"] [] := FIsSeenSign.bindsN fun _ _ _ _ _ _ us hl => match us, hl with | [_, _], _ => rfl
  obtain ⟨fdIsMove, FIsMove⟩ := d.def_ 9 (d := dfn "is_move" 24) rfl
  have gIsMove := He.glo_ok X G (d.fact 9 (f := .glo "is_move") rfl)
  have bIsMove : Binds K fdIsMove ["value", "many", "limits"] [] := FIsMove.bindsN fun _ _ _ _ _ _ us hl => match us, hl with | [_, _, _], _ => rfl
  obtain ⟨fdIsWritten, FIsWritten⟩ := d.def_ 10 (d := dfn "is_written" 25) rfl
  have gIsWritten := He.glo_ok X G (d.fact 10 (f := .glo "is_written") rfl)
  have bIsWritten : Binds K fdIsWritten ["value", "limits"] [] := FIsWritten.bindsN fun _ _ _ _ _ _ us hl => match us, hl with | [_, _], _ => rfl
  obtain ⟨fdAreFirsts, FAreFirsts⟩ := d.def_ 11 (d := dfn "are_firsts" 26) rfl
  have gAreFirsts := He.glo_ok X G (d.fact 11 (f := .glo "are_firsts") rfl)
  have bAreFirsts : Binds K fdAreFirsts ["value", "views", "many"] [] := FAreFirsts.bindsN fun _ _ _ _ _ _ us hl => match us, hl with | [_, _, _], _ => rfl
  obtain ⟨fdInOrder, FInOrder⟩ := d.def_ 12 (d := dfn "in_order" 27) rfl
  have gInOrder := He.glo_ok X G (d.fact 12 (f := .glo "in_order") rfl)
  have bInOrder : Binds K fdInOrder ["moves"] [] := FInOrder.bindsN fun _ _ _ _ _ _ us hl => match us, hl with | [_], _ => rfl
  obtain ⟨fdOriginsOf, FOriginsOf⟩ := d.def_ 13 (d := dfn "origins_of" 29) rfl
  have gOriginsOf := He.glo_ok X G (d.fact 13 (f := .glo "origins_of") rfl)
  have bOriginsOf : Binds K fdOriginsOf ["look"] [] := FOriginsOf.bindsN fun _ _ _ _ _ _ us hl => match us, hl with | [_], _ => rfl
  obtain ⟨fdLawDice, FLawDice⟩ := d.def_ 14 (d := dfn "_law_dice" 35) rfl
  have gLawDice := He.glo_ok X G (d.fact 14 (f := .glo "_law_dice") rfl)
  have bLawDice : Binds K fdLawDice ["script", "at"] [] := FLawDice.bindsN fun _ _ _ _ _ _ us hl => match us, hl with | [_, _], _ => rfl
  obtain ⟨fdLawRoll, FLawRoll⟩ := d.def_ 15 (d := dfn "_law_roll" 36) rfl
  have gLawRoll := He.glo_ok X G (d.fact 15 (f := .glo "_law_roll") rfl)
  have bLawRoll : Binds K fdLawRoll ["dice", "total"] [] := FLawRoll.bindsN fun _ _ _ _ _ _ us hl => match us, hl with | [_, _], _ => rfl
  obtain ⟨fdLawOneOf, FLawOneOf⟩ := d.def_ 16 (d := dfn "_law_one_of" 37) rfl
  have gLawOneOf := He.glo_ok X G (d.fact 16 (f := .glo "_law_one_of") rfl)
  have bLawOneOf : Binds K fdLawOneOf ["dice", "items"] [] := FLawOneOf.bindsN fun _ _ _ _ _ _ us hl => match us, hl with | [_, _], _ => rfl
  obtain ⟨fdLawMixed, FLawMixed⟩ := d.def_ 17 (d := dfn "_law_mixed" 38) rfl
  have gLawMixed := He.glo_ok X G (d.fact 17 (f := .glo "_law_mixed") rfl)
  have bLawMixed : Binds K fdLawMixed ["dice", "items"] [] := FLawMixed.bindsN fun _ _ _ _ _ _ us hl => match us, hl with | [_, _], _ => rfl
  obtain ⟨fdLawAllSigns, FLawAllSigns⟩ := d.def_ 18 (d := dfn "_law_all_signs" 39) rfl
  have gLawAllSigns := He.glo_ok X G (d.fact 18 (f := .glo "_law_all_signs") rfl)
  have bLawAllSigns : Binds K fdLawAllSigns [] [] := FLawAllSigns.bindsN fun _ _ _ _ _ _ us hl => match us, hl with | [], _ => rfl
  obtain ⟨fdLawSigns, FLawSigns⟩ := d.def_ 19 (d := dfn "_law_signs" 40) rfl
  have gLawSigns := He.glo_ok X G (d.fact 19 (f := .glo "_law_signs") rfl)
  have bLawSigns : Binds K fdLawSigns ["dice", "upto"] [] := FLawSigns.bindsN fun _ _ _ _ _ _ us hl => match us, hl with | [_, _], _ => rfl
  obtain ⟨fdLawWord, FLawWord⟩ := d.def_ 20 (d := dfn "_law_word" 41) rfl
  have gLawWord := He.glo_ok X G (d.fact 20 (f := .glo "_law_word") rfl)
  have bLawWord : Binds K fdLawWord ["dice", "signs", "upto"] [] := FLawWord.bindsN fun _ _ _ _ _ _ us hl => match us, hl with | [_, _, _], _ => rfl
  obtain ⟨fdLawWildCleaner, FLawWildCleaner⟩ := d.def_ 21 (d := dfn "_law_wild_cleaner" 42) rfl
  have gLawWildCleaner := He.glo_ok X G (d.fact 21 (f := .glo "_law_wild_cleaner") rfl)
  have bLawWildCleaner : Binds K fdLawWildCleaner ["dice", "signs"] [] := FLawWildCleaner.bindsN fun _ _ _ _ _ _ us hl => match us, hl with | [_, _], _ => rfl
  obtain ⟨fdLawMadeCleaner, FLawMadeCleaner⟩ := d.def_ 22 (d := dfn "_law_made_cleaner" 43) rfl
  have gLawMadeCleaner := He.glo_ok X G (d.fact 22 (f := .glo "_law_made_cleaner") rfl)
  have bLawMadeCleaner : Binds K fdLawMadeCleaner ["cleaner"] [] := FLawMadeCleaner.bindsN fun _ _ _ _ _ _ us hl => match us, hl with | [_], _ => rfl
  obtain ⟨fdLawIsText, FLawIsText⟩ := d.def_ 23 (d := dfn "_law_is_text" 44) rfl
  have gLawIsText := He.glo_ok X G (d.fact 23 (f := .glo "_law_is_text") rfl)
  have bLawIsText : Binds K fdLawIsText ["value"] [] := FLawIsText.bindsN fun _ _ _ _ _ _ us hl => match us, hl with | [_], _ => rfl
  obtain ⟨fdLawIsNumber, FLawIsNumber⟩ := d.def_ 24 (d := dfn "_law_is_number" 45) rfl
  have gLawIsNumber := He.glo_ok X G (d.fact 24 (f := .glo "_law_is_number") rfl)
  have bLawIsNumber : Binds K fdLawIsNumber ["value", "size"] [] := FLawIsNumber.bindsN fun _ _ _ _ _ _ us hl => match us, hl with | [_, _], _ => rfl
  obtain ⟨fdLawIsSign, FLawIsSign⟩ := d.def_ 25 (d := dfn "_law_is_sign" 46) rfl
  have gLawIsSign := He.glo_ok X G (d.fact 25 (f := .glo "_law_is_sign") rfl)
  have bLawIsSign : Binds K fdLawIsSign ["value"] [] := FLawIsSign.bindsN fun _ _ _ _ _ _ us hl => match us, hl with | [_], _ => rfl
  obtain ⟨fdLawIsLook, FLawIsLook⟩ := d.def_ 26 (d := dfn "_law_is_look" 47) rfl
  have gLawIsLook := He.glo_ok X G (d.fact 26 (f := .glo "_law_is_look") rfl)
  have bLawIsLook : Binds K fdLawIsLook ["value"] [] := FLawIsLook.bindsN fun _ _ _ _ _ _ us hl => match us, hl with | [_], _ => rfl
  obtain ⟨fdLawIsRow, FLawIsRow⟩ := d.def_ 27 (d := dfn "_law_is_row" 48) rfl
  have gLawIsRow := He.glo_ok X G (d.fact 27 (f := .glo "_law_is_row") rfl)
  have bLawIsRow : Binds K fdLawIsRow ["value", "size", "views"] [] := FLawIsRow.bindsN fun _ _ _ _ _ _ us hl => match us, hl with | [_, _, _], _ => rfl
  obtain ⟨fdLawAreParts, FLawAreParts⟩ := d.def_ 28 (d := dfn "_law_are_parts" 49) rfl
  have gLawAreParts := He.glo_ok X G (d.fact 28 (f := .glo "_law_are_parts") rfl)
  have bLawAreParts : Binds K fdLawAreParts ["rows", "back", "starts"] [] := FLawAreParts.bindsN fun _ _ _ _ _ _ us hl => match us, hl with | [_, _, _], _ => rfl
  obtain ⟨fdLawOdd, FLawOdd⟩ := d.def_ 29 (d := dfn "_law_odd" 50) rfl
  have gLawOdd := He.glo_ok X G (d.fact 29 (f := .glo "_law_odd") rfl)
  have bLawOdd : Binds K fdLawOdd ["dice"] [] := FLawOdd.bindsN fun _ _ _ _ _ _ us hl => match us, hl with | [_], _ => rfl
  obtain ⟨fdLawSpoiltMove, FLawSpoiltMove⟩ := d.def_ 30 (d := dfn "_law_spoilt_move" 51) rfl
  have gLawSpoiltMove := He.glo_ok X G (d.fact 30 (f := .glo "_law_spoilt_move") rfl)
  have bLawSpoiltMove : Binds K fdLawSpoiltMove ["dice", "size"] [] := FLawSpoiltMove.bindsN fun _ _ _ _ _ _ us hl => match us, hl with | [_, _], _ => rfl
  obtain ⟨fdLawSpoiltRow, FLawSpoiltRow⟩ := d.def_ 31 (d := dfn "_law_spoilt_row" 52) rfl
  have gLawSpoiltRow := He.glo_ok X G (d.fact 31 (f := .glo "_law_spoilt_row") rfl)
  have bLawSpoiltRow : Binds K fdLawSpoiltRow ["dice", "row", "size", "views"] [] := FLawSpoiltRow.bindsN fun _ _ _ _ _ _ us hl => match us, hl with | [_, _, _, _], _ => rfl
  obtain ⟨fdLawSpoiltLook, FLawSpoiltLook⟩ := d.def_ 32 (d := dfn "_law_spoilt_look" 53) rfl
  have gLawSpoiltLook := He.glo_ok X G (d.fact 32 (f := .glo "_law_spoilt_look") rfl)
  have bLawSpoiltLook : Binds K fdLawSpoiltLook ["dice", "back"] [] := FLawSpoiltLook.bindsN fun _ _ _ _ _ _ us hl => match us, hl with | [_, _], _ => rfl
  obtain ⟨fdLawMadeOf, FLawMadeOf⟩ := d.def_ 33 (d := dfn "_law_made_of" 54) rfl
  have gLawMadeOf := He.glo_ok X G (d.fact 33 (f := .glo "_law_made_of") rfl)
  have bLawMadeOf : Binds K fdLawMadeOf ["rows", "back", "starts"] [] := FLawMadeOf.bindsN fun _ _ _ _ _ _ us hl => match us, hl with | [_, _, _], _ => rfl
  obtain ⟨fdLawSpoiltRight, FLawSpoiltRight⟩ := d.def_ 34 (d := dfn "_law_spoilt_right" 55) rfl
  have gLawSpoiltRight := He.glo_ok X G (d.fact 34 (f := .glo "_law_spoilt_right") rfl)
  have bLawSpoiltRight : Binds K fdLawSpoiltRight ["dice", "cleaner"] [] := FLawSpoiltRight.bindsN fun _ _ _ _ _ _ us hl => match us, hl with | [_, _], _ => rfl
  obtain ⟨fdLawRight, FLawRight⟩ := d.def_ 35 (d := dfn "_law_right" 56) rfl
  have gLawRight := He.glo_ok X G (d.fact 35 (f := .glo "_law_right") rfl)
  have bLawRight : Binds K fdLawRight ["dice"] [] := FLawRight.bindsN fun _ _ _ _ _ _ us hl => match us, hl with | [_], _ => rfl
  obtain ⟨fdLaw, FLaw⟩ := d.def_ 36 (d := dfn "law" 57) rfl
  have gLaw := He.glo_ok X G (d.fact 36 (f := .glo "law") rfl)
  have bLaw : Binds K fdLaw ["script"] [] := FLaw.bindsN fun _ _ _ _ _ _ us hl => match us, hl with | [_], _ => rfl
  obtain ⟨fdHInit, FHInit⟩ := d.def_ 37 (d := dfrk "__init__" "Cleaner.__init__" 0 [("look", He.Dv.non), ("firsts", He.Dv.non)]) rfl
  obtain ⟨fdHKeep, FHKeep⟩ := d.def_ 38 (d := dfr "_keep" "Cleaner._keep" 1) rfl
  have bHKeep : Binds K fdHKeep ["self", "writer", "look", "firsts"] [] := FHKeep.bindsN fun _ _ _ _ _ _ us hl => match us, hl with | [_, _, _, _], _ => rfl
  obtain ⟨fdHEq, FHEq⟩ := d.def_ 39 (d := dfr "__eq__" "Cleaner.__eq__" 10) rfl
  have bHEq : Binds K fdHEq ["self", "other"] [] := FHEq.bindsN fun _ _ _ _ _ _ us hl => match us, hl with | [_, _], _ => rfl
  obtain ⟨fdHLen, FHLen⟩ := d.def_ 40 (d := dfr "__len__" "Cleaner.__len__" 11) rfl
  have bHLen : Binds K fdHLen ["self"] [] := FHLen.bindsN fun _ _ _ _ _ _ us hl => match us, hl with | [_], _ => rfl
  have eHFirsts : fnWa K (gOf K "firsts" "property") = (dfr "firsts" "Cleaner.firsts" 4).val := (List.cons.inj (c.ws)).1
  obtain ⟨fdHFirsts, FHFirsts⟩ := funA eHFirsts oAFirsts
  have bHFirsts : Binds K fdHFirsts ["self"] [] := FunD.bindsN FHFirsts fun _ _ _ _ _ _ us hl => match us, hl with | [_], _ => rfl
  have mabs := He.free_ok X G (d.fact 37 (f := .free "abs") rfl)
  have mint := He.free_ok X G (d.fact 38 (f := .free "int") rfl)
  have mmax := He.free_ok X G (d.fact 39 (f := .free "max") rfl)
  have mmin := He.free_ok X G (d.fact 40 (f := .free "min") rfl)
  have mlen := He.free_ok X G (d.fact 41 (f := .free "len") rfl)
  have mrange := He.free_ok X G (d.fact 42 (f := .free "range") rfl)
  have misinstance := He.free_ok X G (d.fact 43 (f := .free "isinstance") rfl)
  have mrepr := He.free_ok X G (d.fact 44 (f := .free "repr") rfl)
  have mstr := He.free_ok X G (d.fact 45 (f := .free "str") rfl)
  have mbool := He.free_ok X G (d.fact 46 (f := .free "bool") rfl)
  have mtuple := He.free_ok X G (d.fact 47 (f := .free "tuple") rfl)
  have mlist := He.free_ok X G (d.fact 48 (f := .free "list") rfl)
  have msorted := He.free_ok X G (d.fact 49 (f := .free "sorted") rfl)
  have mall := He.free_ok X G (d.fact 50 (f := .free "all") rfl)
  have mdict := He.free_ok X G (d.fact 51 (f := .free "dict") rfl)
  have menumerate := He.free_ok X G (d.fact 52 (f := .free "enumerate") rfl)
  have gCleaner : mg "Cleaner" = some (.ref (He.ga K "Cleaner")) := He.glo_ok X G (d.fact 53 (f := .glo "Cleaner") rfl)
  have cl := He.cls_ok (d.fact 54 (f := .cls "Cleaner") rfl)
  have noWriter := He.noat_ok (d.fact 55 (f := .noat "Cleaner" "_writer") rfl)
  have noLook := He.noat_ok (d.fact 56 (f := .noat "Cleaner" "_look") rfl)
  have noFirsts := He.noat_ok (d.fact 57 (f := .noat "Cleaner" "_firsts") rfl)
  have noOrigins := He.noat_ok (d.fact 58 (f := .noat "Cleaner" "_origins") rfl)
  have mk := He.mkr_ok (d.fact 59 (f := .mkr "Cleaner") rfl)
  have kH := He.keep_ok (d.fact 60 (f := .keep "Cleaner") rfl)
  have meKeep := He.meth_ok (d.fact 61 (f := .meth "Cleaner" "_keep") rfl)
  have gInvalidCleaner : mg "InvalidCleaner" = some (.ref (He.ga K "InvalidCleaner")) := He.glo_ok X G (d.fact 62 (f := .glo "InvalidCleaner") rfl)
  obtain ⟨x1InvalidCleaner, x2InvalidCleaner, x3InvalidCleaner, x4InvalidCleaner⟩ := He.exc_ok (d.fact 63 (f := .exc "InvalidCleaner") rfl)
  have xmInvalidCleaner := He.exm_ok (d.fact 64 (f := .exm "InvalidCleaner" "InvalidCleaner" true) rfl)
  have ms := He.str_ok X G (d.fact 65 (f := .str "SIGNS" allSigns) rfl)
  have mML := He.int_ok X G (d.fact 66 (f := .int "MAX_LOOK" 3) rfl)
  have mMW := He.int_ok X G (d.fact 67 (f := .int "MAX_WRITER" 4) rfl)
  have mMT := He.int_ok X G (d.fact 68 (f := .int "MAX_WRITTEN" 2) rfl)

  have CK : ClK K (He.ga K "Cleaner") := ⟨cl, noWriter, noLook, noFirsts, noOrigins⟩
  obtain ⟨CM, hNe⟩ := side_of oSide cl kH
  have TE : ExcK K (He.ga K "InvalidCleaner") := ⟨x1InvalidCleaner, x2InvalidCleaner, x3InvalidCleaner, x4InvalidCleaner⟩
  obtain ⟨hEq, fEq⟩ := own_of oOwn0
  obtain ⟨hLen, fLen⟩ := own_of oOwn1
  have OQ : OEq K (He.ga K "Cleaner") (hM K "__eq__") := ⟨hEq, fEq, hNe, CM.ob⟩
  have HPFirsts := prop_of oMFirsts
  have e := hfa.symm.trans gLaw
  cases e
  have b := FunD.bindsA (ps := ["script"]) FLaw fun _ _ _ _ _ _ us hl => match us, hl with | [_], _ => rfl
  have hc : fdInOrder.code = .ref (He.cT K pTab).1 := by
    obtain ⟨oc, od, dV, kV, doc, pm, an, cdv, ct, osl, rfl, lk, hcd, _, _⟩ := FInOrder.ex
    obtain ⟨cc, rfl⟩ := He.codeIn_ref hcd
    exact congrArg Value.ref (He.codeOf_eq (p := pTab) lk rfl).symm
  refine ⟨(He.cT K pTab).1, (He.cT K pTab).2, c.tab, c.out, PySem.W.codeHd_of_K X c.hd, fdLaw, fun s v => b s [v] rfl, fun base _ _ TB => ?_⟩

  have roll : ∀ k, FnOk P w K mg base CX0 (k + 1) _ fdLawRoll ["dice", "total"] spRoll := fun k => ok_roll FLawRoll mint
  have one : ∀ k, FnOk P w K mg base CX0 (k + 2) _ fdLawOneOf ["dice", "items"] (spOne K) := fun k => ok_one FLawOneOf (roll k) gLawRoll FLawRoll.kp bLawRoll mlen
  have mixed : ∀ k, FnOk P w K mg base CX0 (k + 2) _ fdLawMixed ["dice", "items"] (spMixed K) := fun k => ok_mixed FLawMixed mlist mlen mrange (roll k) gLawRoll FLawRoll.kp bLawRoll
  have all' : ∀ k, FnOk P w K mg base CX0 (k + 1) _ fdLawAllSigns [] spAll := fun k => ok_all FLawAllSigns
  have lsigns : ∀ k, FnOk P w K mg base CX0 (k + 3) _ fdLawSigns ["dice", "upto"] spSigns := fun k => ok_lsigns FLawSigns mlist mtuple msorted (roll (k + 1)) gLawRoll FLawRoll.kp bLawRoll (all' (k + 1)) gLawAllSigns FLawAllSigns.kp bLawAllSigns (mixed k) gLawMixed FLawMixed.kp bLawMixed
  have lword : ∀ k, FnOk P w K mg base CX0 (k + 3) _ fdLawWord ["dice", "signs", "upto"] (spLWord K) := fun k => ok_lword FLawWord (one k) gLawOneOf FLawOneOf.kp bLawOneOf mmin mrange
  have wild : ∀ k, FnOk P w K mg base CX0 (k + 4) _ fdLawWildCleaner ["dice", "signs"] (spWild K w) := fun k => J.ok_wild FLawWildCleaner mlist mrange mdict (J.roll (roll (k + 2))) gLawRoll FLawRoll.kp bLawRoll (J.one (one (k + 1))) gLawOneOf FLawOneOf.kp bLawOneOf (J.mixed (mixed (k + 1))) gLawMixed FLawMixed.kp bLawMixed (J.lword (lword k)) gLawWord FLawWord.kp bLawWord
  have num : ∀ k, FnOk P w K mg base CX0 (k + 1) _ fdIsNumber ["value", "low", "high"] (spNum K) := fun k => ok_num FIsNumber misinstance mint mbool
  have sign : ∀ k, FnOk P w K mg base CX0 (k + 1) _ fdIsSign ["value"] (spD K isSignD) := fun k => ok_sign FIsSign misinstance mstr mlen ms
  have text : ∀ k, FnOk P w K mg base CX0 (k + 1) _ fdIsText ["value"] (spD K isTextD) := fun k => ok_text FIsText misinstance mstr ms
  have written : ∀ k, FnOk P w K mg base CX0 (k + 2) _ fdIsWritten ["value", "limits"] (spWritten K) := fun k => ok_written FIsWritten mlen (text k) gIsText FIsText.kp bIsText
  have seen : ∀ k, FnOk P w K mg base CX0 (k + 2) _ fdIsSeenSign ["value", "views"] (spSeen K) := fun k => ok_seen FIsSeenSign misinstance mtuple mlen (sign k) gIsSign FIsSign.kp bIsSign (num k) gIsNumber FIsNumber.kp bIsNumber
  have move : ∀ k, FnOk P w K mg base CX0 (k + 3) _ fdIsMove ["value", "many", "limits"] (spMove K) := fun k => ok_move FIsMove misinstance mtuple mlen (written k) gIsWritten FIsWritten.kp bIsWritten (num (k + 1)) gIsNumber FIsNumber.kp bIsNumber
  have lookSt : ∀ k, FnOk P w K mg base CX0 (k + 2) _ fdIsLookState ["value", "many"] (spLSt K w) := fun k => ok_lookSt FIsLookState misinstance mtuple mlen mdict mall (sign k) gIsSign FIsSign.kp bIsSign (num k) gIsNumber FIsNumber.kp bIsNumber
  have writerSt : ∀ k, FnOk P w K mg base CX0 (k + 4) _ fdIsWriterState ["value", "many", "views", "limits"] (spWSt K w) := fun k => ok_writerSt FIsWriterState misinstance mtuple mlen mdict mall (written (k + 1)) gIsWritten FIsWritten.kp bIsWritten (seen (k + 1)) gIsSeenSign FIsSeenSign.kp bIsSeenSign (move k) gIsMove FIsMove.kp bIsMove (num (k + 2)) gIsNumber FIsNumber.kp bIsNumber
  have isLook : ∀ k, FnOk P w K mg base CX0 (k + 3) _ fdIsLook ["value", "limits"] (spLook K w) := fun k => ok_isLook FIsLook misinstance mtuple mlen mall (lookSt k) gIsLookState FIsLookState.kp bIsLookState
  have isWriter : ∀ k, FnOk P w K mg base CX0 (k + 5) _ fdIsWriter ["value", "views", "limits"] (spWriter K w) := fun k => ok_isWriter (k := k + 2) FIsWriter misinstance mtuple mlen mall (writerSt k) gIsWriterState FIsWriterState.kp bIsWriterState
  have firsts' : ∀ k, FnOk P w K mg base CX0 (k + 2) _ fdAreFirsts ["value", "views", "many"] (spFirsts K) := fun k => ok_firsts FAreFirsts misinstance mtuple mlen mall (num k) gIsNumber FIsNumber.kp bIsNumber
  have parts : ∀ k, FnOk P w K mg base CX0 (k + 7) _ fdAreParts ["writer", "look", "firsts", "limits"] (spParts K w) := fun k => ok_areParts FAreParts mlen (isLook (k + 3)) gIsLook FIsLook.kp bIsLook (isWriter (k + 1)) gIsWriter FIsWriter.kp bIsWriter (firsts' (k + 4)) gAreFirsts FAreFirsts.kp bAreFirsts
  have inOrder : ∀ k, FnG P w K mg base CX0 (k + 5) _ fdInOrder ["moves"] (spInOrder K w (He.cT K pTab).2) := fun k => ok_inOrder FInOrder msorted mrepr sb hc TB
  have origins : ∀ k, FnOk P w K mg base CX0 (k + 1) _ fdOriginsOf ["look"] (spOrigins K w) := fun k => ok_origins FOriginsOf menumerate ms
  have keep : ∀ k, FnG P w K mg base CX0 (k + 6) (hM K "_keep") fdHKeep ["self", "writer", "look", "firsts"] (spKeep K w (He.ga K "Cleaner") (He.cT K pTab).2) := fun k => ok_keep FHKeep CK mtuple (inOrder k) gInOrder FInOrder.kp bInOrder (origins (k + 4)) gOriginsOf FOriginsOf.kp bOriginsOf
  have init : ∀ k, FnG P w K mg base (L2.CX P w) (k + 8) (hM K "__init__") fdHInit ["self", "writer", "look", "firsts"] (spCInit K w (He.ga K "Cleaner") (He.ga K "InvalidCleaner") (He.cT K pTab).2) := fun k => ok_cinit FHInit CK TE gInvalidCleaner misinstance mtuple mlen mML mMW mMT (parts k) gAreParts FAreParts.kp bAreParts (keep (k + 1)) meKeep bHKeep
  have kb := kb_of FHInit
  have madeC : ∀ k, FnG P w K mg base CX0 (k + 10) _ fdLawMadeCleaner ["cleaner"] (spMadeC K w (He.ga K "Cleaner") (He.cT K pTab).2) := fun k => ok_madeC FLawMadeCleaner mtuple gCleaner mk (init k) kb
  have madeOf : ∀ k, FnG P w K mg base CX0 (k + 10) _ fdLawMadeOf ["rows", "back", "starts"] (spMadeOf K w (He.ga K "Cleaner") (He.cT K pTab).2) := fun k => ok_madeOf FLawMadeOf gCleaner gInvalidCleaner xmInvalidCleaner mk (init k) kb
  have ltext : ∀ k, FnOk P w K mg base CX0 (k + 2) _ fdLawIsText ["value"] (spD K isTextD) := fun k => ok_ltext FLawIsText misinstance mstr (all' k) gLawAllSigns FLawAllSigns.kp bLawAllSigns
  have lnum : ∀ k, FnOk P w K mg base CX0 (k + 1) _ fdLawIsNumber ["value", "size"] (spLNum K) := fun k => ok_lnum FLawIsNumber misinstance mint mbool
  have lsign : ∀ k, FnOk P w K mg base CX0 (k + 3) _ fdLawIsSign ["value"] (spD K isSignD) := fun k => ok_lsign FLawIsSign mlen (ltext k) gLawIsText FLawIsText.kp bLawIsText
  have llook : ∀ k, FnOk P w K mg base CX0 (k + 4) _ fdLawIsLook ["value"] (spLLook K w) := fun k => ok_llook (k := k + 2) FLawIsLook misinstance mtuple mlen mdict (lsign k) gLawIsSign FLawIsSign.kp bLawIsSign (lnum (k + 2)) gLawIsNumber FLawIsNumber.kp bLawIsNumber
  have lrow : ∀ k, FnOk P w K mg base CX0 (k + 4) _ fdLawIsRow ["value", "size", "views"] (spLRow K w) := fun k => ok_lrow (k := k + 2) FLawIsRow misinstance mtuple mlen mdict (lsign k) gLawIsSign FLawIsSign.kp bLawIsSign (ltext (k + 1)) gLawIsText FLawIsText.kp bLawIsText (lnum (k + 2)) gLawIsNumber FLawIsNumber.kp bLawIsNumber
  have lparts : ∀ k, FnOk P w K mg base CX0 (k + 5) _ fdLawAreParts ["rows", "back", "starts"] (spLParts K w) := fun k => ok_lparts (k := k + 3) FLawAreParts misinstance mtuple mlen (llook k) gLawIsLook FLawIsLook.kp bLawIsLook (lrow k) gLawIsRow FLawIsRow.kp bLawIsRow (lnum (k + 3)) gLawIsNumber FLawIsNumber.kp bLawIsNumber
  have odd : ∀ k, FnOk P w K mg base CX0 (k + 3) _ fdLawOdd ["dice"] (spOdd K) := fun k => J.ok_odd FLawOdd (J.one (one k)) gLawOneOf FLawOneOf.kp bLawOneOf
  have smove : ∀ k, FnOk P w K mg base CX0 (k + 4) _ fdLawSpoiltMove ["dice", "size"] (spSMove K) := fun k => J.ok_smove FLawSpoiltMove (J.one (one (k + 1))) gLawOneOf FLawOneOf.kp bLawOneOf (odd k) gLawOdd FLawOdd.kp bLawOdd
  have srow : ∀ k, FnOk P w K mg base CX0 (k + 5) _ fdLawSpoiltRow ["dice", "row", "size", "views"] (spSRow K w) := fun k => J.ok_srow FLawSpoiltRow mlist mtuple mdict (J.roll (roll (k + 3))) gLawRoll FLawRoll.kp bLawRoll (J.one (one (k + 2))) gLawOneOf FLawOneOf.kp bLawOneOf (J.smove (smove k)) gLawSpoiltMove FLawSpoiltMove.kp bLawSpoiltMove
  have slook : ∀ k, FnOk P w K mg base CX0 (k + 5) _ fdLawSpoiltLook ["dice", "back"] (spSLook K w) := fun k => J.ok_slook FLawSpoiltLook mlist mdict mlen (J.roll (roll (k + 3))) gLawRoll FLawRoll.kp bLawRoll (J.one (one (k + 2))) gLawOneOf FLawOneOf.kp bLawOneOf
  have lenR : ∀ k, FnR P w K mg base CX0 (k + 1) (hM K "__len__") (spCLen K w (He.ga K "Cleaner")) := fun k => raw_nil ((ok_clen (k := k) FHLen CK mlen).raw bHLen .nil)
  have eqR : ∀ k, FnR P w K mg base CX0 (k + 1) (hM K "__eq__") (spCEq K w (He.ga K "Cleaner")) := fun k => raw_nil ((ok_ceq (k := k) FHEq CK CM misinstance gCleaner).raw bHEq .nil)
  have sright : FnG P w K mg base CX0 11 _ fdLawSpoiltRight ["dice", "cleaner"] (spSRight K w (He.cT K pTab).2) := J.ok_sright (k := 0) FLawSpoiltRight mlist mtuple mlen CK (J.roll (roll 9)) gLawRoll FLawRoll.kp bLawRoll (J.one (one 8)) gLawOneOf FLawOneOf.kp bLawOneOf (srow 5) gLawSpoiltRow FLawSpoiltRow.kp bLawSpoiltRow (slook 5) gLawSpoiltLook FLawSpoiltLook.kp bLawSpoiltLook
    (madeOf 0) gLawMadeOf FLawMadeOf.kp bLawMadeOf (lparts 5) gLawAreParts FLawAreParts.kp bLawAreParts hLen fLen (lenR 7) HPFirsts (ok_cfirsts (k := 8) FHFirsts CK) bHFirsts
  have right : FnG P w K mg base CX0 12 _ fdLawRight ["dice"] (spRight (He.cT K pTab).2) := ok_right (k := 0) FLawRight mrange CK CM OQ (lsigns 8) gLawSigns FLawSigns.kp bLawSigns (wild 7) gLawWildCleaner FLawWildCleaner.kp bLawWildCleaner (madeC 1) gLawMadeCleaner FLawMadeCleaner.kp bLawMadeCleaner sright gLawSpoiltRight FLawSpoiltRight.kp bLawSpoiltRight (eqR 10)
  exact ok_law (n := 12) FLaw mrange mmax mmin mlen (ok_dice (k := 11) FLawDice mlen mint mabs mmax) gLawDice FLawDice.kp bLawDice right gLawRight FLawRight.kp bLawRight (madeOf 2) gLawMadeOf FLawMadeOf.kp bLawMadeOf
end K0
end
/-! ### KE -/
set_option Elab.async false
set_option linter.all false
set_option maxRecDepth 100000
set_option maxHeartbeats 0
open PySem PySem.W PySem.Calls PyProof.Rows
theorem PySem.Challenge.cw_cleandress_k16_errors_of_cleaners_holds : PySem.Challenge.rw_cleandress_k16_errors_of_cleaners.Holds := by
  w_on; o_law
  refine HandSHeadRun.head_any (r := K0.R) (q := view K0.R.prog [57]) (H := K0.hookA) (ob := K0.obA) (M := 20000) (loose := K0.names) (d := HandSHeadRun.topDef K0.R.prog 57) (kwd := []) K0.obA_eq
    (by kernel_rfl) (fun s => by kernel_rfl) K0.runA (by kernel_rfl) (by kernel_rfl) (by kernel_rfl) (by rfl) (by first | assumption | decide +kernel) (by decide +kernel) ⟨rfl, rfl, rfl, rfl, rfl, by decide +kernel⟩ ?hw ?hc
  case hw => w_witness2
  case hc =>
    refine K0.walkGT (l := PySem.Challenge.rw_cleandress_k16_errors_of_cleaners) (n := 63) (k := 13) (x := "script") rfl (by decide) (by kernel_rfl) ⟨rfl, by decide, by decide⟩ ?F
    intro w mg f h Y G hmg0
    obtain ⟨K, KX, c⟩ := Y
    have hmg : mg ("law" : PySem.Str) = some (.ref f) := by
      have e : (HandSHeadRun.topDef K0.R.prog 57).name = ("law" : PySem.Str) := by kernel_rfl
      rw [← e]
      exact hmg0
    obtain ⟨cc, T, t1, t2, t3, rest⟩ := K0.facts KX G hmg c
    exact ⟨K, cc, T, KX, t1, t2, t3, rest⟩
