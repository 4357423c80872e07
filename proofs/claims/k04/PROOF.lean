import PyProof.Rows.All
import Wide.All
import OpenK.AllK
import Wide.FinOn
import KE.KStateDown
import Lean
import HandS.ForMost
import HandS.Exc
import HandS.ExcInit
import HandS.WordsExc
import HandS.Defaults
import HandS.Head0
import HandS.Head1
import HandS.Head2
import HandS.HeadEnd
import HandS.HeadHook1
import HandS.HeadHook2
import HandS.Wide
import HandS.Codes
import HandS.IsInst
import HandS.StrMore
import HandS.Steps
import Wide.Txt
import PyProof.ListStr
import HandS.TupSets
import HandS.Walk
import PyProof.TupleKey
import PyProof.DictRoadsH
import PyProof.DictMoreH
import HandS.Dict
import HandS.Deep
import HandS.Zip
import HandS.TupAny
import HandS.Star
import HandS.Small
import HandS.ClsMeth
import HandS.More
import HandS.SlotsOwn
import PyProof.InstEq
import HandS.Iter
import HandS.Set
import HandS.SetTxt0
import HandS.SetFor
import PyProof.Rows.SortShellAny
import HandS.List
import HandS.Call
import KE.KExcIs
import KE.KTryMore
import HandS.HotCalls
import HandS.ExcValue
import HandS.TryMany
import HandS.Comp
import PyProof.SeqIndex
import KE.SortKeyHeap
import KE.KLam
import HandS.Lambda
import KE.GoesZip
import KE.KDictZip
import PyProof.ListNew
import PyProof.StrLoop
import HandS.DictTup
import HandS.Style
import PyProof.TupleOfStr
import KE.KRevSl
import PyProof.CollectStr
import HandS.Conv
import HandS.Property
import PyProof.ExcBaseAll.ValueError
import HandS.EndTab
import HandS.HeadHook4
import PySem.Challenge.RW_cleandress_k04_whole_counts_of_fillings
/-! ### H0 -/
section
set_option Elab.async false
set_option linter.all false
set_option maxRecDepth 100000
set_option maxHeartbeats 0
namespace K0
open PySem PySem.Spec PyProof.Rows L2
def top (i : Nat) : Stmt := PySem.Challenge.pw_cleandress_k04_whole_counts_of_fillings.main.body.getD i (.Pass ⟨0, 0, 0, 0⟩)
abbrev dfn (x : Str) (i : Nat) : He.DefD := ⟨(x, none), x, x, defArgs (top i), defBody (top i), defScope (top i), [], []⟩
abbrev iNum : Nat := 2
abbrev iSign : Nat := 11
abbrev iIsText : Nat := 12
abbrev iAreSigns : Nat := 13
abbrev iReader : Nat := 15
abbrev iAhead : Nat := 16
abbrev iBehind : Nat := 17
abbrev iCount : Nat := 18
abbrev iCountOf : Nat := 22
abbrev iCounts : Nat := 23
abbrev iHoleC : Nat := 31
abbrev iIsRun : Nat := 32
abbrev iWithout : Nat := 33
abbrev iDice : Nat := 35
abbrev iRoll : Nat := 36
abbrev iOne : Nat := 37
abbrev iMixed : Nat := 38
abbrev iAll : Nat := 39
abbrev iSigns : Nat := 40
abbrev iTexts : Nat := 41
abbrev iLRun : Nat := 42
abbrev iLHole : Nat := 43
abbrev iLMade : Nat := 44
abbrev iLFill : Nat := 45
abbrev iLTold : Nat := 46
abbrev iLLess : Nat := 47
abbrev iLOther : Nat := 48
abbrev iLPower : Nat := 49
abbrev iLOfRun : Nat := 50
abbrev iRight : Nat := 51
abbrev iLaw : Nat := 52
end K0
end
/-! ### G0 -/
section
set_option Elab.async false
set_option linter.all false
set_option maxRecDepth 100000
set_option maxHeartbeats 4000000
/-! Defs whose promise is kept where nothing is being shown (no repr runs around them): FnG, its rule, its calls, the law's entry. -/
namespace K0
open PySem PySem.Spec PyProof.Rows L2
structure FnG (P : Program) (w : World) (K : PySem.W.Frag) (mg : Str → Option Value) (base : Heap) (CX : CXT) (k : Nat) (f : Addr) (fd : FuncData) (ps : List Str) (sp : Sp) : Prop where
  many : ∀ vs H Q E, sp vs H Q E → vs.length = ps.length
  go : ∀ (A : Around) (outer : List Env) (s : Shared) (H : Hp) (args : Args) (us : List Value) (vs : List V) (Q : VK) (E : XK), A.guards = some [] → Room k A → Env0 P w K mg base A outer s H → BindsTo s fd args (ps.zip us) → Vals vs us → sp vs H Q E → codeAny (model P w) A (.call (.ref f) args) (CR CX outer P w H s Q E) s
section
variable {P : Program} {w : World} {K : PySem.W.Frag} {mg : Str → Option Value} {base : Heap} {CX : CXT} {k : Nat} {f : Addr} {fd : FuncData}
theorem fnG_ofC {x qual : Str} {params : Arguments} {body : List Stmt} {scope : Scope} {dvs : List V} {kws : List (Str × V)} {N ps : List Str} {sp : Sp} (F : FunD K x qual params body scope dvs kws f fd) (S : FnScope N ps scope) (many : ∀ vs H Q E, sp vs H Q E → vs.length = ps.length)
    (hb : ∀ (cdv : Value), fd.code = cdv → ∀ (A : Around) (outer : List Env) (s : Shared) (H : Hp) (vs : List V) (Q : VK) (E : XK), (A.deeper (envOfC qual scope s.heap.objs.size f cdv)).guards = some [] → Room k (A.deeper (envOfC qual scope s.heap.objs.size f cdv)) → sp vs H Q E →
      ∃ t, PSs (cxOf CX P w K mg base N qual scope f cdv A outer s H E) body t ∧ t { nx := fun _ H' => Q .non H', rt := Q } (L2.start N vs) H) : FnG P w K mg base CX (k + 1) f fd ps sp := by
  obtain ⟨oc, od, dV, kV, doc, pm, an, cdv, ct, osl, rfl, lk, code, _, _⟩ := F.ex
  refine ⟨many, fun A outer s H args us vs Q E gd room e0 bd rel prom => ?_⟩
  have size := many _ _ _ _ prom
  have KX : K.In s.heap := e0.mod.kin.keeps fun b o z => (e0.bs b o z).1
  have lim : s.heap.NoLimit := e0.mod.nolimit.keeps fun b o z => (e0.bs b o z).1
  have kinds : ∀ y ∈ ps.zip us, scope.names.lookup y.1 = some .local ∨ (scope.names.lookup y.1 = some .cell ∧ ((cellsFrom (s.heap.objs.size + 1) scope.names []).lookup y.1).isSome = true) := fun ⟨n, v⟩ hy => (S.par n (List.of_mem_zip hy).1).elim .inl fun z => .inr ⟨z, PySem.W.cellsFrom_some _ _ _ (.inl z)⟩
  refine codeAny_call_function room.depth (KX _ _ lk) rfl S.co S.gen rfl (PySem.W.codeRec_of KX code) (bd _ _ _ _ (wpAny_newFunctionEnv_cells S.kind kinds fun env he s1 y => ?_))
  subst he
  obtain ⟨t, pf, rd⟩ := hb cdv rfl A outer s H vs Q E gd (room.deeper _) prom
  refine ⟨lim.keeps y.toInCall.keep, codeAny_func (wpAny_mono (pf.run [] s1 _ H _ (inv_start S room.hd e0 size rel y) rd) (fun fl s' z => ?_) fun e s' z => z)⟩
  cases fl with
  | ret u => obtain ⟨v, σ', H', J, rv, q⟩ := z; exact ⟨v, H', J.os, J.bare, J.base, J.hok, rv, q⟩
  | next => obtain ⟨σ', H', J, q⟩ := z; exact ⟨V.non, H', J.os, J.bare, J.base, J.hok, rfl, q⟩
  | brk => exact z.elim fun _ z => z.elim fun _ z => z.2.elim
  | cont => exact z.elim fun _ z => z.elim fun _ z => z.2.elim
theorem lawG {a : Addr} {mb : Str → Option Value} {x : Str} {sp : Sp} {s₁ : Shared} {vs : List Value} {ns : List Int} (KX : K.In s₁.heap) (hns : s₁.heap.Ns mainGlobals mg) (hmb : s₁.heap.Ns builtinsNs mb) (hbb : ∀ x : Str, x ≠ "__name__" → mb x = bootBuiltins x) (lim : s₁.heap.NoLimit) (gens : s₁.gens = #[])
    (obj : s₁.heap.get? a = some { cls := .type "list", data := .seq vs.toArray }) (its : IntsAre vs ns) (most : ns.length ≤ sizeLine) (room : Room k callerA) (F : ∀ base : Heap, K.In base → base.Ns mainGlobals mg → FnG P w K mg base CX k f fd [x] sp)
    (bind : ∀ (s : Shared) (u : Value), BindsTo s fd ⟨[u], []⟩ [(x, u)]) (prom : ∀ H : Hp, Only H → SqL K H a (ns.map V.int) → sp [.ref a] H (fun v _ => v = .bl true) fun _ _ _ => False) (none_out : ∀ H e s', CX [] H s₁ (fun _ _ _ => False) e s' → False) :
    codeAny (model P w) callerA (.call (.ref f) ⟨[.ref a], []⟩) (fun r s' => r = .ok (.ret (.bool true)) ∧ OldK s₁.heap s'.heap ∧ s'.os = s₁.os ∧ AllBare s'.gens) s₁ := by
  have rel := vals_ints its
  have size := its.length
  have main : ∀ H : Hp, Only H → SqL K H a (ns.map V.int) → HOk P w H s₁.heap → (∀ b, H b ≠ none → b = a) → (H a ≠ none → K.lookup a = none) → codeAny (model P w) callerA (.call (.ref f) ⟨[.ref a], []⟩) (fun r s' => r = .ok (.ret (.bool true)) ∧ OldK s₁.heap s'.heap ∧ s'.os = s₁.os ∧ AllBare s'.gens) s₁ := by
    intro H only seq hok just apart
    have at_a : ∀ {b : Addr}, H b ≠ none → b = a := fun {b} z => just b z
    have noDict : ∀ {b : Addr} {o : Obj} {es : Array DictEntry} {ep : Nat}, s₁.heap.get? b = some o → o.data = .dict es ep → H b = none := fun {b o es ep} e d => Classical.byContradiction fun z => by
      have e1 := at_a z
      subst e1
      rw [obj] at e
      cases e
      exact absurd (show Data.seq vs.toArray _ = Data.dict es ep from d) (fun q => by cases q)
    have keepNs : ∀ {b : Addr} {m : Str → Option Value}, s₁.heap.Ns b m → (hidT s₁.heap H).Ns b m := fun {b m} ⟨o, es, ep, e, d, r⟩ => ⟨o, es, ep, hidT_get e (noDict e d), d, r⟩
    have kin : K.In (hidT s₁.heap H) := fun b o e => hidT_get (KX b o e) (Classical.byContradiction fun z => by
      have e1 := at_a z
      subst e1
      rw [apart z] at e
      cases e)
    have mod : Mod K mg (hidT s₁.heap H) := ⟨kin, keepNs hns, ⟨mb, keepNs hmb, hbb⟩, lim.elim fun mc z => ⟨mc, keepNs z.1, z.2⟩⟩
    have e0 : Env0 P w K mg (hidT s₁.heap H) callerA [] s₁ H := ⟨rfl, mod, fun b o e => of_hidT e, Nat.le_of_eq (hidT_size _ _), trivial, (fun b z => nomatch (show b ∈ ([] : List Addr) from z)), hok, .of_eq gens⟩
    refine codeAny_mono ((F _ kin (keepNs hns)).go callerA [] s₁ H ⟨[.ref a], []⟩ [.ref a] [.ref a] _ _ rfl room e0 (bind s₁ (.ref a)) (.cons rfl .nil) (prom H only seq)) fun r s' z => ?_
    rcases r with e | fl
    · exact (none_out H e s' z).elim
    cases fl with
    | next => exact z.elim
    | brk => exact z.elim
    | cont => exact z.elim
    | ret u =>
      obtain ⟨v, H', os, bare, un, hok', rv, rfl⟩ := z
      obtain rfl : u = Value.bool true := rv
      refine ⟨rfl, OldK.of_keep fun b o e => ?_, os, bare⟩
      cases q : H b with
      | none => exact un.keep b o e q (fun z => nomatch (show b ∈ ([] : List Addr) from z)) (fun z => nomatch z)
      | some u =>
        rcases only b with z | ⟨ob, xs, z⟩
        · rw [q] at z
          cases z
        · obtain ⟨e1, _⟩ := hok b _ z
          obtain ⟨e2, _⟩ := hok' b _ (un.frzs b ob _ z)
          rw [e] at e1
          cases e1
          exact e2
  cases own : K.lookup a with
  | some o =>
    have e := KX a o own
    rw [obj] at e
    cases e
    exact main (fun _ => none) (fun _ => .inl rfl) (.inr ⟨_, vs.toArray, _, own, rfl, rfl, rfl, by rw [List.size_toArray, size]; exact most, by simpa using rel⟩) (fun b u z => nomatch (show (none : Option HO) = some u from z)) (fun b z => absurd rfl z) fun z => absurd rfl z
  | none =>
    have yes : ∀ {b : Addr}, b = a → (if b = a then some (HO.frz { cls := .type "list", data := .seq vs.toArray } (.lst (ns.map V.int))) else none) = some (HO.frz { cls := .type "list", data := .seq vs.toArray } (.lst (ns.map V.int))) := fun z => if_pos z
    refine main (fun b => if b = a then some (.frz { cls := .type "list", data := .seq vs.toArray } (.lst (ns.map V.int))) else none) (fun b => ?_) (.inl (.inr ⟨_, yes rfl⟩)) (fun b u z => ?_) (fun b z => Classical.byContradiction fun n => z (if_neg n)) fun _ => own
    · by_cases n : b = a
      · exact .inr ⟨_, _, yes n⟩
      · exact .inl (if_neg n)
    · by_cases n : b = a
      · have z2 := (yes n).symm.trans z
        cases z2
        subst n
        exact ⟨obj, by rw [List.length_map]; exact most, vs, _, rel, obj⟩
      · have z2 := (if_neg n).symm.trans z
        cases z2
end
section
variable {X : Cx} {CX : CXT} {k : Nat} {f : Addr} {fd : FuncData} {ps : List Str} {sp : Sp} {x : Str} {p pos : Pos} {e : Expr} {es : List Expr} {t : TA} {E : XK}
theorem peG (F : FnG X.prog X.w X.K X.mg X.base CX k f fd ps sp) (gd : X.A.guards = some []) (room : Room k X.A) (hg : Gl X x) (hm : X.mg x = some (.ref f)) (kp : PySem.W.keepIn X.K (.ref f) = true) (bd : Binds X.K fd ps []) (ps' : Passes CX X E) (ha : PA X (e :: es) t)
    (hdb : (x == ("__debug__" : Str)) = false := by decide) (he : starEach (e :: es) X.env = (false, eval e X.env) :: starEach es X.env := by rfl) (hpl : (backTo pos (starEach es X.env)).any (·.1) = false := by rfl) : PE X (.Call (.Name x p) (e :: es) [] pos) (tCall sp [] E t) :=
  ⟨fun pins s σ H Q I h => wpAny_Call_Name_kw (ld_glob I hg hm (PySem.W.callWith_K (h₀ := X.base) I.ok.mod.kin kp (thn (ha.run pos pins s σ H _ I h) fun us s1 ⟨vs, H1, I1, r, q⟩ => ⟨I1.kIn, by
    have q : sp (vs ++ []) H1 Q E := q
    rw [List.append_nil] at q
    have size : (us ++ []).length = ps.length := by rw [List.append_nil, ← r.length]; exact F.many _ _ _ _ q
    have bd2 := bd s1 us I1.kIn size
    rw [List.append_nil] at bd2
    refine wpAny_call (codeAny_mono (F.go X.A X.stack s1 H1 ⟨us, []⟩ us vs Q E gd room I1.env0 bd2 r q) fun res s' z => ?_)
    rcases res with err | fl
    · exact ps' pins σ H1 s1 err s' I1 z
    · cases fl with
      | ret u => exact I1.after z
      | next => exact z.elim
      | brk => exact z.elim
      | cont => exact z.elim⟩) he hpl) hdb)⟩
end
end K0
end
/-! ### D0 -/
section
set_option Elab.async false
set_option linter.all false
set_option maxRecDepth 100000
set_option maxHeartbeats 4000000
namespace K0
open PySem PySem.Spec PyProof.Rows L2
abbrev FnP (K : PySem.W.Frag) (x : Str) (i : Nat) (f : Addr) (fd : FuncData) : Prop := FunD K x x (defArgs (top i)) (defBody (top i)) (defScope (top i)) [] [] f fd
/-- a power whose base has few bits -/
def PowBits (i j : Int) : Prop := 0 ≤ j ∧ (Builtin.Int.intBits i : Int) * j ≤ 2 ^ 27
theorem op_powBits {X : Cx} : OpR X (binaryOp .Pow) (rI PowBits fun i j => .int (i ^ j.toNat)) := opI fun _ _ _ _ _ _ _ hc q => pow_int hc.1 hc.2 q
/-- three ints in a list: the dice -/
abbrev dk (a b c : Int) : HO := .lst [.int a, .int b, .int c]
theorem scDice : FnScope ["script", "at", "cell", "great", "mixed"] ["script", "at"] (defScope (top iDice)) := ⟨rfl, rfl, rfl, by decide +kernel, rfl, by decide +kernel, by decide +kernel⟩
def spDice (K : PySem.W.Frag) : Sp := fun vs H Q _ => ∃ (p : Addr) (ns : List Int) (j : Nat), vs = [.ref p, .int j] ∧ SqL K H p (ns.map V.int) ∧ ∀ d a b c, H d = none → Q (.ref d) (upd H d (dk a b c))
section
variable {P : Program} {w : World} {K : PySem.W.Frag} {mg : Str → Option Value} {base : Heap} {f fR fO : Addr} {fd fdR fdO : FuncData}
theorem ok_dice {k : Nat} (F : FnP K "_law_dice" iDice f fd) (mlen : mg "len" = none) (mint : mg "int" = none) (mabs : mg "abs" = none) (mmax : mg "max" = none) : FnOk P w K mg base CX0 (k + 1) f fd ["script", "at"] (spDice K) := by
  refine F.ok scDice (fun vs H Q E h => ?_) (fun cdv A outer s H vs Q E hr h => ?_)
  · obtain ⟨p, ns, j, rfl, _⟩ := h
    rfl
  · obtain ⟨p, ns, j, rfl, hS, q⟩ := h
    refine ⟨_, PSs.nox (pss_cons (ps_set (i := 2) scDice.nd rfl (.inl rfl) (pe_op op_add (pe_op op_mul pe_int (pv 1)) pe_int))
      (C8.pss_cut (ps_if (pt_cmpR op_lt (pv 1) (pe_callB call_len_seq (by rfl) mlen PySem.boot_len (pa_cons (pv 0) pa_nil)) (nomark _))
        (pss_one (ps_set (i := 2) scDice.nd rfl (.inl rfl) (pe_ix ix_list (pv 0) (pv 1) (fun _ _ => rfl)))) pss_nil)
      (pss_cons (ps_set (i := 3) scDice.nd rfl (.inl rfl) (pe_op op_mod (pe_callTy call_int1 (by rfl) mint boot_int (pa_cons (pe_callB call_abs (by rfl) mabs boot_abs (pa_cons (pv 2) pa_nil)) pa_nil))
        (pe_op op_powBits (pe_op op_powBits pe_int pe_int) pe_int)))
      (pss_cons (ps_set (i := 4) scDice.nd rfl (.inl rfl) (pe_op op_add (pe_op op_add (pe_op op_add (pe_op op_mul (pe_op op_mod (pe_callTy call_int1 (by rfl) mint boot_int (pa_cons (pv 3) pa_nil)) pe_int) pe_int) (pe_op op_mul pe_int (pv 1)))
        (pe_op op_mul pe_int (pe_callTy call_int1 (by rfl) mint boot_int (pa_cons (pe_cmpR op_lt (pv 2) pe_int (nomark _)) pa_nil)))) pe_int))
      (pss_one (ps_ret (pe_lst (pa_cons (pe_callB (call_max2 rfl) (by rfl) mmax boot_max (pa_cons pe_int (pa_cons (pe_op op_sub (pv 3) (pe_op op_powBits pe_int pe_int)) pa_nil)))
        (pa_cons (pe_op op_mod (pe_callTy call_int1 (by rfl) mint boot_int (pa_cons (pv 4) pa_nil)) pe_int) (pa_cons pe_int pa_nil)))))))))), ?_⟩
    refine ⟨_, rfl, _, _, rfl, rfl, .inl ⟨by decide, by decide⟩, _, _, rfl, rfl, ?_⟩
    refine ⟨fun σ' H' => ∃ cell : Int, σ' = [some (.ref p), some (.int j), some (.int cell), none, none] ∧ H' = H, ⟨_, rfl, _, rfl, p, _, rfl, .inl hS, _, _, rfl, rfl, _, rfl, ite2 (fun e => ?_) (fun e => ⟨_, rfl, rfl⟩)⟩, fun σ' H' hM => ?_⟩
    · have hj : j < ns.length := by
        have e2 : (j : Int) < ((ns.map V.int).length : Int) := of_decide_eq_true e
        rw [List.length_map] at e2
        omega
      have hg : (ns.map V.int)[j]? = some (.int ns[j]) := by
        rw [List.getElem?_map, List.getElem?_eq_getElem hj]
        rfl
      exact ⟨_, rfl, _, rfl, p, _, _, _, rfl, rfl, hS, atI_nat hg, _, rfl, rfl⟩
    · obtain ⟨cell, rfl, rfl⟩ := hM
      refine ⟨_, rfl, _, rfl, .inl ⟨_, rfl, _, _, rfl, rfl, ⟨by decide, by decide +kernel⟩, _, _, rfl, rfl, ⟨by decide, by decide +kernel⟩, _, _, rfl, rfl, (by show (0 : Int) < (10 ^ Int.toNat 60) ^ Int.toNat 12; decide +kernel), ?_⟩⟩
      refine ⟨_, rfl, .inl ⟨_, rfl, _, _, rfl, rfl, (by show (0 : Int) < 2147483399; decide), _, _, rfl, rfl, .inr ⟨by decide, by decide⟩, _, rfl, _, _, rfl, rfl, .inl ⟨by decide, by decide⟩, _, _, rfl, rfl, ?_⟩⟩
      refine ⟨_, rfl, _, _, rfl, rfl, .inr ⟨_, rfl, _, _, rfl, rfl, .inl ⟨by decide, by decide⟩, _, _, rfl, rfl, _, _, rfl, rfl, ?_⟩⟩
      refine ⟨_, rfl, _, _, rfl, rfl, ⟨by decide, by decide +kernel⟩, _, _, rfl, rfl, _, _, rfl, ?_⟩
      refine ⟨_, rfl, .inl ⟨_, rfl, _, _, rfl, rfl, (by show (0 : Int) < 2305843009213693907; decide), (by show 3 ≤ sizeLine; decide), fun d hd => ?_⟩⟩
      exact q d _ _ _ hd
end
end K0
end
/-! ### D1 -/
section
set_option Elab.async false
set_option linter.all false
set_option maxRecDepth 100000
set_option maxHeartbeats 4000000
namespace K0
open PySem PySem.Spec PyProof.Rows L2
theorem scRoll : FnScope ["dice", "total", "found", "one", "two"] ["dice", "total"] (defScope (top iRoll)) := ⟨rfl, rfl, rfl, by decide +kernel, rfl, by decide +kernel, by decide +kernel⟩
def spRoll : Sp := fun vs H Q _ => ∃ (p : Addr) (a b c t : Int), vs = [.ref p, .int t] ∧ H p = some (dk a b c) ∧ CDivW a t ∧ ∀ a' b' c' r, 0 ≤ r → r < t → Q (.int r) (upd H p (dk a' b' c'))
theorem mod_small {x m : Int} (h : 0 < m) (h2 : m ≤ 2 ^ 62) : -(2 ^ 64) < x % m ∧ x % m < 2 ^ 64 := by
  have h0 := Int.emod_nonneg x (show m ≠ 0 by omega)
  have h1 := Int.emod_lt_of_pos x h
  omega
theorem scOne : FnScope ["dice", "items"] ["dice", "items"] (defScope (top iOne)) := ⟨rfl, rfl, rfl, by decide +kernel, rfl, by decide +kernel, by decide +kernel⟩
/-- the items are a list or a tuple xs, or the signs of a text -/
def Its (K : PySem.W.Frag) (H : Hp) (v : V) (xs : List V) : Prop := (∃ q, v = .ref q ∧ (SqL K H q xs ∨ SqT K H q xs)) ∨ ∃ z : Str, v = .str z ∧ z.length ≤ sizeLine ∧ xs = z.cps.toList.map fun c => V.str ⟨#[c]⟩
theorem len_div {a : Int} {n : Nat} (h : 0 < n) (hz : n ≤ sizeLine) : CDivW a (n : Int) := by
  have e := sizeLine_eq
  refine wide_div (b := 25) (by omega) ?_ (by decide) (by decide)
  have e2 : (2 : Nat) ^ 25 = 33554432 := by decide
  have e3 : (sizeLine : Nat) = 16777216 := e
  omega
theorem its_len {K : PySem.W.Frag} {H : Hp} {v : V} {xs : List V} (h : Its K H v xs) : LenV K v H xs.length := by
  rcases h with ⟨a, rfl, h | h⟩ | ⟨z, rfl, hz, rfl⟩
  · exact .inl ⟨xs, h, rfl⟩
  · exact .inr ⟨xs, h, rfl⟩
  · refine ⟨hz, ?_⟩
    rw [List.length_map]
    first | rfl | simp [Str.length]
theorem its_at {K : PySem.W.Frag} {H : Hp} {v x : V} {xs : List V} {i : Nat} {Q : VK} (h : Its K H v xs) (e : xs[i]? = some x) (q : Q x H) : rIx K v (.int (i : Int)) H Q := by
  rcases h with ⟨a, rfl, h | h⟩ | ⟨z, rfl, hz, rfl⟩
  · exact .inl ⟨a, xs, _, x, rfl, rfl, h, atI_nat e, q⟩
  · exact .inr (.inl ⟨a, xs, _, x, rfl, rfl, h, atI_nat e, q⟩)
  · rw [List.getElem?_map] at e
    cases hc : z.cps.toList[i]? with
    | none => rw [hc] at e; cases e
    | some c =>
      rw [hc] at e
      cases e
      exact .inr (.inr ⟨z, _, c, rfl, rfl, hz, atI_nat hc, q⟩)
section
variable {P : Program} {w : World} {K : PySem.W.Frag} {mg : Str → Option Value} {base : Heap} {f fR fO : Addr} {fd fdR fdO : FuncData}
theorem ok_roll {k : Nat} (F : FnP K "_law_roll" iRoll f fd) (mint : mg "int" = none) : FnOk P w K mg base CX0 (k + 1) f fd ["dice", "total"] spRoll := by
  refine F.ok scRoll (fun vs H Q E h => ?_) (fun cdv A outer s H vs Q E hr h => ?_)
  · obtain ⟨p, a, b, c, t, rfl, _⟩ := h
    rfl
  · obtain ⟨p, a, b, c, t, rfl, hp, ht, q⟩ := h
    have t0 : 0 < t := ht.1
    refine ⟨_, PSs.nox (pss_cons (ps_if (pt_cmpR op_gt (pe_ix ix_list (pv 0) pe_int (fun _ _ => rfl)) pe_int (nomark _))
        (pss_cons (ps_set (i := 2) scRoll.nd rfl (.inl rfl) (pe_op op_mod (pe_callTy call_int1 (by rfl) mint boot_int (pa_cons (pe_ix ix_list (pv 0) pe_int (fun _ _ => rfl)) pa_nil)) (pv 1)))
        (pss_cons (ps_asg (pe_op op_fdivW (pe_ix ix_list (pv 0) pe_int (fun _ _ => rfl)) (pv 1)) (pg_sub (pv 0) pe_int set_list)) (pss_one (ps_ret (pv 2))))) pss_nil)
      (pss_cons (ps_asg (pe_op op_add (pe_ix ix_list (pv 0) pe_int (fun _ _ => rfl)) pe_int) (pg_sub (pv 0) pe_int set_list))
      (pss_cons (ps_set (i := 3) scRoll.nd rfl (.inl rfl) (pe_op op_mod (pe_callTy call_int1 (by rfl) mint boot_int (pa_cons (pe_op op_add (pe_ix ix_list (pv 0) pe_int (fun _ _ => rfl)) (pe_op op_mul pe_int (pe_ix ix_list (pv 0) pe_int (fun _ _ => rfl)))) pa_nil)) pe_int))
      (pss_cons (ps_set (i := 4) scRoll.nd rfl (.inl rfl) (pe_op op_add (pe_op op_mul (pe_op op_mod (pe_callTy call_int1 (by rfl) mint boot_int (pa_cons (pe_op op_mul (pv 3) (pv 3)) pa_nil)) pe_int) (pv 3)) (pe_op op_mul pe_int (pe_ix ix_list (pv 0) pe_int (fun _ _ => rfl)))))
      (pss_cons (ps_set (i := 4) scRoll.nd rfl (.inl rfl) (pe_op op_mod (pe_callTy call_int1 (by rfl) mint boot_int (pa_cons (pv 4) pa_nil)) pe_int))
      (pss_one (ps_ret (pe_op op_mod (pe_callTy call_int1 (by rfl) mint boot_int (pa_cons (pe_op op_fdiv (pv 4) pe_int) pa_nil)) (pv 1))))))))), ?_⟩
    have hS : ∀ x y z : Int, SqL K (upd H p (dk x y z)) p [.int x, .int y, .int z] := fun x y z => .of upd_same
    refine ⟨_, rfl, p, _, _, _, rfl, rfl, .of hp, atI_nat (j := 0) rfl, _, _, rfl, rfl, _, rfl, ite2 (fun e => ?_) (fun e => ?_)⟩
    · refine ⟨_, rfl, p, _, _, _, rfl, rfl, .of hp, atI_nat (j := 0) rfl, .inl ⟨_, rfl, _, rfl, _, _, rfl, rfl, t0, ?_⟩⟩
      refine ⟨_, rfl, p, _, _, _, rfl, rfl, .of hp, atI_nat (j := 0) rfl, _, rfl, _, _, rfl, rfl, ht, ?_⟩
      refine ⟨_, rfl, p, _, _, 0, rfl, rfl, hp, rfl, ?_⟩
      exact ⟨_, rfl, q _ _ _ _ (Int.emod_nonneg _ (by omega)) (Int.emod_lt_of_pos _ t0)⟩
    · refine ⟨_, rfl, p, _, _, _, rfl, rfl, .of hp, atI_nat (j := 2) rfl, _, _, rfl, rfl, ?_⟩
      refine ⟨_, rfl, p, _, _, 2, rfl, rfl, hp, rfl, ?_⟩
      refine ⟨_, rfl, p, _, _, _, rfl, rfl, hS a b _, atI_nat (j := 1) rfl, _, rfl, p, _, _, _, rfl, rfl, hS a b _, atI_nat (j := 2) rfl, _, _, rfl, rfl, .inl ⟨by decide, by decide⟩, _, _, rfl, rfl, .inl ⟨_, rfl, _, _, rfl, rfl, (by show (0 : Int) < 2305843009213693951; decide), ?_⟩⟩
      refine ⟨_, rfl, _, rfl, _, _, rfl, rfl, .inl (mod_small (by decide) (by decide)), .inl ⟨_, rfl, _, _, rfl, rfl, (by show (0 : Int) < 2305843009213693921; decide), ?_⟩⟩
      refine ⟨_, rfl, _, _, rfl, rfl, .inl (mod_small (by decide) (by decide)), _, rfl, p, _, _, _, rfl, rfl, hS a b _, atI_nat (j := 2) rfl, _, _, rfl, rfl, .inl ⟨by decide, by decide⟩, _, _, rfl, rfl, ?_⟩
      refine ⟨_, rfl, .inl ⟨_, rfl, _, _, rfl, rfl, (by show (0 : Int) < 2305843009213693907; decide), ?_⟩⟩
      refine ⟨_, rfl, _, _, rfl, rfl, ⟨by decide, by decide⟩, .inl ⟨_, rfl, _, rfl, _, _, rfl, rfl, t0, ?_⟩⟩
      exact q _ _ _ _ (Int.emod_nonneg _ (by omega)) (Int.emod_lt_of_pos _ t0)
def spOne (K : PySem.W.Frag) : Sp := fun vs H Q _ => ∃ (p : Addr) (a b c : Int) (v : V) (xs : List V), vs = [.ref p, v] ∧ H p = some (dk a b c) ∧ Its K H v xs ∧ xs ≠ [] ∧ xs.length ≤ sizeLine ∧ (∀ a' b' c', Its K (upd H p (dk a' b' c')) v xs) ∧
  ∀ a' b' c' (i : Nat) x, xs[i]? = some x → Q x (upd H p (dk a' b' c'))
theorem ok_one {k : Nat} (F : FnP K "_law_one_of" iOne f fd) (FR : FnOk P w K mg base CX0 (k + 1) fR fdR ["dice", "total"] spRoll) (gR : mg "_law_roll" = some (.ref fR)) (kR : PySem.W.keepIn K (.ref fR) = true) (bR : Binds K fdR ["dice", "total"] []) (mlen : mg "len" = none) :
    FnOk P w K mg base CX0 (k + 2) f fd ["dice", "items"] (spOne K) := by
  refine F.ok scOne (fun vs H Q E h => ?_) (fun cdv A outer s H vs Q E hr h => ?_)
  · obtain ⟨p, a, b, c, v, xs, rfl, _⟩ := h
    rfl
  · obtain ⟨p, a, b, c, v, xs, rfl, hp, hI, hx, hz, hI2, q⟩ := h
    refine ⟨_, PSs.nox (pss_one (ps_ret (pe_ix ix_seq (pv 1) (pe_call FR hr (by rfl) gR kR bR .nil pass0 (pa_cons (pv 0) (pa_cons (pe_callB call_len (by rfl) mlen PySem.boot_len (pa_cons (pv 1) pa_nil)) pa_nil))) (fun _ _ => rfl)))), ?_⟩
    have hl0 : 0 < xs.length := List.length_pos_iff.mpr hx
    refine ⟨_, rfl, _, rfl, _, rfl, _, xs.length, rfl, its_len hI, ?_⟩
    refine ⟨p, a, b, c, _, rfl, hp, len_div hl0 hz, fun a' b' c' r h0 h1 => ?_⟩
    have hr2 : r.toNat < xs.length := by omega
    have er : r = (r.toNat : Int) := by omega
    have hg : xs[r.toNat]? = some xs[r.toNat] := List.getElem?_eq_getElem hr2
    have q2 := q a' b' c' r.toNat _ hg
    rw [er]
    exact its_at (hI2 a' b' c') hg q2
end
end K0
end
/-! ### D2 -/
section
set_option Elab.async false
set_option linter.all false
set_option maxRecDepth 100000
set_option maxHeartbeats 4000000
namespace K0
open PySem PySem.Spec PyProof.Rows L2
/-- all but the dice at p is as it was; the dice are dice -/
def Keep (p : Addr) (H H' : Hp) : Prop := (∀ b o, b ≠ p → H b = some o → H' b = some o) ∧ ∃ a b c, H' p = some (dk a b c)
theorem Keep.refl {p : Addr} {H : Hp} {a b c : Int} (h : H p = some (dk a b c)) : Keep p H H := ⟨fun _ _ _ e => e, a, b, c, h⟩
theorem Keep.trans {p : Addr} {H H1 H2 : Hp} (h : Keep p H H1) (k : Keep p H1 H2) : Keep p H H2 := ⟨fun b o n e => k.1 b o n (h.1 b o n e), k.2⟩
theorem Keep.new {p q : Addr} {H : Hp} {o : HO} {a b c : Int} (h : H p = some (dk a b c)) (n : H q = none) : Keep p H (upd H q o) :=
  ⟨fun b u hb e => by rw [upd_ne (ne_of_none e n)]; exact e, a, b, c, by rw [upd_ne (ne_of_none h n)]; exact h⟩
theorem Keep.new2 {p q : Addr} {H H' : Hp} {o : HO} (h : Keep p H H') (n : H' q = none) : Keep p H (upd H' q o) := by
  obtain ⟨a, b, c, e⟩ := h.2
  exact h.trans (.new e n)
theorem Keep.dice {p : Addr} {H : Hp} (a b c : Int) : Keep p H (upd H p (dk a b c)) := ⟨fun d o n e => by rw [upd_ne n]; exact e, a, b, c, upd_same⟩
theorem scAll : FnScope [] [] (defScope (top iAll)) := ⟨rfl, rfl, rfl, by decide +kernel, rfl, by decide +kernel, by decide +kernel⟩
def allSigns : Str := "#$0123:_abcdefg"
def spAll : Sp := fun vs H Q _ => vs = [] ∧ Q (.str allSigns) H
theorem mapV_str (sg : Str) : sg.cps.toList.map (fun c => V.str ⟨#[c]⟩) = (sg.cps.toList.map fun c => (⟨#[c]⟩ : Str)).map V.str := by rw [List.map_map]; rfl
section
variable {P : Program} {w : World} {K : PySem.W.Frag} {mg : Str → Option Value} {base : Heap} {f fR fO : Addr} {fd fdR fdO : FuncData}
theorem ok_all {k : Nat} (F : FnP K "_law_all_signs" iAll f fd) : FnOk P w K mg base CX0 (k + 1) f fd [] spAll := by
  refine F.ok scAll (fun vs H Q E h => ?_) (fun cdv A outer s H vs Q E hr h => ?_)
  · rw [h.1]; rfl
  · obtain ⟨rfl, q⟩ := h
    exact ⟨_, PSs.nox (pss_one (ps_ret pe_str)), q⟩
end
end K0
end
/-! ### V0 -/
section
set_option Elab.async false
set_option linter.all false
set_option maxRecDepth 100000
set_option maxHeartbeats 4000000
/-! Values of any depth with dicts (Dv), read off the heap; repr of them. -/
namespace K0
open PySem PySem.Spec PyProof.Rows L2
def keyD : Key → PyData
  | .inl i => .int i
  | .inr x => .str x
mutual
inductive Dv (K : PySem.W.Frag) (H : Hp) : V → PyData → Prop
  | non : Dv K H .non .none
  | bl (b : Bool) : Dv K H (.bl b) (.bool b)
  | int (i : Int) : Dv K H (.int i) (.int i)
  | str (x : Str) : Dv K H (.str x) (.str x)
  | lst {a : Addr} {xs : List V} {ds : List PyData} : SqL K H a xs → DvAll K H xs ds → Dv K H (.ref a) (.list ds)
  | tup {a : Addr} {xs : List V} {ds : List PyData} : SqT K H a xs → DvAll K H xs ds → Dv K H (.ref a) (.tuple ds)
  | dic {a : Addr} {kvs : List (Key × V)} {ds : List (PyData × PyData)} : H a = some (.dK kvs) → ds.map (·.1) = kvs.map (fun p => keyD p.1) → DvAll K H (kvs.map (·.2)) (ds.map (·.2)) → Dv K H (.ref a) (.dict ds)
inductive DvAll (K : PySem.W.Frag) (H : Hp) : List V → List PyData → Prop
  | nil : DvAll K H [] []
  | cons {v : V} {vs : List V} {d : PyData} {ds : List PyData} : Dv K H v d → DvAll K H vs ds → DvAll K H (v :: vs) (d :: ds)
end
theorem same_tup {K : PySem.W.Frag} {H H' : Hp} {a : Addr} {xs : List V} (e : Same H H') (h : SqT K H a xs) : SqT K H' a xs := by
  rcases h with (h | ⟨o, h⟩) | h
  · exact .inl (.inl (e _ _ h))
  · exact .inl (.inr ⟨o, e _ _ h⟩)
  · exact .inr h
mutual
theorem Dv.same {K : PySem.W.Frag} {H H' : Hp} (e : Same H H') : ∀ (d : PyData) (v : V), Dv K H v d → Dv K H' v d
  | .none, _, h => by cases h; exact .non
  | .bool b, _, h => by cases h; exact .bl b
  | .int i, _, h => by cases h; exact .int i
  | .str x, _, h => by cases h; exact .str x
  | .list ds, _, h => by cases h with | lst h1 h2 => exact .lst (e.seq h1) (DvAll.same e ds _ h2)
  | .tuple ds, _, h => by cases h with | tup h1 h2 => exact .tup (same_tup e h1) (DvAll.same e ds _ h2)
  | .dict ds, _, h => by cases h with | dic h1 h2 h3 => exact .dic (e _ _ h1) h2 (DvAll.sameKv e ds _ h3)
theorem DvAll.same {K : PySem.W.Frag} {H H' : Hp} (e : Same H H') : ∀ (ds : List PyData) (vs : List V), DvAll K H vs ds → DvAll K H' vs ds
  | [], _, h => by cases h; exact .nil
  | d :: ds, _, h => by cases h with | cons h1 h2 => exact .cons (Dv.same e d _ h1) (DvAll.same e ds _ h2)
theorem DvAll.sameKv {K : PySem.W.Frag} {H H' : Hp} (e : Same H H') : ∀ (ds : List (PyData × PyData)) (vs : List V), DvAll K H vs (ds.map (·.2)) → DvAll K H' vs (ds.map (·.2))
  | [], _, h => by cases h; exact .nil
  | (k, d) :: ds, _, h => by cases h with | cons h1 h2 => exact .cons (Dv.same e d _ h1) (DvAll.sameKv e ds _ h2)
end
theorem Dv.same' {K : PySem.W.Frag} {H H' : Hp} {v : V} {d : PyData} (h : Dv K H v d) (e : Same H H') : Dv K H' v d := Dv.same e d v h
/-- the written part knows where sys.modules stands -/
def sysB (K : PySem.W.Frag) : Bool := match K.lookup sysModules with
  | some o => o.cls == .type "dict"
  | none => false
section
variable {X : Cx} {pins : List (Addr × Obj)} {σ : L2.St} {H : Hp} {s : Shared}
theorem sys_obj (I : Inv X pins σ H s) (b : sysB X.K = true) : ∃ o, s.heap.get? sysModules = some o ∧ o.cls = .type "dict" ∧ H sysModules = none := by
  unfold sysB at b
  cases e : X.K.lookup sysModules with
  | none => rw [e] at b; cases b
  | some o =>
    rw [e] at b
    have z := I.bs _ _ (I.ok.mod.kin _ _ e)
    exact ⟨o, z.1, by simpa using b, z.2⟩
theorem keys_read {h : Heap} {P : Program} {w : World} : ∀ {es : List DictEntry} {kvs : List (Key × Value)}, Pairs (mixKind P w) es kvs → ReadsAll h (es.map (·.key)) (kvs.map fun p => keyD p.1) []
  | _, _, .nil => .nil
  | _, _, .cons (e := e) (kv := kv) h1 h2 h3 => by
    have r : Reads h e.key (keyD kv.1) [] := by
      rcases keyIs_shape (show keyIs kv.1 e.key = true from h1) with ⟨i, t, e1, e2⟩ | ⟨y, t, e1, e2⟩
      · rw [e1, e2]; exact .int i t
      · rw [e1, e2]; exact .str y t
    have q := ReadsAll.cons r (keys_read (h := h) h3)
    simpa using q
theorem vals_of_pairs {P : Program} {w : World} : ∀ {es : List DictEntry} {kvs : List (Key × Value)}, Pairs (mixKind P w) es kvs → es.map (·.val) = kvs.map (·.2)
  | _, _, .nil => rfl
  | _, _, .cons h1 h2 h3 => by rw [List.map_cons, List.map_cons, h2, vals_of_pairs h3]
theorem kv_fst : ∀ {kvs : List (Key × V)} {vs : List (Key × Value)}, KV kvs vs → kvs.map (fun p => keyD p.1) = vs.map (fun p => keyD p.1)
  | _, _, .nil => rfl
  | _, _, .cons h1 h2 => by rw [List.map_cons, List.map_cons, h1.1, kv_fst h2]
theorem kv_snd : ∀ {kvs : List (Key × V)} {vs : List (Key × Value)}, KV kvs vs → Vals (kvs.map (·.2)) (vs.map (·.2))
  | _, _, .nil => .nil
  | _, _, .cons h1 h2 => .cons h1.2 (kv_snd h2)
theorem nomem_cons {a : Addr} {as : List Addr} {z : Addr} (h : z ≠ a) (h2 : z ∉ as) : z ∉ a :: as := fun m => (List.mem_cons.mp m).elim h h2
theorem nomem_app {as bs : List Addr} {z : Addr} (h : z ∉ as) (h2 : z ∉ bs) : z ∉ as ++ bs := fun m => (List.mem_append.mp m).elim h h2
mutual
theorem Dv.reads (I : Inv X pins σ H s) (b : sysB X.K = true) : ∀ (d : PyData) (v : V) (u : Value), Dv X.K H v d → RelV v u → ∃ as, Reads s.heap u d as ∧ sysModules ∉ as
  | .none, _, _, h, r => by cases h; cases r; exact ⟨_, .none, fun z => nomatch z⟩
  | .bool _, _, _, h, r => by cases h; cases r; exact ⟨_, .bool _, fun z => nomatch z⟩
  | .int _, _, _, h, r => by cases h; obtain ⟨t, rfl⟩ := r; exact ⟨_, .int _ t, fun z => nomatch z⟩
  | .str _, _, _, h, r => by cases h; obtain ⟨t, rfl⟩ := r; exact ⟨_, .str _ t, fun z => nomatch z⟩
  | .list ds, _, _, h, r => by
    cases h with
    | lst h1 h2 =>
      cases r
      obtain ⟨its, rv, ⟨o, n, ho, hc, _, hd⟩, _⟩ := I.list h1
      obtain ⟨as, q, z⟩ := DvAll.reads I b ds _ its h2 rv
      refine ⟨_, .list ho hc hd q, nomem_cons (fun e => ?_) z⟩
      obtain ⟨o2, e1, e2, _⟩ := sys_obj I b
      rw [e, ho] at e1
      cases e1
      rw [hc] at e2
      exact absurd e2 (by decide)
  | .tuple ds, _, _, h, r => by
    cases h with
    | tup h1 h2 =>
      cases r
      obtain ⟨its, rv, ⟨o, ho, hc, n, hd⟩, _⟩ := I.tuple h1
      obtain ⟨as, q, z⟩ := DvAll.reads I b ds _ its h2 rv
      exact ⟨_, .tuple ho hc hd q, z⟩
  | .dict ds, _, _, h, r => by
    cases h with
    | dic h1 h2 h3 =>
      cases r
      obtain ⟨_, hsys, vs, kv, o, es, ep, ho, ex, hd, _, pr, _⟩ := I.hok _ _ h1
      obtain ⟨as, q, z⟩ := DvAll.readsKv I b ds _ (es.toList.map (·.val)) h3 (by rw [vals_of_pairs pr]; exact kv_snd kv)
      have ks : ReadsAll s.heap (es.toList.map (·.key)) (ds.map (·.1)) [] := by rw [h2, kv_fst kv]; exact keys_read pr
      refine ⟨_, .dict ho ex.1 hd ks q, ?_⟩
      exact nomem_cons (fun e => by rw [← e] at hsys; simp at hsys) z
theorem DvAll.reads (I : Inv X pins σ H s) (b : sysB X.K = true) : ∀ (ds : List PyData) (vs : List V) (us : List Value), DvAll X.K H vs ds → Vals vs us → ∃ as, ReadsAll s.heap us ds as ∧ sysModules ∉ as
  | [], _, _, h, r => by cases h; cases r; exact ⟨_, .nil, fun z => nomatch z⟩
  | d :: ds, _, _, h, r => by
    cases h with
    | cons h1 h2 =>
      cases r with
      | cons r1 r2 =>
        obtain ⟨as, q1, z1⟩ := Dv.reads I b d _ _ h1 r1
        obtain ⟨bs, q2, z2⟩ := DvAll.reads I b ds _ _ h2 r2
        exact ⟨_, .cons q1 q2, nomem_app z1 z2⟩
theorem DvAll.readsKv (I : Inv X pins σ H s) (b : sysB X.K = true) : ∀ (ds : List (PyData × PyData)) (vs : List V) (us : List Value), DvAll X.K H vs (ds.map (·.2)) → Vals vs us → ∃ as, ReadsAll s.heap us (ds.map (·.2)) as ∧ sysModules ∉ as
  | [], _, _, h, r => by cases h; cases r; exact ⟨_, .nil, fun z => nomatch z⟩
  | (k, d) :: ds, _, _, h, r => by
    cases h with
    | cons h1 h2 =>
      cases r with
      | cons r1 r2 =>
        obtain ⟨as, q1, z1⟩ := Dv.reads I b d _ _ h1 r1
        obtain ⟨bs, q2, z2⟩ := DvAll.readsKv I b ds _ _ h2 r2
        exact ⟨_, .cons q1 q2, nomem_app z1 z2⟩
end
/-- small enough to be shown -/
structure Fit (d : PyData) : Prop where
  able : d.showable = true
  leaf : d.leavesShort 60 = true
  bulk : d.bulk ≤ 100000
  depth : d.depth ≤ 8
theorem Fit.size {d : PyData} (f : Fit d) : d.shown.length ≤ sizeLine := by
  have h := PyData.shown_le_bulk 60 (by decide) d f.leaf
  have h2 := f.bulk
  rw [sizeLine_eq]
  omega
def rRepr (K : PySem.W.Frag) : List V → Hp → VK → Prop := fun xs H Q => ∃ x d, xs = [x] ∧ Dv K H x d ∧ Fit d ∧ Q (.str d.shown) H
theorem call_repr (b : sysB X.K = true) (gd : X.A.guards = some []) (hu : X.A.units + 64 < cLine) : CallR X (.builtin "repr") (rRepr X.K) := by
  intro pins s σ H xs us Q I r h
  obtain ⟨x, d, rfl, hd, ft, q⟩ := h
  obtain ⟨u, rfl, rx⟩ := vals1 r
  obtain ⟨as, rd, nos⟩ := Dv.reads I b d x u hd rx
  have fin : ∀ t s2, Inv X pins σ H s2 → EP X pins σ Q (.str d.shown t) s2 := fun t s2 J => ⟨.str d.shown, H, J, ⟨t, rfl⟩, q⟩
  have dp := ft.depth
  cases hd with
  | non => cases rx; exact PySem.P.repr_of_none (by simpa [PyData.shown] using fin _ _ (I.tok _))
  | bl c => cases rx; exact PySem.P.repr_of_bool (by simpa [PyData.shown] using fin _ _ (I.tok _))
  | int i => obtain ⟨t, rfl⟩ := rx; exact PySem.P.repr_of_int (by have z := ft.able; simpa [PyData.showable] using z) (by simpa [PyData.shown] using fin _ _ (I.tok _))
  | str z => obtain ⟨t, rfl⟩ := rx; exact PySem.P.repr_of_str (by simpa [PyData.shown] using fin _ _ (I.tok _)) (by simpa [PyData.shown] using ft.size)
  | lst h1 h2 => cases rx; exact repr_of_reads' rd ft.able (fun _ => nos) gd (by omega) (fun _ _ e => e) (fun h' u tk k => fin _ _ (I.kept k)) ft.size
  | tup h1 h2 => cases rx; exact repr_of_reads' rd ft.able (fun _ => nos) gd (by omega) (fun _ _ e => e) (fun h' u tk k => fin _ _ (I.kept k)) ft.size
  | dic h1 h2 h3 => cases rx; exact repr_of_reads' rd ft.able (fun _ => nos) gd (by omega) (fun _ _ e => e) (fun h' u tk k => fin _ _ (I.kept k)) ft.size
end
end K0
end
/-! ### O0 -/
section
set_option Elab.async false
set_option linter.all false
set_option maxRecDepth 100000
set_option maxHeartbeats 4000000
/-! Displays of data: what they evaluate to (Ev1, EvN), beside the dice at p; a text repeated; the drawn odd value. -/
namespace K0
open PySem PySem.Spec PyProof.Rows L2
def rep (z : Str) (n : Int) : Str := ⟨(List.replicate n.toNat z.cps).foldl (· ++ ·) #[]⟩
theorem fold_size {α : Type} (cs : Array α) : ∀ (k : Nat) (acc : Array α), ((List.replicate k cs).foldl (· ++ ·) acc).size = acc.size + k * cs.size
  | 0, acc => by simp
  | k + 1, acc => by
    rw [List.replicate_succ, List.foldl_cons, fold_size cs k, Array.size_append, Nat.succ_mul]
    omega
theorem rep_len (z : Str) (n : Int) : (rep z n).length = n.toNat * z.length := by
  show ((List.replicate n.toNat z.cps).foldl (· ++ ·) #[]).size = _
  rw [fold_size]
  show 0 + _ = _
  rw [Nat.zero_add]
  rfl
def rStrMul : R2 := fun x y H Q => ∃ (z : Str) (n : Int), x = .str z ∧ y = .int n ∧ 2 ≤ n ∧ n ≤ 10000 ∧ 1 ≤ z.length ∧ z.length ≤ 1000 ∧ Q (.str (rep z n)) H
theorem op_strMul {X : Cx} : OpR X (binaryOp .Mult) rStrMul := by
  intro pins s σ H x y v u Q I rx ry h
  obtain ⟨z, n, rfl, rfl, n2, n1, z1, z2, q⟩ := h
  obtain ⟨t, rfl⟩ := rx
  obtain ⟨t', rfl⟩ := ry
  have e2 : (2 : Int) ^ 63 = 9223372036854775808 := by decide
  have hn1 : (n == 1) = false := by simp; omega
  have hz0 : (z.length == 0) = false := by simp; omega
  have big : z.length * n.toNat ≤ 1000 * 10000 := Nat.mul_le_mul z2 (by omega)
  refine PySem.P.mul_str (by simp; omega) (fun _ _ => ?_) (fun _ _ => ?_) ?_
  · have h1 : (1000 : Int) ≤ (2 ^ 63 - 1) / n := (Int.le_ediv_iff_mul_le (by omega)).mpr (by omega)
    omega
  · unfold Builtin.Str.tooLong
    rw [sizeLine_eq]
    exact decide_eq_false (by omega)
  · rw [if_neg (by omega), if_neg (by rw [hn1, hz0]; simp)]
    have hl := rep_len z n
    refine ⟨by show (rep z n).length ≤ sizeLine; rw [hl, Nat.mul_comm, sizeLine_eq]; omega, ?_⟩
    exact ⟨.str (rep z n), H, I.tok _, ⟨_, rfl⟩, q⟩
/-- the heap without what stands at p -/
def hid (p : Addr) (H : Hp) : Hp := fun b => if b = p then none else H b
theorem hid_ne {p b : Addr} {H : Hp} (h : b ≠ p) : hid p H b = H b := if_neg h
theorem hid_same {p : Addr} {H H' : Hp} (h : ∀ b o, b ≠ p → H b = some o → H' b = some o) : Same (hid p H) (hid p H') := fun b o e => by
  by_cases hb : b = p
  · subst hb
    have z : (none : Option HO) = some o := (if_pos rfl).symm.trans e
    cases z
  · rw [hid_ne hb] at e ⊢
    exact h b o hb e
theorem hid_out {p : Addr} {H : Hp} : Same (hid p H) H := fun b o e => by
  by_cases hb : b = p
  · subst hb
    have z : (none : Option HO) = some o := (if_pos rfl).symm.trans e
    cases z
  · rw [hid_ne hb] at e
    exact e
theorem same_upd {H : Hp} {q : Addr} {o : HO} (h : H q = none) : Same H (upd H q o) := fun b u e => by
  rw [upd_ne (ne_of_none e h)]
  exact e
def Dice (p : Addr) (H : Hp) : Prop := ∃ a b c, H p = some (dk a b c)
theorem Dice.same {p : Addr} {H H' : Hp} (h : Dice p H) (e : Same H H') : Dice p H' := by
  obtain ⟨a, b, c, z⟩ := h
  exact ⟨a, b, c, e _ _ z⟩
theorem Dice.ne {p q : Addr} {H : Hp} (h : Dice p H) (n : H q = none) : q ≠ p := by
  obtain ⟨a, b, c, z⟩ := h
  exact (ne_of_none z n).symm
theorem DvAll.length {K : PySem.W.Frag} {H : Hp} : ∀ {xs : List V} {ds : List PyData}, DvAll K H xs ds → xs.length = ds.length
  | _, [], h => by cases h; rfl
  | _, d :: ds, h => by cases h with | cons h1 h2 => rw [List.length_cons, List.length_cons, DvAll.length h2]
theorem DvAll.get {K : PySem.W.Frag} {H : Hp} : ∀ {ds : List PyData} {xs : List V} {i : Nat} {x : V}, DvAll K H xs ds → xs[i]? = some x → ∃ d, ds[i]? = some d ∧ Dv K H x d
  | [], _, i, x, h, e => by cases h; simp at e
  | d :: ds, _, 0, x, h, e => by cases h with | cons h1 h2 => simp at e; subst e; exact ⟨d, rfl, h1⟩
  | d :: ds, _, i + 1, x, h, e => by cases h with | cons h1 h2 => exact DvAll.get (i := i) h2 (by simpa using e)
theorem DvAll.append {K : PySem.W.Frag} {H : Hp} : ∀ {ds es : List PyData} {xs ys : List V}, DvAll K H xs ds → DvAll K H ys es → DvAll K H (xs ++ ys) (ds ++ es)
  | [], _, _, _, h, g => by cases h; exact g
  | d :: ds, _, _, _, h, g => by cases h with | cons h1 h2 => exact .cons h1 (DvAll.append h2 g)
section
variable {K : PySem.W.Frag} {p : Addr} {σ : L2.St}
def Ev1 (K : PySem.W.Frag) (p : Addr) (σ : L2.St) (te : TE) (d : PyData) : Prop := ∀ H Q, Dice p H → (∀ x H', Same H H' → Dv K (hid p H') x d → Q x H') → te σ H Q
def EvN (K : PySem.W.Frag) (p : Addr) (σ : L2.St) (ta : TA) (ds : List PyData) : Prop := ∀ H Q, Dice p H → (∀ xs H', Same H H' → DvAll K (hid p H') xs ds → Q xs H') → ta σ H Q
theorem ev_non : Ev1 K p σ (tC .non) .none := fun H Q _ q => q _ H (Same.refl H) .non
theorem ev_bl {b : Bool} : Ev1 K p σ (tC (.bl b)) (.bool b) := fun H Q _ q => q _ H (Same.refl H) (.bl b)
theorem ev_int {i : Int} : Ev1 K p σ (tC (.int i)) (.int i) := fun H Q _ q => q _ H (Same.refl H) (.int i)
theorem ev_str {z : Str} : Ev1 K p σ (tC (.str z)) (.str z) := fun H Q _ q => q _ H (Same.refl H) (.str z)
theorem ev_neg {i : Int} : Ev1 K p σ (tUn (rU fun i => .int (-i)) (tC (.int i))) (.int (-i)) := fun H Q _ q => ⟨i, rfl, q _ H (Same.refl H) (.int _)⟩
theorem ev_pow {i j : Int} (h : PowBits i j) : Ev1 K p σ (tOp (rI PowBits fun i j => .int (i ^ j.toNat)) (tC (.int i)) (tC (.int j))) (.int (i ^ j.toNat)) := fun H Q _ q => ⟨i, j, rfl, rfl, h, q _ H (Same.refl H) (.int _)⟩
theorem ev_rep {z : Str} {n : Int} (h : 2 ≤ n ∧ n ≤ 10000 ∧ 1 ≤ z.length ∧ z.length ≤ 1000) : Ev1 K p σ (tOp rStrMul (tC (.str z)) (tC (.int n))) (.str (rep z n)) := fun H Q _ q => ⟨z, n, rfl, rfl, h.1, h.2.1, h.2.2.1, h.2.2.2, q _ H (Same.refl H) (.str _)⟩
theorem ev_nil : EvN K p σ tNil [] := fun H Q _ q => q _ H (Same.refl H) .nil
theorem ev_cons {te : TE} {ta : TA} {d : PyData} {ds : List PyData} (h : Ev1 K p σ te d) (g : EvN K p σ ta ds) : EvN K p σ (tCons te ta) (d :: ds) := fun H Q D q =>
  h H _ D fun x H1 e1 v1 => g H1 _ (D.same e1) fun xs H2 e2 v2 => q _ H2 (e1.trans e2) (.cons (v1.same (hid_same fun b o _ z => e2 b o z)) v2)
theorem ev_tup {ta : TA} {ds : List PyData} (g : EvN K p σ ta ds) (hl : ds.length ≤ 1000) : Ev1 K p σ (tTup ta) (.tuple ds) := fun H Q D q =>
  g H _ D fun xs H1 e1 v1 => ⟨by rw [v1.length]; exact Nat.le_of_lt (small1000 hl), fun a na => q _ _ (e1.trans (same_upd na)) (.tup (xs := xs) (.of (by rw [hid_ne ((D.same e1).ne na), upd_same])) (v1.same (hid_same fun b o _ z => same_upd na b o z)))⟩
theorem ev_lst {ta : TA} {ds : List PyData} (g : EvN K p σ ta ds) (hl : ds.length ≤ 1000) : Ev1 K p σ (tLst ta) (.list ds) := fun H Q D q =>
  g H _ D fun xs H1 e1 v1 => ⟨by rw [v1.length]; exact Nat.le_of_lt (small1000 hl), fun a na => q _ _ (e1.trans (same_upd na)) (.lst (xs := xs) (.of (by rw [hid_ne ((D.same e1).ne na), upd_same])) (v1.same (hid_same fun b o _ z => same_upd na b o z)))⟩
theorem ev_dict0 : Ev1 K p σ tDNewK (.dict []) := fun H Q D q => fun a na => q _ _ (same_upd na) (.dic (kvs := []) (by rw [hid_ne (D.ne na), upd_same]) rfl .nil)
theorem ev_dict1 {k : Str} {i : Int} : Ev1 K p σ (tDisp [(tC (.str k), tC (.int i))]) (.dict [(.str k, .int i)]) := fun H Q D q => fun a na => by
  refine ⟨upd_same, [(.inr k, .int i)], rfl, (by show 1 ≤ 15; decide), ?_⟩
  rw [upd_upd]
  exact q _ _ (same_upd na) (.dic (kvs := [(.inr k, .int i)]) (by rw [hid_ne (D.ne na), upd_same]; rfl) rfl (.cons (.int i) .nil))
end
end K0
end
/-! ### O1 -/
section
set_option Elab.async false
set_option linter.all false
set_option maxRecDepth 100000
set_option maxHeartbeats 4000000
namespace K0
open PySem PySem.Spec PyProof.Rows L2
def odd1 : List PyData := [.none, .bool true, .bool false, .int (-1), .int (10 ^ Int.toNat 39), .int (10 ^ Int.toNat 40), .int 3, .tuple [], .list [], .dict [], .str "A", .str "a b", .str "\n", .str "z", .tuple [.str "a"], .list [.str "a"], .dict [(.str "a", .int 1)]]
def odd2 : List PyData := [.tuple [.str "b", .str "a"], .tuple [.str "a", .str "a"], .tuple [.str ""], .tuple [.str "ab"], .tuple [.str "a", .int 1], .tuple [.str "a", .none], .str (rep "a" 2001), .tuple [.tuple []], .str "4", .str "!", .str "~"]
def fitB (d : PyData) : Bool := d.showable && (d.leavesShort 60 && (decide (d.bulk ≤ 10000) && decide (d.depth ≤ 7)))
structure Fit7 (d : PyData) : Prop where
  fit : Fit d
  bulk : d.bulk ≤ 10000
  depth : d.depth ≤ 7
theorem fitB_ok {d : PyData} (h : fitB d = true) : Fit7 d := by
  obtain ⟨h1, h⟩ := Bool.and_eq_true_iff.mp h
  obtain ⟨h2, h⟩ := Bool.and_eq_true_iff.mp h
  obtain ⟨h3, h4⟩ := Bool.and_eq_true_iff.mp h
  have h3 := of_decide_eq_true h3
  have h4 := of_decide_eq_true h4
  exact ⟨⟨h1, h2, by omega, by omega⟩, h3, h4⟩
theorem odd_fits {d : PyData} (h : (odd1 ++ odd2).all fitB = true) (m : d ∈ odd1 ++ odd2) : Fit7 d := fitB_ok (List.all_eq_true.mp h d m)
theorem odd_fit : (odd1 ++ odd2).all fitB = true := by decide +kernel
theorem keep_of {p : Addr} {H H' : Hp} (e : Same H H') (a b c : Int) : Keep p H (upd H' p (dk a b c)) := ⟨fun d o n z => by rw [upd_ne n]; exact e _ _ z, a, b, c, upd_same⟩
theorem rd_lst {K : PySem.W.Frag} {p : Addr} {σ : L2.St} {H : Hp} {Q : VK} {ta : TA} {ds : List PyData} (ev : EvN K p σ ta ds) (D0 : Dice p H) (hl : ds.length ≤ 1000) (k : ∀ xs H1 l, Same H H1 → DvAll K (hid p H1) xs ds → H1 l = none → Q (.ref l) (upd H1 l (.lst xs))) : tLst ta σ H Q :=
  ev H _ D0 fun xs H1 e1 v1 => ⟨by rw [v1.length]; exact Nat.le_of_lt (small1000 hl), fun l n => k xs H1 l e1 v1 n⟩
theorem sq_asg {te : TE} {i : Nat} {u : TS} {D : Ends} {σ : L2.St} {H : Hp} (h : te σ H fun x H1 => u D (σ.set i (some x)) H1) : tSeq (tAsg te (gName i)) u D σ H := h
section
variable {P : Program} {w : World} {K : PySem.W.Frag} {mg : Str → Option Value} {base : Heap} {f fO : Addr} {fd fdO : FuncData}
theorem ev_odd1 {p : Addr} {σ : L2.St} : ∃ t, EvN K p σ t odd1 := ⟨_, (ev_cons ev_non (ev_cons ev_bl (ev_cons ev_bl (ev_cons ev_neg (ev_cons (ev_pow ⟨by decide, by decide +kernel⟩) (ev_cons (ev_pow ⟨by decide, by decide +kernel⟩) (ev_cons ev_int (ev_cons (ev_tup ev_nil (by decide)) (ev_cons (ev_lst ev_nil (by decide)) (ev_cons ev_dict0 (ev_cons ev_str (ev_cons ev_str (ev_cons ev_str (ev_cons ev_str (ev_cons (ev_tup (ev_cons ev_str ev_nil) (by decide)) (ev_cons (ev_lst (ev_cons ev_str ev_nil) (by decide)) (ev_cons ev_dict1 ev_nil)))))))))))))))))⟩
end
end K0
end
/-! ### A1 -/
section
set_option Elab.async false
set_option linter.all false
set_option maxRecDepth 100000
set_option maxHeartbeats 4000000
/-! Values by their data: types, signs, texts, numbers; strip of a set of signs leaves nothing just of texts of them. -/
namespace K0
open PySem PySem.Spec PyProof.Rows L2
def dty : PyData → String
  | .none => "NoneType"
  | .bool _ => "bool"
  | .int _ => "int"
  | .str _ => "str"
  | .list _ => "list"
  | .tuple _ => "tuple"
  | .dict _ => "dict"
theorem Dv.ty {K : PySem.W.Frag} {H : Hp} {v : V} {d : PyData} (h : Dv K H v d) : TyX K H v (.type (dty d)) := by
  cases h with
  | non => exact .base .non
  | bl b => exact .base (.bl b)
  | int i => exact .base (.int i)
  | str x => exact .base (.str x)
  | lst h1 h2 =>
    rcases h1 with (h1 | ⟨o, h1⟩) | ⟨o, its, n, h1, c, _⟩
    · exact .base (.lst h1)
    · exact .base (.frz h1)
    · exact .kList h1 c
  | tup h1 h2 =>
    rcases h1 with (h1 | ⟨o, h1⟩) | ⟨o, its, n, h1, c, _⟩
    · exact .base (.tup h1)
    · exact .fTuple h1
    · exact .kTuple h1 c
  | dic h1 h2 h3 => exact .base (.dK h1)
def isStrD : PyData → Bool
  | .str _ => true
  | _ => false
def isIntD : PyData → Bool
  | .int _ => true
  | .bool _ => true
  | _ => false
def isBoolD : PyData → Bool
  | .bool _ => true
  | _ => false
def isTupD : PyData → Bool
  | .tuple _ => true
  | _ => false
section
variable {K : PySem.W.Frag}
theorem kit_str (d : PyData) : PySem.W.kitOne K (.type (dty d)) (.type "str") = some (isStrD d) := by cases d <;> (dsimp only [dty, isStrD, isIntD, isBoolD, isTupD]; exact kit_ty (by decide +kernel))
theorem kit_int (d : PyData) : PySem.W.kitOne K (.type (dty d)) (.type "int") = some (isIntD d) := by cases d <;> (dsimp only [dty, isStrD, isIntD, isBoolD, isTupD]; exact kit_ty (by decide +kernel))
theorem kit_bool (d : PyData) : PySem.W.kitOne K (.type (dty d)) (.type "bool") = some (isBoolD d) := by cases d <;> (dsimp only [dty, isStrD, isIntD, isBoolD, isTupD]; exact kit_ty (by decide +kernel))
theorem kit_tup (d : PyData) : PySem.W.kitOne K (.type (dty d)) (.type "tuple") = some (isTupD d) := by cases d <;> (dsimp only [dty, isStrD, isIntD, isBoolD, isTupD]; exact kit_ty (by decide +kernel))
/-- isinstance(v, T) of a value that is data -/
theorem rd_isi {H : Hp} {Q : VK} {v : V} {d : PyData} {n : String} {b : Bool} (h : Dv K H v d) (k : PySem.W.kitOne K (.type (dty d)) (.type n) = some b) (q : Q (.bl b) H) : rIsi K [v, .ty n] H Q := ⟨v, .ty n, _, _, b, rfl, .ty n, h.ty, k, q⟩
end
/-! ### strip -/
theorem takeWhile_all {g : Nat → Bool} : ∀ {l : List Nat}, l.all g = true → l.takeWhile g = l
  | [], _ => rfl
  | c :: l, h => by
    rw [List.all_cons, Bool.and_eq_true] at h
    rw [List.takeWhile_cons_of_pos h.1, takeWhile_all h.2]
theorem takeWhile_len {g : Nat → Bool} : ∀ (l : List Nat), (l.takeWhile g).length ≤ l.length
  | [] => Nat.le_refl _
  | c :: l => by
    by_cases h : g c = true
    · rw [List.takeWhile_cons_of_pos h]
      exact Nat.succ_le_succ (takeWhile_len l)
    · rw [List.takeWhile_cons_of_neg h]
      exact Nat.zero_le _
theorem takeWhile_full {g : Nat → Bool} : ∀ {l : List Nat}, (l.takeWhile g).length = l.length → l.all g = true
  | [], _ => rfl
  | c :: l, h => by
    by_cases z : g c = true
    · rw [List.takeWhile_cons_of_pos z, List.length_cons, List.length_cons] at h
      rw [List.all_cons, z, Bool.true_and]
      exact takeWhile_full (by omega)
    · rw [List.takeWhile_cons_of_neg z] at h
      simp at h
theorem drop_takeWhile {g : Nat → Bool} : ∀ (l : List Nat), l.drop (l.takeWhile g).length = [] ∨ ∃ c r, l.drop (l.takeWhile g).length = c :: r ∧ g c = false
  | [] => .inl rfl
  | c :: l => by
    by_cases h : g c = true
    · rw [List.takeWhile_cons_of_pos h]
      exact drop_takeWhile l
    · rw [List.takeWhile_cons_of_neg h]
      exact .inr ⟨c, l, rfl, by simpa using h⟩
theorem strSub_len (x : Str) (i j : Nat) : (Builtin.Str.strSub x i j).length = min j x.length - i := by
  show (x.cps.extract i j).size = _
  rw [Array.size_extract]
  rfl
theorem str_nil {x : Str} : x = ("" : Str) ↔ x.length = 0 := by
  constructor
  · rintro rfl
    rfl
  · intro h
    obtain ⟨a⟩ := x
    have z : a = #[] := Array.eq_empty_of_size_eq_zero h
    rw [z]
    rfl
theorem strip_len (x y : Str) : (Txt.stripChars x y).length = 0 ↔ x.cps.toList.all (fun c => y.cps.contains c) = true := by
  have e : Txt.stripChars x y = PySem.W.stripped (fun c => y.cps.contains c) true true x := by
    rw [Txt.stripChars, stripBy_eq]
    rfl
  rw [e]
  unfold PySem.W.stripped
  simp only [if_true]
  rw [strSub_len]
  generalize hg : (fun c => y.cps.contains c) = g
  have hl : x.length = x.cps.toList.length := by
    show x.cps.size = _
    simp
  have h1 := takeWhile_len (g := g) x.cps.toList
  have h2 := takeWhile_len (g := g) (x.cps.toList.drop (x.cps.toList.takeWhile g).length).reverse
  rw [List.length_reverse, List.length_drop] at h2
  constructor
  · intro h
    refine takeWhile_full (g := g) ?_
    rcases drop_takeWhile (g := g) x.cps.toList with z | ⟨c, r, z, hc⟩
    · have z2 := congrArg List.length z
      rw [List.length_drop, List.length_nil] at z2
      omega
    · have z3 : (((x.cps.toList.drop (x.cps.toList.takeWhile g).length).reverse).takeWhile g).length < (x.cps.toList.drop (x.cps.toList.takeWhile g).length).length := by
        refine Nat.lt_of_le_of_ne (by rw [List.length_drop]; exact h2) fun w => ?_
        have w2 := takeWhile_full (g := g) (l := (x.cps.toList.drop (x.cps.toList.takeWhile g).length).reverse) (by rw [List.length_reverse]; exact w)
        rw [z, List.reverse_cons, List.all_append, Bool.and_eq_true] at w2
        have w3 := w2.2
        rw [List.all_cons, hc] at w3
        cases w3
      rw [List.length_drop] at z3
      omega
  · intro h
    rw [takeWhile_all h, List.drop_length]
    simp [hl]
end K0
end
/-! ### A2 -/
section
set_option Elab.async false
set_option linter.all false
set_option maxRecDepth 100000
set_option maxHeartbeats 4000000
/-! is_number, is_sign, is_text, and the same told sign by sign. -/
namespace K0
open PySem PySem.Spec PyProof.Rows L2
def sgAll (z : Str) : Bool := z.cps.toList.all fun c => allSigns.cps.contains c
def isTextD : PyData → Bool
  | .str z => sgAll z
  | _ => false
def isSignD : PyData → Bool
  | .str z => decide (z.length = 1) && sgAll z
  | _ => false
def isNumD (lo hi : Int) : PyData → Bool
  | .int i => decide (lo ≤ i) && decide (i ≤ hi)
  | _ => false
theorem sg_mem (c : Nat) : allSigns.cps.contains c = decide (c ∈ allSigns.cps.toList) := by
  rw [Array.contains_eq_mem]
  exact decide_eq_decide.mpr Array.mem_toList_iff.symm
theorem one_cp {z : Str} (h : z.length = 1) : ∃ c, z = ⟨#[c]⟩ := by
  obtain ⟨⟨l⟩⟩ := z
  match l, h with
  | [c], _ => exact ⟨c, rfl⟩
theorem not_str {d : PyData} (h : ¬ isStrD d = true) : isTextD d = false ∧ isSignD d = false := by
  cases d <;> first | exact ⟨rfl, rfl⟩ | exact absurd rfl h
theorem is_str {K : PySem.W.Frag} {H : Hp} {v : V} {d : PyData} (hd : Dv K H v d) (h : isStrD d = true) : ∃ z, v = .str z ∧ d = .str z := by
  cases hd <;> first | exact ⟨_, rfl, rfl⟩ | cases h
theorem scText : FnScope ["value"] ["value"] (defScope (top iIsText)) := ⟨rfl, rfl, rfl, by decide +kernel, rfl, by decide +kernel, by decide +kernel⟩
def spNum (K : PySem.W.Frag) : Sp := fun vs H Q _ => ∃ (v : V) (d : PyData) (lo hi : Int), vs = [v, .int lo, .int hi] ∧ Dv K H v d ∧ Q (.bl (isNumD lo hi d)) H
/-- a bool that hangs on the value's data; what is told is that f of it; texts are short enough -/
def spD (K : PySem.W.Frag) (f : PyData → Bool) : Sp := fun vs H Q _ => ∃ (v : V) (d : PyData), vs = [v] ∧ Dv K H v d ∧ d.bulk ≤ 100000 ∧ ∀ H', Same H H' → Q (.bl (f d)) H'
theorem small5 {n : Nat} (h : n ≤ 100000) : n < sizeLine := by rw [sizeLine_eq]; omega
section
variable {P : Program} {w : World} {K : PySem.W.Frag} {mg : Str → Option Value} {base : Heap} {f : Addr} {fd : FuncData}
theorem ok_text {k : Nat} (F : FnP K "is_text" iIsText f fd) (misi : mg "isinstance" = none) (mstr : mg "str" = none) (ms : ∃ t, mg "SIGNS" = some (.str allSigns t)) : FnOk P w K mg base CX0 (k + 1) f fd ["value"] (spD K isTextD) := by
  refine F.ok scText (fun vs H Q E h => ?_) (fun cdv A outer s H vs Q E hr h => ?_)
  · obtain ⟨v, d, rfl, _⟩ := h
    rfl
  · obtain ⟨v, d, rfl, hd, sz, q⟩ := h
    obtain ⟨t, ms⟩ := ms
    refine ⟨_, PSs.nox (pss_one (ps_ret (pe_and (pe_callB call_isi (by rfl) misi boot_isinstance (pa_cons (pv 0) (pa_cons (pe_bltn (v := .ty "str") (by rfl) mstr (by decide +kernel) rfl) pa_nil)))
      (pe_one (pe_cmpR op_eq (pe_bm PySem.F.plainAttrs_str PySem.F.slot_str_strip PySem.F.type_str_strip mt_stripChars (pv 0) (pa_cons (pe_glob (v := .str allSigns) (by rfl) ms ⟨t, rfl⟩) pa_nil)) pe_str (nomark _)))))), ?_⟩
    refine ⟨_, rfl, v, _, _, _, _, rfl, .ty _, hd.ty, kit_str d, _, rfl, ite2 (fun e => ?_) (fun e => ?_)⟩
    · obtain ⟨z, rfl, rfl⟩ := is_str hd e
      refine ⟨_, rfl, rfl, z, allSigns, rfl, rfl, Nat.le_of_lt (small5 sz), rfl, ?_⟩
      have y : isTextD (.str z) = decide (V.str (Txt.stripChars z allSigns) = V.str ("" : Str)) := by
        have x := (strip_len z allSigns)
        by_cases u : (Txt.stripChars z allSigns).length = 0
        · rw [decide_eq_true (by rw [str_nil.mpr u])]
          exact x.mp u
        · rw [decide_eq_false (fun w => u (by injection w with w; exact str_nil.mp w))]
          exact Bool.eq_false_iff.mpr fun w => u (x.mpr w)
      have q2 := q H (Same.refl H)
      rw [y] at q2
      exact q2
    · have q2 := q H (Same.refl H)
      rw [(not_str e).1] at q2
      exact q2
end
end K0
end
/-! ### A5 -/
section
set_option Elab.async false
set_option linter.all false
set_option maxRecDepth 100000
set_option maxHeartbeats 4000000
/-! list(text); items in a drawn order. -/
namespace K0
open PySem PySem.Spec PyProof.Rows L2
def signsV (z : Str) : List V := z.cps.toList.map fun c => V.str ⟨#[c]⟩
theorem signs_vals {z : Str} {acc : Array Value} (h : ItemsOf (SignAt z) acc z.cps.size) : Vals (signsV z) acc.toList := by
  obtain ⟨h1, h2⟩ := h
  have go : ∀ (l : List Nat) (us : List Value), us.length = l.length → (∀ (j : Nat) (v : Value), us[j]? = some v → ∃ (c : Nat) (u : Tok), l[j]? = some c ∧ v = Value.str ⟨#[c]⟩ u) → Vals (l.map fun c => V.str ⟨#[c]⟩) us := by
    intro l
    induction l with
    | nil =>
      intro us e _
      rw [List.eq_nil_of_length_eq_zero e]
      exact .nil
    | cons c l ih =>
      intro us e f
      cases us with
      | nil => cases e
      | cons u us =>
        obtain ⟨c', t, e1, e2⟩ := f 0 u rfl
        cases e1
        refine .cons ⟨t, e2⟩ (ih us (by simpa using e) fun j v z => ?_)
        exact f (j + 1) v z
  refine go _ _ (by simpa using h1) fun j v e => ?_
  obtain ⟨c, u, e1, e2⟩ := h2 j v (by simpa using e)
  exact ⟨c, u, by simpa using e1, e2⟩
section
variable {X : Cx}
theorem call_list_txt (hc : X.calm = true) : CallR X (.type "list") (fun xs H Q => ∃ z, xs = [.str z] ∧ z.length ≤ sizeLine ∧ ∀ l, H l = none → Q (.ref l) (upd H l (.lst (signsV z)))) := by
  intro pins s σ H xs us Q I r h
  obtain ⟨z, rfl, hz, q⟩ := h
  obtain ⟨u, rfl, t, rfl⟩ := vals1 r
  refine call_list_str (I.ok.hd hc) z t (fun h' tk acc c kp e it => ?_) hz
  refine ⟨.ref s.heap.objs.size, _, I.laid (t' := tk) kp (Nat.le_refl _) (show ObjOk X.prog X.w _ h' _ (.lst (signsV z)) from ⟨?_, acc.toList, c, signs_vals it, e⟩), rfl, q _ (I.hok.fresh (Nat.le_refl _))⟩
  show (signsV z).length ≤ sizeLine
  unfold signsV
  rw [List.length_map]
  exact hz
end
theorem mr_popAt {X : Cx} : MtR X "list.pop" rPopAt := mt_popAt
def rLenS (K : PySem.W.Frag) : List V → Hp → VK → Prop := fun xs H Q => ∃ p ys, xs = [.ref p] ∧ (SqL K H p ys ∨ SqT K H p ys) ∧ Q (.int ys.length) H
/-- within a comprehension, where the written part must be named -/
theorem call_lenK {X : Cx} (K : PySem.W.Frag) (e : X.K = K) : CallR X (.builtin "len") (rLenS K) := by
  subst e
  exact call_len_seq
theorem pe_asK {X : Cx} {e : Expr} {T : String} {r : V → List V → Hp → VK → Prop} {to : TE} {t : TA} (K : PySem.W.Frag) (hK : X.K = K) (h : PE X e (tBM X.K T r to t)) : PE X e (tBM K T r to t) := hK ▸ h
theorem taken_perm {α : Type} : ∀ {l : List α} {i : Nat} {y : α}, l[i]? = some y → (y :: l.eraseIdx i).Perm l
  | x :: l, 0, y, h => by
    cases h
    exact List.Perm.refl _
  | x :: l, i + 1, y, h => by
    have z := taken_perm (l := l) (i := i) (y := y) (by simpa using h)
    exact (List.Perm.swap x y _).trans (z.cons x)
theorem scMixed : FnScope ["dice", "items", "left", "turn"] ["dice", "items"] (defScope (top iMixed)) := ⟨rfl, rfl, rfl, by decide +kernel, rfl, by decide +kernel, by decide +kernel⟩
def spMixed (K : PySem.W.Frag) : Sp := fun vs H Q _ => ∃ (p : Addr) (a b c : Int) (q : Addr) (xs : List V), vs = [.ref p, .ref q] ∧ H p = some (dk a b c) ∧ SqL K H q xs ∧ xs.length ≤ 1000 ∧ ∀ H' l ys, Keep p H H' → ys.Perm xs → H' l = some (.lst ys) → l ≠ p → Q (.ref l) H'
section
variable {P : Program} {w : World} {K : PySem.W.Frag} {mg : Str → Option Value} {base : Heap} {f fR : Addr} {fd fdR : FuncData}
theorem ok_mixed {k : Nat} (F : FnP K "_law_mixed" iMixed f fd) (mlist : mg "list" = none) (mlen : mg "len" = none) (mrange : mg "range" = none)
    (FR : FnOk P w K mg base CX0 (k + 1) fR fdR ["dice", "total"] spRoll) (gR : mg "_law_roll" = some (.ref fR)) (kR : PySem.W.keepIn K (.ref fR) = true) (bR : Binds K fdR ["dice", "total"] []) : FnOk P w K mg base CX0 (k + 2) f fd ["dice", "items"] (spMixed K) := by
  refine F.ok scMixed (fun vs H Q E h => ?_) (fun cdv A outer s H vs Q E hr h => ?_)
  · obtain ⟨p, a, b, c, q, xs, rfl, _⟩ := h
    rfl
  · obtain ⟨p, a, b, c, ad, xs, rfl, hp, hS, hz, q⟩ := h
    refine ⟨_, PSs.nox (pss_cons (ps_set (i := 2) scMixed.nd rfl (.inr rfl) (pe_callTy call_list_of (by rfl) mlist (by decide +kernel) (pa_cons (pv 1) pa_nil)))
      (pss_one (ps_ret (pe_lc (own := [("turn", 3)]) (g := gName 3) (tt := tYes) rfl scMixed.nd (pi_range1 (by rfl) mrange (pa_cons (pe_callB call_len_seq (by rfl) mlen PySem.boot_len (pa_cons (pv 1) pa_nil)) pa_nil)) (blkOk_by (N := ["dice", "items", "left", "turn"]) (sc := defScope (top iMixed)) (by decide +kernel))
        (fun _ _ _ _ _ => pg_name (i := 3) scMixed.nd rfl (Or.inl rfl)) (fun _ _ _ _ _ => pts_nil) (fun _ _ _ _ _ => pe_asK K rfl (pe_bm PySem.F.plainAttrs_list PySem.F.slot_list_pop PySem.F.type_list_pop mr_popAt (pv 2) (pa_cons (pe_call FR hr (by rfl) gR kR bR .nil pass0 (pa_cons (pv 0) (pa_cons (pe_callB (call_lenK K rfl) (by rfl) mlen PySem.boot_len (pa_cons (pv 2) pa_nil)) pa_nil))) pa_nil))))))), ?_⟩
    refine ⟨_, rfl, ad, xs, rfl, .inl hS, fun L nL => ?_⟩
    have k1 : Keep p H (upd H L (.lst xs)) := .new hp nL
    have s1 : Same H (upd H L (.lst xs)) := same_upd nL
    have nLp : L ≠ p := (ne_of_none hp nL).symm
    have e62 : (2 : Int) ^ 62 = 4611686018427387904 := by decide
    refine ⟨_, rfl, ad, xs, rfl, .inl (s1.seq hS), _, rfl, by omega, by omega, fun D nD => lc_range (lo := 0) (n := xs.length) (fun m H' => Keep p H H' ∧ D ≠ L ∧ D ≠ p ∧ ∃ rest got, H' L = some (.lst rest) ∧ H' D = some (.lst got) ∧ got.length = m ∧ (got ++ rest).Perm xs) ⟨k1.new2 nD, fun z => ?_, fun z => ?_, xs, [], ?_, upd_same, rfl, .refl _⟩ (fun m H' hm hP => ?_) (fun H' hP => ?_)⟩
    · rw [z, upd_same] at nD
      cases nD
    · rw [z, upd_ne nLp.symm, hp] at nD
      cases nD
    · exact same_upd nD _ _ upd_same
    · obtain ⟨kk, nDL, nDp, rest, got, hL, hD, hg, pm⟩ := hP
      obtain ⟨a1, b1, c1, hp1⟩ := kk.2
      have len := pm.length_eq
      rw [List.length_append] at len
      have r0 : 0 < rest.length := by omega
      refine ⟨rfl, _, rfl, .inl ⟨rfl, _, .of hL⟩, _, rfl, _, rfl, L, rest, rfl, .inl (.of hL), p, a1, b1, c1, rest.length, rfl, hp1, len_div r0 (Nat.le_of_lt (small1000 (by omega))), fun a2 b2 c2 r h0 h1 => ?_⟩
      · have hr2 : r.toNat < rest.length := by omega
        have hy : rest[r.toNat]? = some rest[r.toNat] := List.getElem?_eq_getElem hr2
        have e63 : (2 : Int) ^ 63 = 9223372036854775808 := by decide
        have hL2 : upd H' p (dk a2 b2 c2) L = some (.lst rest) := by rw [upd_ne nLp]; exact hL
        refine ⟨L, rest, r, r.toNat, _, rfl, rfl, hL2, by omega, by omega, seqIndex_of h0 h1, hy, got, ?_, by rw [hg]; exact small1000 (by omega), ?_, nDL, nDp, rest.eraseIdx r.toNat, got ++ [rest[r.toNat]], ?_, upd_same, ?_, ?_⟩
        · rw [upd_ne nDL, upd_ne nDp]
          exact hD
        · refine ⟨fun y o n z => ?_, a2, b2, c2, ?_⟩
          · rw [upd_ne (ne_of_none (k1.1 y o n (by exact z)) nD), upd_ne (ne_of_none z nL), upd_ne n]
            exact kk.1 y o n z
          · rw [upd_ne nDp.symm, upd_ne nLp.symm, upd_same]
        · rw [upd_ne nDL.symm, upd_same]
        · rw [List.length_append, hg]
          rfl
        · rw [List.append_assoc]
          exact ((taken_perm hy).append_left got).trans pm
    · obtain ⟨kk, nDL, nDp, rest, got, hL, hD, hg, pm⟩ := hP
      have len := pm.length_eq
      rw [List.length_append] at len
      have e0 : rest = [] := List.eq_nil_of_length_eq_zero (by omega)
      rw [e0, List.append_nil] at pm
      exact q H' D got kk pm hD nDp
end
end K0
end
/-! ### A5b -/
section
set_option Elab.async false
set_option linter.all false
set_option maxRecDepth 100000
set_option maxHeartbeats 4000000
/-! Tuples that are known to stand as they were made: tuple(list), displays. -/
namespace K0
open PySem PySem.Spec PyProof.Rows L2
/-- a tuple that stands as it was made -/
def FrT (H : Hp) (t : Addr) (xs : List V) : Prop := ∃ o : Obj, H t = some (.frz o (.tup xs)) ∧ o.cls = .type "tuple" ∧ o.dict = none
theorem FrT.sq {K : PySem.W.Frag} {H : Hp} {t : Addr} {xs : List V} (h : FrT H t xs) : SqT K H t xs := let ⟨o, e, _⟩ := h; .inl (.inr ⟨o, e⟩)
theorem FrT.same {H H' : Hp} {t : Addr} {xs : List V} (h : FrT H t xs) (s : Same H H') : FrT H' t xs := let ⟨o, e, z⟩ := h; ⟨o, s _ _ e, z⟩
/-- what a fresh address holds behind a tuple's making -/
def frzT (us : List Value) (xs : List V) : HO := .frz { cls := .type "tuple", data := .seq us.toArray } (.tup xs)
theorem frzT_at {H : Hp} {t : Addr} {us : List Value} {xs : List V} : FrT (upd H t (frzT us xs)) t xs := ⟨_, upd_same, rfl, rfl⟩
section
variable {X : Cx}
theorem call_tuple_frz : CallR X (.type "tuple") (fun xs H Q => ∃ p ys, xs = [.ref p] ∧ SqL X.K H p ys ∧ ∀ t us, H t = none → Q (.ref t) (upd H t (frzT us ys))) := by
  intro pins s σ H xs us Q I r h
  obtain ⟨p, ys, rfl, hq, q⟩ := h
  obtain ⟨u, rfl, rx⟩ := vals1 r
  cases rx
  obtain ⟨its, r', pl, hz⟩ := I.list hq
  have size := r'.length
  refine call_tuple_list pl.isList (fun h' kp => ?_) (by simp only [List.size_toArray] <;> omega)
  have J : Inv X pins σ H { s with heap := h' } := I.kept (t' := s.toks) kp
  refine ⟨.ref h'.objs.size, _, J.laid (t' := s.toks) (fun b o e => Heap.get?_push_of_some _ e) (Nat.le_refl _) (show ObjOk X.prog X.w _ _ _ (frzT its ys) from ⟨Heap.get?_push_size _ rfl, hz, its, r', IsTup.new _ _⟩), rfl, q _ its (J.hok.fresh (Nat.le_refl _))⟩
def tTupF (t : TA) : TE := fun σ H Q => t σ H fun xs H1 => xs.length ≤ sizeLine ∧ ∀ a us, H1 a = none → Q (.ref a) (upd H1 a (frzT us xs))
theorem pe_tupF {es : List Expr} {k : Nat} {pos : Pos} {t : TA} (h : PA X es t) : PE X (.Tuple es k pos) (tTupF t) := by
  refine ⟨fun pins s σ H Q I hq => wpAny_Tuple_spliced (thn (h.run pos pins s σ H _ I hq) fun us s1 ⟨xs, H1, J, r, z, q⟩ => ⟨by rw [← r.length]; exact z, ?_⟩)⟩
  refine ⟨.ref s1.heap.objs.size, _, J.laid (t' := s1.toks) (fun b u e => Heap.get?_push_of_some _ e) (Nat.le_refl _) (show ObjOk X.prog X.w _ _ _ (frzT us xs) from ⟨Heap.get?_push_size _ rfl, z, us, r, ⟨_, Heap.get?_push_size _ rfl, rfl, _, rfl⟩⟩), rfl, q _ us (J.hok.fresh (Nat.le_refl _))⟩
end
end K0
end
/-! ### A6 -/
section
set_option Elab.async false
set_option linter.all false
set_option maxRecDepth 100000
set_option maxHeartbeats 4000000
/-! Drawn ascending signs. -/
namespace K0
open PySem PySem.Spec PyProof.Rows L2
def oneS (c : Nat) : Str := ⟨#[c]⟩
def oneV (c : Nat) : V := V.str (oneS c)
def codeS (z : Str) : Nat := z.cps.getD 0 0
def codeV : V → Nat
  | .str z => codeS z
  | _ => 0
theorem perm_codes {α : Type} {f : Nat → α} {g : α → Nat} (gf : ∀ c, g (f c) = c) {ys : List α} {l : List Nat} (h : ys.Perm (l.map f)) : ∃ cs : List Nat, cs.Perm l ∧ ys = cs.map f := by
  refine ⟨ys.map g, ?_, ?_⟩
  · have z := h.map g
    rw [List.map_map, show (g ∘ f) = id from funext gf, List.map_id] at z
    exact z
  · rw [List.map_map]
    have : ∀ y ∈ ys, (f ∘ g) y = y := fun y hy => by
      obtain ⟨c, _, rfl⟩ := List.mem_map.mp (h.mem_iff.mp hy)
      show f (g (f c)) = f c
      rw [gf]
    exact ((List.map_congr_left (g := id) this).trans (List.map_id ys)).symm
theorem rising_pw : ∀ (r : List Nat) (c : Nat), risingS (oneS c) (r.map oneS) = true → (c :: r).Pairwise (· ≤ ·)
  | [], c, _ => by simp
  | d :: r, c, h => by
    rw [List.map_cons, risingS, Bool.and_eq_true] at h
    obtain ⟨h1, h2⟩ := h
    have cd : c ≤ d := by
      have y : ltCps (oneS d).cps.toList (oneS c).cps.toList = false := by simpa using h1
      have z : ltCps [d] [c] = false := y
      simp [ltCps] at z
      exact z
    have pw := rising_pw r d h2
    refine List.pairwise_cons.mpr ⟨fun e he => ?_, pw⟩
    rcases List.mem_cons.mp he with rfl | he
    · exact cd
    · exact Nat.le_trans cd ((List.pairwise_cons.mp pw).1 e he)
theorem sorted_pw {cs : List Nat} (h : sortedS (cs.map oneS) = true) (nd : cs.Nodup) : cs.Pairwise (· < ·) := by
  have le : cs.Pairwise (· ≤ ·) := by
    cases cs with
    | nil => simp
    | cons c r => exact rising_pw r c h
  exact (le.and nd).imp fun z => Nat.lt_of_le_of_ne z.1 z.2
def someSigns : Str := "$:_ab"
theorem cutV_take (xs : List V) (i : Int) : cutV xs none (some i) = xs.take (HT.sIx xs.length xs.length (some i)) := by
  unfold cutV
  rw [HT.sIx_none, List.drop_zero, Nat.sub_zero]
theorem pools : ∀ z, (z = someSigns ∨ z = allSigns) → z.length ≤ 15 ∧ z.cps.toList ≠ [] ∧ z.cps.toList.Nodup ∧ ∀ c ∈ z.cps.toList, c ∈ allSigns.cps.toList := by
  rintro z (rfl | rfl)
  · exact ⟨by decide +kernel, by decide +kernel, by decide +kernel, by decide +kernel⟩
  · exact ⟨by decide +kernel, by decide +kernel, by decide +kernel, fun _ h => h⟩
theorem scLSigns : FnScope ["dice", "upto", "pool", "size"] ["dice", "upto"] (defScope (top iSigns)) := ⟨rfl, rfl, rfl, by decide +kernel, rfl, by decide +kernel, by decide +kernel⟩
def spSigns : Sp := fun vs H Q _ => ∃ (p : Addr) (a b c up : Int), vs = [.ref p, .int up] ∧ H p = some (dk a b c) ∧ 1 ≤ up ∧ up ≤ 15 ∧
  ∀ H' t (cs : List Nat), Keep p H H' → FrT H' t (cs.map oneV) → cs.Pairwise (· < ·) → cs ≠ [] → (∀ c ∈ cs, c ∈ allSigns.cps.toList) → (cs.length : Int) ≤ up → Q (.ref t) H'
section
variable {P : Program} {w : World} {K : PySem.W.Frag} {mg : Str → Option Value} {base : Heap} {f fR fA fM : Addr} {fd fdR fdA fdM : FuncData}
theorem ok_lsigns {k : Nat} (F : FnP K "_law_signs" iSigns f fd) (mlist : mg "list" = none) (mtuple : mg "tuple" = none) (msorted : mg "sorted" = none)
    (FR : FnOk P w K mg base CX0 (k + 2) fR fdR ["dice", "total"] spRoll) (gR : mg "_law_roll" = some (.ref fR)) (kR : PySem.W.keepIn K (.ref fR) = true) (bR : Binds K fdR ["dice", "total"] [])
    (FA : FnOk P w K mg base CX0 (k + 2) fA fdA [] spAll) (gA : mg "_law_all_signs" = some (.ref fA)) (kA : PySem.W.keepIn K (.ref fA) = true) (bA : Binds K fdA [] [])
    (FM : FnOk P w K mg base CX0 (k + 2) fM fdM ["dice", "items"] (spMixed K)) (gM : mg "_law_mixed" = some (.ref fM)) (kM : PySem.W.keepIn K (.ref fM) = true) (bM : Binds K fdM ["dice", "items"] []) :
    FnOk P w K mg base CX0 (k + 3) f fd ["dice", "upto"] spSigns := by
  refine F.ok scLSigns (fun vs H Q E h => ?_) (fun cdv A outer s H vs Q E hr h => ?_)
  · obtain ⟨p, a, b, c, up, rfl, _⟩ := h
    rfl
  · obtain ⟨p, a, b, c, up, rfl, hp, u1, u2, q⟩ := h
    refine ⟨_, PSs.nox (C8.pss_cut (ps_par (i := 2) (j := 3) (by rfl) scLSigns.nd rfl rfl (by decide) rfl rfl (pa_cons (pe_ifExp (PW.pt (pw_and (pt_cmpR op_lt (pv 1) pe_int (nomark _)) (pw_and1 (pt_cmpR op_gt (pe_call FR hr (by rfl) gR kR bR .nil pass0 (pa_cons (pv 0) (pa_cons pe_int pa_nil))) pe_int (nomark _))))) pe_str (pe_call0 FA hr (by rfl) gA kA bA .nil pass0))
          (pa_cons (pe_op op_add pe_int (pe_call FR hr (by rfl) gR kR bR .nil pass0 (pa_cons (pv 0) (pa_cons (pv 1) pa_nil)))) pa_nil)) (by rfl))
      (pss_one (ps_ret (pe_callTy call_tuple_frz (by rfl) mtuple (by decide +kernel) (pa_cons (pe_callB cr_sortedS (by rfl) msorted (by decide +kernel) (pa_cons (pe_slice sl_list (pe_call FM hr (by rfl) gM kM bM .nil pass0 (pa_cons (pv 0) (pa_cons (pe_callTy (call_list_txt rfl) (by rfl) mlist (by decide +kernel) (pa_cons (pv 2) pa_nil)) pa_nil))) po_none (po_some (pv 3))) pa_nil)) pa_nil))))), ?_⟩
    refine ⟨fun σ' H' => ∃ (z : Str) (r : Int), σ' = [some (.ref p), some (.int up), some (.str z), some (.int (1 + r))] ∧ Keep p H H' ∧ (z = someSigns ∨ z = allSigns) ∧ 0 ≤ r ∧ r < up, ?_, ?_⟩
    · have wd : CDivW a up := wide_div (b := 4) (by omega) (by omega) (by decide) (by decide)
      refine ⟨_, rfl, _, _, rfl, rfl, _, rfl, ite2 (fun e1 => ?_) (fun e1 => ?_)⟩
      · refine ⟨_, rfl, p, a, b, c, 4, rfl, hp, wide_div (b := 4) (by decide) (by decide) (by decide) (by decide), fun a1 b1 c1 r1 g0 g1 => ⟨_, _, rfl, rfl, _, rfl, ite2 (fun e2 => ?_) (fun e2 => ?_)⟩⟩
        · have wd : CDivW a1 up := wide_div (b := 4) (by omega) (by omega) (by decide) (by decide)
          exact ⟨_, rfl, _, rfl, p, a1, b1, c1, up, rfl, upd_same, wd, fun a' b' c' r h0 h1 => ⟨_, _, rfl, rfl, _, _, rfl, _, r, rfl, (Keep.dice a1 b1 c1).trans (.dice a' b' c'), .inl rfl, h0, h1⟩⟩
        · have wd : CDivW a1 up := wide_div (b := 4) (by omega) (by omega) (by decide) (by decide)
          refine ⟨rfl, ?_⟩
          exact ⟨_, rfl, _, rfl, p, a1, b1, c1, up, rfl, upd_same, wd, fun a' b' c' r h0 h1 => ⟨_, _, rfl, rfl, _, _, rfl, _, r, rfl, (Keep.dice a1 b1 c1).trans (.dice a' b' c'), .inr rfl, h0, h1⟩⟩
      · refine ⟨rfl, ?_⟩
        exact ⟨_, rfl, _, rfl, p, a, b, c, up, rfl, hp, wd, fun a' b' c' r h0 h1 => ⟨_, _, rfl, rfl, _, _, rfl, _, r, rfl, .dice a' b' c', .inr rfl, h0, h1⟩⟩
    rintro σ1 H1 ⟨z, r, rfl, k1, hz, r0, r1⟩
    obtain ⟨z15, zne, znd, zsg⟩ := pools z hz
    refine ⟨_, rfl, _, rfl, z, rfl, Nat.le_of_lt (small1000 (by omega)), fun l nl => ?_⟩
    have kl : Keep p H (upd H1 l (.lst (signsV z))) := k1.new2 nl
    obtain ⟨a1, b1, c1, hp1⟩ := kl.2
    have zl : z.cps.toList.length = z.length := by
      show _ = z.cps.size
      simp
    refine ⟨p, a1, b1, c1, l, _, rfl, hp1, .of upd_same, by show (z.cps.toList.map _).length ≤ 1000; rw [List.length_map, zl]; omega, fun H2 l2 ys k2 pm e2 ne => ?_⟩
    obtain ⟨cs, pc, rfl⟩ := perm_codes (f := oneV) (g := codeV) (fun c => rfl) (l := z.cps.toList) pm
    have cl := pc.length_eq
    refine ⟨_, rfl, _, rfl, l2, _, rfl, .of e2, fun l3 n3 => ?_⟩
    have kn : ∀ n : Nat, HT.sIx n n (some (1 + r)) = min (1 + r).toNat n := fun n => by
      show (if (1 + r) < 0 then ((1 + r) + (n : Int)).toNat else min (1 + r).toNat n) = min (1 + r).toNat n
      rw [if_neg (by omega)]
    have ec : cutV (cs.map oneV) none (some (1 + r)) = ((cs.take (min (1 + r).toNat cs.length)).map oneS).map V.str := by
      rw [cutV_take, kn, List.length_map, ← List.map_take, List.map_map]
      rfl
    have c0 : 0 < z.cps.toList.length := List.length_pos_iff.mpr zne
    refine ⟨l3, (cs.take (min (1 + r).toNat cs.length)).map oneS, rfl, .of (by rw [upd_same, ec]), by rw [List.length_map, List.length_take]; omega, fun ys2 l4 pm2 so n4 => ?_⟩
    obtain ⟨cs2, pc2, rfl⟩ := perm_codes (f := oneS) (g := codeS) (fun c => rfl) pm2
    have cl2 := pc2.length_eq
    rw [List.length_take] at cl2
    have mem : ∀ c ∈ cs2, c ∈ z.cps.toList := fun c hc => pc.mem_iff.mp (List.mem_of_mem_take (pc2.mem_iff.mp hc))
    have nd : cs2.Nodup := pc2.nodup_iff.mpr ((pc.nodup_iff.mpr znd).sublist (List.take_sublist _ _))
    refine ⟨l4, _, rfl, .of upd_same, fun t us nt => q _ t cs2 ((((kl.trans k2).new2 n3).new2 n4).new2 nt) (by rw [List.map_map]; exact frzT_at) (sorted_pw so nd) (fun e => ?_) (fun c hc => zsg c (mem c hc)) (by omega)⟩
    rw [e, List.length_nil] at cl2
    omega
end
end K0
end
/-! ### RM -/
section
set_option linter.all false
/-! Runs of a hole, and the places in them, in plain Lean. -/
namespace Rd
structure RunD where
  signs : List Nat
  low : Nat
  high : Option Nat
/-- a place and those to which it goes on: rs are the runs from i on -/
def aheadG : List RunD → Nat → Nat → List (Nat × Nat)
  | [], i, c => [(i, c)]
  | r :: rs, i, c => (i, c) :: if r.low ≤ c then aheadG rs (i + 1) 0 else []
def ahead (rs : List RunD) (i c : Nat) : List (Nat × Nat) := aheadG (rs.drop i) i c
def countB (r : RunD) (c : Nat) : Nat := match r.high with
  | none => if c + 1 < r.low then c + 1 else r.low
  | some _ => c + 1
theorem ahead_end {rs : List RunD} {i c : Nat} (h : rs.length ≤ i) : ahead rs i c = [(i, c)] := by
  unfold ahead
  rw [List.drop_eq_nil_of_le h]
  rfl
theorem ahead_go {rs : List RunD} {i c : Nat} {r : RunD} (h : rs[i]? = some r) : ahead rs i c = (i, c) :: if r.low ≤ c then ahead rs (i + 1) 0 else [] := by
  unfold ahead
  obtain ⟨hl, e⟩ := List.getElem?_eq_some_iff.mp h
  rw [List.drop_eq_getElem_cons hl, e]
  rfl
theorem ahead_len (rs : List RunD) : ∀ (n i c : Nat), rs.length - i = n → (ahead rs i c).length ≤ n + 1
  | 0, i, c, h => by
    rw [ahead_end (by omega)]
    exact Nat.le_refl _
  | n + 1, i, c, h => by
    have hi : i < rs.length := by omega
    rw [ahead_go (List.getElem?_eq_getElem hi), List.length_cons]
    split
    · have := ahead_len rs n (i + 1) 0 (by omega)
      omega
    · simp
end Rd
end
/-! ### R1 -/
section
set_option Elab.async false
set_option linter.all false
set_option maxRecDepth 100000
set_option maxHeartbeats 4000000
/-! Runs and pairs on the heap; count_behind, places_ahead. -/
namespace K0
open PySem PySem.Spec PyProof.Rows L2 Rd
theorem none_back {H H' : Hp} {a : Addr} (s : Same H H') (n : H' a = none) : H a = none := by
  cases z : H a with
  | none => rfl
  | some o =>
    have z2 := s _ _ z
    rw [n] at z2
    cases z2
def hiV : Option Nat → V
  | none => .non
  | some n => .int (n : Nat)
def RunAt (K : PySem.W.Frag) (H : Hp) (v : V) (r : RunD) : Prop := ∃ a s, v = .ref a ∧ SqT K H a [.ref s, .int (r.low : Nat), hiV r.high] ∧ SqT K H s (r.signs.map oneV)
def RunsAt (K : PySem.W.Frag) (H : Hp) (a : Addr) (rs : List RunD) : Prop := ∃ vs, SqT K H a vs ∧ Paired (RunAt K H) vs rs
theorem RunAt.same {K : PySem.W.Frag} {H H' : Hp} {v : V} {r : RunD} (h : RunAt K H v r) (s : Same H H') : RunAt K H' v r := by
  obtain ⟨a, b, e, h1, h2⟩ := h
  exact ⟨a, b, e, same_tup s h1, same_tup s h2⟩
theorem pairedI {α β : Type} {F G : α → β → Prop} : ∀ {l : List α} {m : List β}, Paired F l m → (∀ a b, F a b → G a b) → Paired G l m
  | _, _, .nil, _ => .nil
  | _, _, .cons r t, f => .cons (f _ _ r) (pairedI t f)
theorem paired_at {α β : Type} {F : α → β → Prop} : ∀ {l : List α} {m : List β} {i : Nat} {b : β}, Paired F l m → m[i]? = some b → ∃ a, l[i]? = some a ∧ F a b
  | _, _, _, _, .nil, e => by simp at e
  | _, _, 0, _, .cons r t, e => by simp at e; subst e; exact ⟨_, rfl, r⟩
  | _, _, i + 1, _, .cons r t, e => by
    obtain ⟨a, h1, h2⟩ := paired_at (i := i) t (by simpa using e)
    exact ⟨a, by simpa using h1, h2⟩
theorem paired_at' {α β : Type} {F : α → β → Prop} : ∀ {l : List α} {m : List β} {i : Nat} {a : α}, Paired F l m → l[i]? = some a → ∃ b, m[i]? = some b ∧ F a b
  | _, _, _, _, .nil, e => by simp at e
  | _, _, 0, _, .cons r t, e => by simp at e; subst e; exact ⟨_, rfl, r⟩
  | _, _, i + 1, _, .cons r t, e => by
    obtain ⟨a, h1, h2⟩ := paired_at' (i := i) t (by simpa using e)
    exact ⟨a, by simpa using h1, h2⟩
theorem paired_len {α β : Type} {F : α → β → Prop} : ∀ {l : List α} {m : List β}, Paired F l m → l.length = m.length
  | _, _, .nil => rfl
  | _, _, .cons r t => by rw [List.length_cons, List.length_cons, paired_len t]
theorem paired_snoc {α β : Type} {F : α → β → Prop} {a : α} {b : β} (h : F a b) : ∀ {l : List α} {m : List β}, Paired F l m → Paired F (l ++ [a]) (m ++ [b])
  | _, _, .nil => .cons h .nil
  | _, _, .cons r t => .cons r (paired_snoc h t)
theorem paired_app {α β : Type} {F : α → β → Prop} : ∀ {l l' : List α} {m m' : List β}, Paired F l m → Paired F l' m' → Paired F (l ++ l') (m ++ m')
  | _, _, _, _, .nil, h => h
  | _, _, _, _, .cons r t, h => .cons r (paired_app t h)
theorem RunsAt.same {K : PySem.W.Frag} {H H' : Hp} {a : Addr} {rs : List RunD} (h : RunsAt K H a rs) (s : Same H H') : RunsAt K H' a rs := by
  obtain ⟨vs, h1, h2⟩ := h
  exact ⟨vs, same_tup s h1, pairedI h2 fun _ _ z => z.same s⟩
/-- a pair of numbers, a tuple of its own -/
abbrev pairO (p : Nat × Nat) : HO := .tup [.int (p.1 : Nat), .int (p.2 : Nat)]
def PairsAt (H : Hp) (cs : List Addr) (ps : List (Nat × Nat)) : Prop := Paired (fun c p => H c = some (pairO p)) cs ps
theorem PairsAt.same {H H' : Hp} {cs : List Addr} {ps : List (Nat × Nat)} (h : PairsAt H cs ps) (s : Same H H') : PairsAt H' cs ps := pairedI h fun _ _ z => s _ _ z
/-- all but one object stays -/
def But (l : Addr) (H H' : Hp) : Prop := ∀ y o, y ≠ l → H y = some o → H' y = some o
theorem But.pairs {l : Addr} {H H' : Hp} {cs : List Addr} {ps : List (Nat × Nat)} {vs : List V} (e : H l = some (.lst vs)) (h : PairsAt H cs ps) (s : But l H H') : PairsAt H' cs ps :=
  pairedI h fun c p z => s c _ (fun q => by rw [q, e] at z; cases z) z
/-- the number in slot 1 -/
def idxAt (σ : List (Option V)) : Nat := match σ with
  | _ :: some (.int i) :: _ => i.toNat
  | _ => 0
theorem scCount : FnScope ["run", "count", "_", "low", "high"] ["run", "count"] (defScope (top iCount)) := ⟨rfl, rfl, rfl, by decide +kernel, rfl, by decide +kernel, by decide +kernel⟩
def spCount (K : PySem.W.Frag) : Sp := fun vs H Q _ => ∃ (v : V) (r : RunD) (c : Nat), vs = [v, .int (c : Nat)] ∧ RunAt K H v r ∧ Q (.int (countB r c : Nat)) H
theorem scAhead : FnScope ["runs", "run", "count", "places"] ["runs", "run", "count"] (defScope (top iAhead)) := ⟨rfl, rfl, rfl, by decide +kernel, rfl, by decide +kernel, by decide +kernel⟩
def spAhead (K : PySem.W.Frag) : Sp := fun vs H Q _ => ∃ (a : Addr) (rs : List RunD) (i c : Nat), vs = [.ref a, .int (i : Nat), .int (c : Nat)] ∧ RunsAt K H a rs ∧ rs.length ≤ 4 ∧ i ≤ 4 ∧ ∀ H' l cs, Same H H' → H l = none → H' l = some (.lst (cs.map V.ref)) → PairsAt H' cs (ahead rs i c) → Q (.ref l) H'
section
variable {P : Program} {w : World} {K : PySem.W.Frag} {mg : Str → Option Value} {base : Heap} {f : Addr} {fd : FuncData}
theorem ok_count {k : Nat} (F : FnP K "count_behind" iCount f fd) (mmin : mg "min" = none) : FnOk P w K mg base CX0 (k + 1) f fd ["run", "count"] (spCount K) := by
  refine F.ok scCount (fun vs H Q E h => ?_) (fun cdv A outer s H vs Q E hr h => ?_)
  · obtain ⟨v, r, c, rfl, _⟩ := h
    rfl
  · obtain ⟨v, r, c, rfl, ⟨a, sg, rfl, hT, hs⟩, q⟩ := h
    refine ⟨_, PSs.nox (pss_cons (ps_asg (pv 0) (pg_tup rfl (pgs_cons (pg_name (i := 2) scCount.nd rfl (.inl rfl)) (pgs_cons (pg_name (i := 3) scCount.nd rfl (.inl rfl)) (pgs_cons (pg_name (i := 4) scCount.nd rfl (.inl rfl)) pgs_nil)))))
      (pss_one (ps_ret (pe_ifExp (pt_cmp (pc_isN (pv 4))) (pe_callB (call_min2 rfl) (by rfl) mmin (by decide +kernel) (pa_cons (pe_op op_add (pv 1) pe_int) (pa_cons (pv 3) pa_nil))) (pe_op op_add (pv 1) pe_int))))), ?_⟩
    refine ⟨_, rfl, a, _, rfl, hT, rfl, _, _, rfl, _, _, rfl, _, _, rfl, rfl, _, rfl, ?_⟩
    unfold countB at q
    cases e : r.high with
    | none =>
      rw [e] at q
      refine ⟨_, rfl, ite2 (fun _ => ⟨_, rfl, _, _, rfl, rfl, _, rfl, _, _, rfl, ?_⟩) (fun z => absurd rfl z)⟩
      have q : Q (.int ((if c + 1 < r.low then c + 1 else r.low : Nat) : Nat)) H := q
      have e2 : (if (r.low : Int) < (c : Int) + 1 then (r.low : Int) else (c : Int) + 1) = ((if c + 1 < r.low then c + 1 else r.low : Nat) : Int) := by
        by_cases h1 : c + 1 < r.low
        · rw [if_pos h1, if_neg (by omega)]; omega
        · rw [if_neg h1]
          by_cases h2 : (r.low : Int) < (c : Int) + 1
          · rw [if_pos h2]
          · rw [if_neg h2]; omega
      rw [← e2] at q
      exact q
    | some n =>
      rw [e] at q
      refine ⟨_, rfl, ite2 (fun z => by cases of_decide_eq_true z) (fun _ => ⟨_, rfl, _, _, rfl, rfl, ?_⟩)⟩
      have q : Q (.int ((c + 1 : Nat) : Int)) H := q
      show Q (.int ((c : Int) + 1)) H
      rw [show ((c : Nat) : Int) + 1 = ((c + 1 : Nat) : Int) by omega]
      exact q
theorem ok_ahead {k : Nat} (F : FnP K "places_ahead" iAhead f fd) (mlen : mg "len" = none) : FnOk P w K mg base CX0 (k + 1) f fd ["runs", "run", "count"] (spAhead K) := by
  refine F.ok scAhead (fun vs H Q E h => ?_) (fun cdv A outer s H vs Q E hr h => ?_)
  · obtain ⟨a, rs, i, c, rfl, _⟩ := h
    rfl
  · obtain ⟨a, rs, i0, c0, rfl, hR, r4, i4, q⟩ := h
    refine ⟨_, PSs.nox (C8.pss_cut (ps_set (i := 3) scAhead.nd rfl (.inl rfl) (pe_lst (pa_cons (pe_tup (pa_cons (pv 1) (pa_cons (pv 2) pa_nil))) pa_nil)))
      (C8.pss_cut (ps_while PassesOwn.never (PW.pt (pw_and (pt_cmpR op_lt (pv 1) (pe_callB call_len_seq (by rfl) mlen PySem.boot_len (pa_cons (pv 0) pa_nil)) (nomark _)) (pw_and1 (pt_cmpR op_ge (pv 2) (pe_ix ix_tup (pe_ix ix_tup (pv 0) (pv 1) (fun _ _ => rfl)) pe_int (fun _ _ => rfl)) (nomark _)))))
        (pss_cons (ps_set (i := 1) scAhead.nd rfl (.inl rfl) (pe_op op_add (pv 1) pe_int)) (pss_cons (ps_set (i := 2) scAhead.nd rfl (.inl rfl) pe_int)
          (pss_one (ps_expr (pe_bm PySem.F.plainAttrs_list PySem.F.slot_list_append PySem.F.type_list_append mt_append (pv 3) (pa_cons (pe_tup (pa_cons (pv 1) (pa_cons (pv 2) pa_nil))) pa_nil)))))))
      (pss_one (ps_ret (pv 3))))), ?_⟩
    have sm1 : 1 ≤ sizeLine := by decide
    have sm2 : 2 ≤ sizeLine := by decide
    refine ⟨fun σ' H' => ∃ l cs, σ' = [some (.ref a), some (.int (i0 : Nat)), some (.int (c0 : Nat)), some (.ref l)] ∧ Same H H' ∧ H l = none ∧ H' l = some (.lst (cs.map V.ref)) ∧ PairsAt H' cs [(i0, c0)], ?_, ?_⟩
    · refine ⟨_, rfl, _, rfl, sm2, fun b nb => ⟨sm1, fun l nl => ?_⟩⟩
      exact ⟨l, [b], rfl, (same_upd nb).trans (same_upd nl), none_back (same_upd nb) nl, upd_same, .cons (same_upd nl _ _ upd_same) .nil⟩
    rintro σ1 H1 ⟨l, cs, rfl, s1, nl, e1, p1⟩
    obtain ⟨vs, hT, hP⟩ := hR
    have vl := paired_len hP
    refine ⟨fun σ' H' => ∃ x1 x2 cs, σ' = [some (.ref a), x1, x2, some (.ref l)] ∧ Same H H' ∧ H' l = some (.lst (cs.map V.ref)) ∧ PairsAt H' cs (ahead rs i0 c0), ?_, ?_⟩
    · refine while_by (fun σ' H' => ∃ (i c : Nat) (cs : List Addr) (done : List (Nat × Nat)), σ' = [some (.ref a), some (.int (i : Nat)), some (.int (c : Nat)), some (.ref l)] ∧ Same H H' ∧ H' l = some (.lst (cs.map V.ref)) ∧ PairsAt H' cs (done ++ [(i, c)]) ∧ done ++ ahead rs i c = ahead rs i0 c0)
        (fun σ' _ => rs.length - idxAt σ') ⟨i0, c0, cs, [], rfl, s1, e1, p1, rfl⟩ (fun σ' H' hP2 => ?_) ?_
      · obtain ⟨i, c, cs, done, rfl, s2, e2, p2, full⟩ := hP2
        have small : cs.length < sizeLine := by
          have z1 := paired_len p2
          have z2 := congrArg List.length full
          have z3 := ahead_len rs _ i0 c0 rfl
          have z4 : 1 ≤ (ahead rs i c).length := by
            by_cases hi : i < rs.length
            · rw [ahead_go (List.getElem?_eq_getElem hi), List.length_cons]; omega
            · rw [ahead_end (by omega)]; exact Nat.le_refl 1
          rw [List.length_append] at z1 z2
          rw [List.length_singleton] at z1
          rw [sizeLine_eq]
          omega
        have hT2 := same_tup s2 hT
        refine ⟨_, rfl, _, rfl, a, vs, rfl, .inr hT2, _, _, rfl, rfl, _, rfl, ?_⟩
        refine ite2 (fun hlt => ?_) (fun hge => ?_)
        · have hi : i < rs.length := by
            have z : (i : Int) < (vs.length : Int) := of_decide_eq_true hlt
            omega
          have go := ahead_go (c := c) (List.getElem?_eq_getElem hi)
          obtain ⟨v, hv, hr⟩ := paired_at hP (List.getElem?_eq_getElem hi)
          generalize rs[i] = r at hr go
          obtain ⟨ar, sg, rfl, hrT, _⟩ := hr
          have hrT2 := same_tup s2 hrT
          refine ⟨_, rfl, _, rfl, _, rfl, a, vs, _, _, rfl, rfl, hT2, atI_nat hv, ar, _, _, _, rfl, rfl, hrT2, rfl, _, _, rfl, rfl, _, rfl, ite2 (fun hc => ?_) (fun hc => ?_)⟩
          · have hc : r.low ≤ c := by
              have z : ((r.low : Nat) : Int) ≤ (c : Int) := of_decide_eq_true hc
              omega
            rw [if_pos hc] at go
            refine ⟨_, rfl, _, _, rfl, rfl, ?_⟩
            refine ⟨_, rfl, .inl ⟨rfl, _, .inl (.inl e2)⟩, _, rfl, _, rfl, sm2, fun b nb => ⟨l, _, _, rfl, rfl, by rw [upd_ne (ne_of_none e2 nb)]; exact e2, by rw [List.length_map]; exact small, ?_⟩⟩
            have bl : b ≠ l := (ne_of_none e2 nb).symm
            refine ⟨⟨i + 1, 0, cs ++ [b], done ++ [(i, c)], ?_, ?_, ?_, ?_, ?_⟩, ?_⟩
            · rfl
            · exact fun y o z => by
                have ny : y ≠ l := fun q => by rw [q, nl] at z; cases z
                rw [upd_ne ny]
                exact same_upd nb _ _ (s2 _ _ z)
            · rw [upd_same, List.map_append]; rfl
            · refine paired_snoc ?_ (pairedI p2 fun x y z => ?_)
              · rw [upd_ne bl, upd_same]; rfl
              · rw [upd_ne (fun q => by rw [q, e2] at z; cases z)]
                exact same_upd nb _ _ z
            · rw [← full, go]; simp
            · show rs.length - ((i : Int) + 1).toNat < rs.length - ((i : Int)).toNat
              omega
          · have hc : ¬ r.low ≤ c := by
              have z : ¬ ((r.low : Nat) : Int) ≤ (c : Int) := fun q => hc (decide_eq_true q)
              omega
            rw [if_neg hc] at go
            refine ⟨_, _, cs, rfl, s2, e2, ?_⟩
            rw [go] at full
            rw [← full]
            exact p2
        · have hi : rs.length ≤ i := by
            have z : ¬ (i : Int) < (vs.length : Int) := fun q => hge (decide_eq_true q)
            omega
          have go := ahead_end (c := c) hi
          refine ⟨_, _, cs, rfl, s2, e2, ?_⟩
          rw [go] at full
          rw [← full]
          exact p2
      · rintro σ H Q Q' m ⟨v1, h1, v2, h2, a2, ys2, h3, h4, i2, j2, h5, h6, k2, h7, h8⟩
        refine ⟨v1, h1, v2, h2, a2, ys2, h3, h4, i2, j2, h5, h6, k2, h7, ?_⟩
        cases k2 with
        | false => exact m _ _ h8
        | true =>
          obtain ⟨w1, g1, w2, g2, w3, g3, w4, w5, w6, w7, g4, g5, g6, g7, w8, w9, w10, w11, g8, g9, g10, g11, w12, w13, g12, g13, w14, g14, g15⟩ := h8
          exact ⟨w1, g1, w2, g2, w3, g3, w4, w5, w6, w7, g4, g5, g6, g7, w8, w9, w10, w11, g8, g9, g10, g11, w12, w13, g12, g13, w14, g14, m _ _ g15⟩
    · rintro σ2 H2 ⟨x1, x2, cs2, rfl, s2, e2, p2⟩
      exact ⟨_, rfl, q H2 l cs2 s2 nl e2 p2⟩
end
end K0
end
/-! ### RM2 -/
section
set_option linter.all false
/-! States of a reader: ascending lists of places; there are finitely many. -/
namespace Rd
abbrev Pl := Nat × Nat
def kd (p : Pl) : Nat := p.1 * 64 + p.2
def Asc (l : List Pl) : Prop := l.Pairwise fun p q => kd p < kd q
instance (l : List Pl) : Decidable (Asc l) := by unfold Asc; exact inferInstance
def grid : List Pl := (List.range 5).flatMap fun i => (List.range 4).map fun c => (i, c)
theorem grid_asc : Asc grid := by decide
theorem mem_grid {p : Pl} : p ∈ grid ↔ p.1 < 5 ∧ p.2 < 4 := by
  unfold grid
  rw [List.mem_flatMap]
  constructor
  · rintro ⟨i, hi, h⟩
    obtain ⟨c, hc, rfl⟩ := List.mem_map.mp h
    exact ⟨List.mem_range.mp hi, List.mem_range.mp hc⟩
  · rintro ⟨h1, h2⟩
    exact ⟨p.1, List.mem_range.mpr h1, List.mem_map.mpr ⟨p.2, List.mem_range.mpr h2, rfl⟩⟩
theorem asc_ext : ∀ {l m : List Pl}, Asc l → Asc m → (∀ x, x ∈ l ↔ x ∈ m) → l = m
  | [], [], _, _, _ => rfl
  | [], y :: m, _, _, h => by have := (h y).mpr List.mem_cons_self; cases this
  | x :: l, [], _, _, h => by have := (h x).mp List.mem_cons_self; cases this
  | x :: l, y :: m, hl, hm, h => by
    obtain ⟨a1, a2⟩ := List.pairwise_cons.mp hl
    obtain ⟨b1, b2⟩ := List.pairwise_cons.mp hm
    have e : x = y := by
      rcases List.mem_cons.mp ((h x).mp List.mem_cons_self) with e | e
      · exact e
      · rcases List.mem_cons.mp ((h y).mpr List.mem_cons_self) with f | f
        · exact f.symm
        · have z1 := b1 x e
          have z2 := a1 y f
          omega
    subst e
    have t : l = m := asc_ext a2 b2 fun z => by
      constructor
      · intro hz
        rcases List.mem_cons.mp ((h z).mp (List.mem_cons_of_mem _ hz)) with e | e
        · subst e; have := a1 z hz; omega
        · exact e
      · intro hz
        rcases List.mem_cons.mp ((h z).mpr (List.mem_cons_of_mem _ hz)) with e | e
        · subst e; have := b1 z hz; omega
        · exact e
    rw [t]
def canon (l : List Pl) : List Pl := grid.filter fun p => decide (p ∈ l)
theorem canon_asc (l : List Pl) : Asc (canon l) := grid_asc.sublist List.filter_sublist
theorem canon_sub (l : List Pl) : (canon l).Sublist grid := List.filter_sublist
theorem mem_canon {l : List Pl} (h : ∀ p ∈ l, p ∈ grid) {x : Pl} : x ∈ canon l ↔ x ∈ l := by
  unfold canon
  rw [List.mem_filter, decide_eq_true_iff]
  exact ⟨fun z => z.2, fun z => ⟨h x z, z⟩⟩
theorem asc_canon {l m : List Pl} (a : Asc l) (h : ∀ p ∈ m, p ∈ grid) (e : ∀ x, x ∈ l ↔ x ∈ m) : l = canon m :=
  asc_ext a (canon_asc m) fun x => (e x).trans (mem_canon h).symm
/-! ### places that stand -/
def cap (r : RunD) : Nat := r.high.getD r.low
structure GoodR (r : RunD) : Prop where
  low : r.low ≤ 3
  cap : cap r ≤ 3
structure Good (rs : List RunD) : Prop where
  len : rs.length ≤ 4
  all : ∀ r ∈ rs, GoodR r
def OkP (rs : List RunD) (p : Pl) : Prop := (p.1 = rs.length ∧ p.2 = 0) ∨ ∃ r, rs[p.1]? = some r ∧ p.2 ≤ cap r
theorem OkP.grid {rs : List RunD} (g : Good rs) {p : Pl} (h : OkP rs p) : p ∈ grid := by
  have := g.len
  rcases h with ⟨h1, h2⟩ | ⟨r, h1, h2⟩
  · exact mem_grid.mpr ⟨by omega, by omega⟩
  · obtain ⟨hl, e⟩ := List.getElem?_eq_some_iff.mp h1
    have z := (g.all r (List.mem_of_getElem? h1)).cap
    exact mem_grid.mpr ⟨by omega, by omega⟩
theorem aheadG_ok (rs : List RunD) : ∀ (l : List RunD) (i c : Nat), rs.drop i = l → OkP rs (i, c) → ∀ p ∈ aheadG l i c, OkP rs p
  | [], i, c, _, h, p, hp => by
    rcases List.mem_cons.mp hp with rfl | hp
    · exact h
    · cases hp
  | r :: l, i, c, e, h, p, hp => by
    unfold aheadG at hp
    rcases List.mem_cons.mp hp with rfl | hp
    · exact h
    · split at hp
      · refine aheadG_ok rs l (i + 1) 0 ?_ ?_ p hp
        · rw [← List.drop_drop (i := 1) (j := i), e]; rfl
        · have hi : i < rs.length := by
            by_cases z : i < rs.length
            · exact z
            · rw [List.drop_eq_nil_of_le (by omega)] at e; cases e
          by_cases z : i + 1 < rs.length
          · exact .inr ⟨rs[i + 1], List.getElem?_eq_getElem z, Nat.zero_le _⟩
          · exact .inl ⟨by show i + 1 = _; omega, rfl⟩
      · cases hp
theorem ahead_ok {rs : List RunD} {i c : Nat} (h : OkP rs (i, c)) : ∀ p ∈ ahead rs i c, OkP rs p := aheadG_ok rs _ i c rfl h
theorem aheadG_asc : ∀ (l : List RunD) (i c : Nat), c < 64 → Asc (aheadG l i c) ∧ ∀ p ∈ aheadG l i c, i * 64 ≤ kd p
  | [], i, c, _ => ⟨List.pairwise_singleton _ _, fun p hp => by
    rcases List.mem_cons.mp hp with rfl | hp
    · unfold kd; omega
    · cases hp⟩
  | r :: l, i, c, hc => by
    obtain ⟨a, b⟩ := aheadG_asc l (i + 1) 0 (by omega)
    unfold aheadG
    split
    · refine ⟨List.pairwise_cons.mpr ⟨fun q hq => ?_, a⟩, fun p hp => ?_⟩
      · have := b q hq
        show i * 64 + c < kd q
        omega
      · rcases List.mem_cons.mp hp with rfl | hp
        · unfold kd; omega
        · have := b p hp; omega
    · refine ⟨List.pairwise_singleton _ _, fun p hp => ?_⟩
      rcases List.mem_cons.mp hp with rfl | hp
      · unfold kd; omega
      · cases hp
/-! ### a sign further -/
def stepB (rs : List RunD) (s : Nat) (p : Pl) : List Pl := match rs[p.1]? with
  | some r => if s ∈ r.signs ∧ r.high ≠ some p.2 then ahead rs p.1 (countB r p.2) else []
  | none => []
def behindL (rs : List RunD) (ps : List Pl) (s : Nat) : List Pl := ps.flatMap (stepB rs s)
def behind (rs : List RunD) (ps : List Pl) (s : Nat) : List Pl := canon (behindL rs ps s)
theorem stepB_ok {rs : List RunD} {s : Nat} {p : Pl} (h : OkP rs p) : ∀ q ∈ stepB rs s p, OkP rs q := by
  intro q hq
  unfold stepB at hq
  cases e : rs[p.1]? with
  | none => rw [e] at hq; cases hq
  | some r =>
    rw [e] at hq
    simp only at hq
    split at hq
    · rename_i hc
      refine ahead_ok (i := p.1) (c := countB r p.2) (.inr ⟨r, e, ?_⟩) q hq
      rcases h with ⟨h1, _⟩ | ⟨r2, h1, h2⟩
      · rw [h1, List.getElem?_eq_none (Nat.le_refl _)] at e; cases e
      · rw [e] at h1
        cases h1
        show countB r p.2 ≤ cap r
        unfold countB
        unfold cap at h2 ⊢
        cases hh : r.high with
        | none =>
          rw [hh] at h2
          have h2 : p.2 ≤ r.low := h2
          show (if p.2 + 1 < r.low then p.2 + 1 else r.low) ≤ r.low
          split <;> omega
        | some n =>
          rw [hh] at h2
          have h2 : p.2 ≤ n := h2
          show p.2 + 1 ≤ n
          have z := hc.2
          rw [hh] at z
          have : n ≠ p.2 := fun y => z (by rw [y])
          omega
    · cases hq
theorem behindL_ok {rs : List RunD} {ps : List Pl} {s : Nat} (h : ∀ p ∈ ps, OkP rs p) : ∀ q ∈ behindL rs ps s, OkP rs q := by
  intro q hq
  obtain ⟨p, hp, hq⟩ := List.mem_flatMap.mp hq
  exact stepB_ok (h p hp) q hq
theorem behind_ok {rs : List RunD} {ps : List Pl} {s : Nat} (h : ∀ p ∈ ps, OkP rs p) : ∀ q ∈ behind rs ps s, OkP rs q := by
  intro q hq
  unfold behind canon at hq
  rw [List.mem_filter, decide_eq_true_iff] at hq
  exact behindL_ok h q hq.2
/-! ### how many at once -/
def wt (n : Nat) (p : Pl) : Nat := if p.1 < n then n - p.1 + 1 else 0
theorem stepB_len {rs : List RunD} {s : Nat} {p : Pl} : (stepB rs s p).length ≤ wt rs.length p := by
  unfold stepB
  cases e : rs[p.1]? with
  | none => exact Nat.zero_le _
  | some r =>
    obtain ⟨hl, _⟩ := List.getElem?_eq_some_iff.mp e
    show (if _ then _ else _ : List Pl).length ≤ _
    split
    · have := ahead_len rs _ p.1 (countB r p.2) rfl
      unfold wt
      rw [if_pos hl]
      exact this
    · exact Nat.zero_le _
theorem sum_sub {α : Type} (f : α → Nat) : ∀ {l m : List α}, l.Sublist m → (l.map f).sum ≤ (m.map f).sum
  | _, _, .slnil => Nat.le_refl _
  | _, _, .cons a h => by
    have := sum_sub f h
    simp only [List.map_cons, List.sum_cons]
    omega
  | _, _, .cons₂ a h => by
    have := sum_sub f h
    simp only [List.map_cons, List.sum_cons]
    omega
theorem flat_len (rs : List RunD) (s : Nat) : ∀ ps : List Pl, (behindL rs ps s).length ≤ (ps.map (wt rs.length)).sum
  | [] => Nat.le_refl _
  | p :: ps => by
    have h1 := flat_len rs s ps
    have h2 := stepB_len (rs := rs) (s := s) (p := p)
    unfold behindL at *
    rw [List.flatMap_cons, List.length_append, List.map_cons, List.sum_cons]
    omega
theorem wt_grid {n : Nat} (h : n ≤ 4) : (grid.map (wt n)).sum ≤ 56 := by
  have : n = 0 ∨ n = 1 ∨ n = 2 ∨ n = 3 ∨ n = 4 := by omega
  rcases this with rfl | rfl | rfl | rfl | rfl <;> decide
theorem behindL_few {rs : List RunD} {ps : List Pl} {s : Nat} (g : rs.length ≤ 4) (h : ps.Sublist grid) : (behindL rs ps s).length ≤ 56 :=
  Nat.le_trans (flat_len rs s ps) (Nat.le_trans (sum_sub _ h) (wt_grid g))
/-! ### how many states -/
def subs : List Pl → List (List Pl)
  | [] => [[]]
  | x :: l => subs l ++ (subs l).map (x :: ·)
theorem subs_len : ∀ l : List Pl, (subs l).length = 2 ^ l.length
  | [] => rfl
  | x :: l => by
    rw [subs, List.length_append, List.length_map, subs_len l, List.length_cons, Nat.pow_succ]
    omega
theorem mem_subs : ∀ {l m : List Pl}, l.Sublist m → l ∈ subs m
  | _, _, .slnil => List.mem_singleton.mpr rfl
  | _, _, .cons a h => List.mem_append_left _ (mem_subs h)
  | _, _, .cons₂ a h => List.mem_append_right _ (List.mem_map.mpr ⟨_, mem_subs h, rfl⟩)
theorem nodup_len {α : Type} [DecidableEq α] : ∀ {l m : List α}, l.Nodup → (∀ x ∈ l, x ∈ m) → l.length ≤ m.length
  | [], _, _, _ => Nat.zero_le _
  | x :: l, m, n, h => by
    obtain ⟨n1, n2⟩ := List.nodup_cons.mp n
    have hx := h x List.mem_cons_self
    have := nodup_len (m := m.erase x) n2 fun y hy => (List.mem_erase_of_ne (fun e => by rw [e] at hy; exact n1 hy)).mpr (h y (List.mem_cons_of_mem _ hy))
    rw [List.length_erase_of_mem hx] at this
    have := List.length_pos_of_mem hx
    rw [List.length_cons]
    omega
theorem states_few {sts : List (List Pl)} (n : sts.Nodup) (h : ∀ p ∈ sts, p.Sublist grid) : sts.length ≤ 1048576 := by
  have := nodup_len n fun x hx => mem_subs (h x hx)
  rw [subs_len] at this
  exact this
end Rd
end
/-! ### R2 -/
section
set_option Elab.async false
set_option linter.all false
set_option maxRecDepth 100000
set_option maxHeartbeats 4000000
/-! places_behind. -/
namespace K0
open PySem PySem.Spec PyProof.Rows L2 Rd
theorem scBehind : FnScope ["runs", "places", "sign", "found", "run", "count"] ["runs", "places", "sign"] (defScope (top iBehind)) := ⟨rfl, rfl, rfl, by decide +kernel, rfl, by decide +kernel, by decide +kernel⟩
/-- a tuple of pairs, each a tuple of its own -/
def PlacesAt (H : Hp) (b : Addr) (ps : List Pl) : Prop := ∃ cs : List Addr, H b = some (.tup (cs.map V.ref)) ∧ PairsAt H cs ps
theorem PlacesAt.same {H H' : Hp} {b : Addr} {ps : List Pl} (h : PlacesAt H b ps) (s : Same H H') : PlacesAt H' b ps := by
  obtain ⟨cs, h1, h2⟩ := h
  exact ⟨cs, s _ _ h1, h2.same s⟩
def spBehind (K : PySem.W.Frag) : Sp := fun vs H Q _ => ∃ (a b : Addr) (rs : List RunD) (ps : List Pl) (s : Nat), vs = [.ref a, .ref b, oneV s] ∧ RunsAt K H a rs ∧ Good rs ∧ PlacesAt H b ps ∧ ps.Sublist grid ∧ (∀ p ∈ ps, OkP rs p) ∧
  ∀ H' t, Same H H' → H t = none → PlacesAt H' t (behind rs ps s) → Q (.ref t) H'
theorem inV_one {s : Nat} : ∀ {l : List Nat}, inV (oneV s) (l.map oneV) = decide (s ∈ l)
  | [] => rfl
  | c :: l => by
    have ih := inV_one (s := s) (l := l)
    unfold inV at ih ⊢
    rw [List.map_cons, List.any_cons, ih]
    have e : eqV (oneV c) (oneV s) = decide (s = c) := by
      show ((oneS c) == (oneS s)) = _
      rw [Bool.beq_eq_decide_eq]
      refine decide_eq_decide.mpr ⟨fun h => ?_, fun h => by rw [h]⟩
      injection h with h
      injection h with h
      injection h with h
      exact h.symm
    have e' : eqV (oneV s) (oneV c) = decide (s = c) := by
      show ((oneS s) == (oneS c)) = _
      rw [Bool.beq_eq_decide_eq]
      refine decide_eq_decide.mpr ⟨fun h => ?_, fun h => by rw [h]⟩
      injection h with h
      injection h with h
      injection h with h
    by_cases h : s = c
    · subst h; simp [e, e']
    · simp [h, e, e']
theorem flat_ones (l : List Nat) : (l.map oneV).all flatV = true := by
  rw [List.all_eq_true]
  intro x hx
  obtain ⟨c, _, rfl⟩ := List.mem_map.mp hx
  rfl
theorem hi_ne {o : Option Nat} {c : Nat} : scal (.int (c : Nat)) (hiV o) = true ∧ (!decide (V.int (c : Nat) = hiV o)) = decide (o ≠ some c) := by
  cases o with
  | none => exact ⟨rfl, rfl⟩
  | some n =>
    refine ⟨rfl, ?_⟩
    by_cases h : n = c
    · subst h
      simp [hiV]
    · have h2 : ¬ ((c : Int) = (n : Int)) := by omega
      simp [hiV, h, h2]
/-- pairs with their addresses, as a set of tuples is asked for -/
def kz (cs : List Addr) (ps : List Pl) : List (Addr × List Int) := List.zipWith (fun c p => (c, [((p.1 : Nat) : Int), ((p.2 : Nat) : Int)])) cs ps
theorem kz_refs {H : Hp} : ∀ {cs : List Addr} {ps : List Pl}, PairsAt H cs ps → (kz cs ps).map (fun q => V.ref q.1) = cs.map V.ref
  | _, _, .nil => rfl
  | _, _, .cons r t => by
    unfold kz
    rw [List.zipWith_cons_cons, List.map_cons, List.map_cons]
    congr 1
    exact kz_refs t
theorem kz_len {H : Hp} {cs : List Addr} {ps : List Pl} (h : PairsAt H cs ps) : (kz cs ps).length = ps.length := by
  have := paired_len h
  unfold kz
  rw [List.length_zipWith]
  omega
theorem mem_kz {H : Hp} : ∀ {cs : List Addr} {ps : List Pl}, PairsAt H cs ps → ∀ q ∈ kz cs ps, ∃ p ∈ ps, q.2 = [((p.1 : Nat) : Int), ((p.2 : Nat) : Int)] ∧ H q.1 = some (pairO p)
  | _, _, .nil, q, hq => by cases hq
  | c :: cs, p :: ps, .cons r t, q, hq => by
    unfold kz at hq
    rw [List.zipWith_cons_cons] at hq
    rcases List.mem_cons.mp hq with rfl | hq
    · exact ⟨p, List.mem_cons_self, rfl, r⟩
    · obtain ⟨p', h1, h2⟩ := mem_kz t q hq
      exact ⟨p', List.mem_cons_of_mem _ h1, h2⟩
theorem kz_mem {H : Hp} : ∀ {cs : List Addr} {ps : List Pl}, PairsAt H cs ps → ∀ p ∈ ps, ∃ q ∈ kz cs ps, q.2 = [((p.1 : Nat) : Int), ((p.2 : Nat) : Int)]
  | _, _, .nil, q, hq => by cases hq
  | c :: cs, p :: ps, .cons r t, p', hq => by
    unfold kz
    rw [List.zipWith_cons_cons]
    rcases List.mem_cons.mp hq with rfl | hq
    · exact ⟨_, List.mem_cons_self, rfl⟩
    · obtain ⟨q, h1, h2⟩ := kz_mem t p' hq
      exact ⟨q, List.mem_cons_of_mem _ h1, h2⟩
/-- the pair of a list of two numbers -/
def unp (l : List Int) : Pl := match l with
  | [a, b] => (a.toNat, b.toNat)
  | _ => (0, 0)
theorem unp_pair (p : Pl) : unp [((p.1 : Nat) : Int), ((p.2 : Nat) : Int)] = p := by
  obtain ⟨i, c⟩ := p
  show (((i : Nat) : Int).toNat, ((c : Nat) : Int).toNat) = (i, c)
  rw [Int.toNat_natCast, Int.toNat_natCast]
theorem codes_asc : ∀ {L : List (Addr × List Int)}, (∀ q ∈ L, ∃ p : Pl, p ∈ grid ∧ q.2 = [((p.1 : Nat) : Int), ((p.2 : Nat) : Int)]) → (L.map (·.2)).Nodup → L.Pairwise (fun q r => TS.code 64 q.2 ≤ TS.code 64 r.2) → Asc (L.map fun q => unp q.2)
  | [], _, _, _ => List.Pairwise.nil
  | q :: L, h, n, w => by
    obtain ⟨n1, n2⟩ := List.nodup_cons.mp n
    obtain ⟨w1, w2⟩ := List.pairwise_cons.mp w
    refine List.pairwise_cons.mpr ⟨fun x hx => ?_, codes_asc (fun r hr => h r (List.mem_cons_of_mem _ hr)) n2 w2⟩
    obtain ⟨r, hr, rfl⟩ := List.mem_map.mp hx
    obtain ⟨p, gp, ep⟩ := h q List.mem_cons_self
    obtain ⟨p', gp', ep'⟩ := h r (List.mem_cons_of_mem _ hr)
    have z := w1 r hr
    have ne : q.2 ≠ r.2 := fun e => n1 (List.mem_map.mpr ⟨r, hr, e.symm⟩)
    show kd (unp q.2) < kd (unp r.2)
    rw [ep, ep', unp_pair, unp_pair]
    rw [ep, ep', code_pair, code_pair] at z
    have ne2 : p ≠ p' := fun e => ne (by rw [ep, ep', e])
    obtain ⟨b1, b2⟩ := mem_grid.mp gp
    obtain ⟨b3, b4⟩ := mem_grid.mp gp'
    have : kd p ≤ kd p' := by unfold kd; omega
    have : kd p ≠ kd p' := fun e => ne2 (by
      unfold kd at e
      have h1 : p.1 = p'.1 := by omega
      have h2 : p.2 = p'.2 := by omega
      exact Prod.ext h1 h2)
    omega
section
variable {P : Program} {w : World} {K : PySem.W.Frag} {mg : Str → Option Value} {base : Heap} {f fC fA : Addr} {fd fdC fdA : FuncData}
theorem ok_behind {k : Nat} (F : FnP K "places_behind" iBehind f fd) (mlen : mg "len" = none) (mtuple : mg "tuple" = none) (msorted : mg "sorted" = none) (mset : mg "set" = none)
    (FC : FnOk P w K mg base CX0 (k + 1) fC fdC ["run", "count"] (spCount K)) (gC : mg "count_behind" = some (.ref fC)) (kC : PySem.W.keepIn K (.ref fC) = true) (bC : Binds K fdC ["run", "count"] [])
    (FA : FnOk P w K mg base CX0 (k + 1) fA fdA ["runs", "run", "count"] (spAhead K)) (gA : mg "places_ahead" = some (.ref fA)) (kA : PySem.W.keepIn K (.ref fA) = true) (bA : Binds K fdA ["runs", "run", "count"] []) :
    FnOk P w K mg base CX0 (k + 2) f fd ["runs", "places", "sign"] (spBehind K) := by
  refine F.ok scBehind (fun vs H Q E h => ?_) (fun cdv A outer s H vs Q E hr h => ?_)
  · obtain ⟨a, b, rs, ps, s, rfl, _⟩ := h
    rfl
  · obtain ⟨a, b, rs, ps, sg, rfl, hR, g, hPl, sub, okp, q⟩ := h
    refine ⟨_, PSs.nox (C8.pss_cut (ps_set (i := 3) scBehind.nd rfl (.inl rfl) (pe_lst pa_nil))
      (C8.pss_cut (ps_for PassesOwn.never rfl (pi_tup (pv 1)) (pg_tup rfl (pgs_cons (pg_name (i := 4) scBehind.nd rfl (.inl rfl)) (pgs_cons (pg_name (i := 5) scBehind.nd rfl (.inl rfl)) pgs_nil)))
        (pss_one (ps_if (PW.pt (pw_and (pt_cmpR op_lt (pv 4) (pe_callB call_len_seq (by rfl) mlen PySem.boot_len (pa_cons (pv 0) pa_nil)) (nomark _))
            (pw_and (pt_cmpR op_in_seq (pv 2) (pe_ix ix_tup (pe_ix ix_tup (pv 0) (pv 4) (fun _ _ => rfl)) pe_int (fun _ _ => rfl)) rfl)
              (pw_and1 (pt_cmpR op_ne (pv 5) (pe_ix ix_tup (pe_ix ix_tup (pv 0) (pv 4) (fun _ _ => rfl)) pe_int (fun _ _ => rfl)) (nomark _))))))
          (pss_one (ps_expr (pe_bm PySem.F.plainAttrs_list PySem.F.slot_list_extend PySem.F.type_list_extend mt_extend (pv 3) (pa_cons (pe_call FA hr (by rfl) gA kA bA .nil pass0 (pa_cons (pv 0) (pa_cons (pv 4) (pa_cons (pe_call FC hr (by rfl) gC kC bC .nil pass0 (pa_cons (pe_ix ix_tup (pv 0) (pv 4) (fun _ _ => rfl)) (pa_cons (pv 5) pa_nil))) pa_nil)))) pa_nil))))
          pss_nil)))
      (pss_one (ps_ret (pe_callTy call_tuple_of (by rfl) mtuple (by decide +kernel) (pa_cons (pe_callB (cr_sortedT rfl) (by rfl) msorted (by decide +kernel) (pa_cons (pe_callTy (cr_setOfT rfl (hr.units)) (by rfl) mset (by decide +kernel) (pa_cons (pv 3) pa_nil)) pa_nil)) pa_nil)))))), ?_⟩
    obtain ⟨rvs, hT, hP⟩ := hR
    obtain ⟨cs, eb, hcs⟩ := hPl
    have vl := paired_len hP
    refine ⟨fun σ' H' => ∃ l, σ' = [some (.ref a), some (.ref b), some (oneV sg), some (.ref l), none, none] ∧ Same H H' ∧ H l = none ∧ H' l = some (.lst []), ?_, ?_⟩
    · exact ⟨Nat.zero_le _, fun l nl => ⟨l, rfl, same_upd nl, nl, upd_same⟩⟩
    rintro σ1 H1 ⟨l, rfl, s1, nl, e1⟩
    refine ⟨fun σ' H' => ∃ x4 x5 ds, σ' = [some (.ref a), some (.ref b), some (oneV sg), some (.ref l), x4, x5] ∧ Same H H' ∧ H' l = some (.lst (ds.map V.ref)) ∧ PairsAt H' ds (behindL rs ps sg), ?_, ?_⟩
    · refine ⟨_, rfl, b, rfl, ⟨_, .of (s1 _ _ eb)⟩, for_it (walk_tup (xs := cs.map V.ref)) (fun m σ' H' => ∃ x4 x5 ds, σ' = [some (.ref a), some (.ref b), some (oneV sg), some (.ref l), x4, x5] ∧ Same H H' ∧ H' l = some (.lst (ds.map V.ref)) ∧ PairsAt H' ds (behindL rs (ps.take m) sg))
        ⟨none, none, [], rfl, s1, e1, .nil⟩ (fun m σ' H' _ hP => ?_) (fun m x σ' H' H'' hm hP2 hY => ?_) (fun σ' H' hP2 => ?_)⟩
      · obtain ⟨_, _, _, _, s2, _⟩ := hP
        exact .of (s2 _ _ eb)
      · obtain ⟨x4, x5, ds, rfl, s2, e2, p2⟩ := hP2
        obtain ⟨eH, hx⟩ := hY
        subst H''
        have hm2 : m < cs.length := by rw [List.length_map] at hm; exact hm
        obtain ⟨p, hp, hc⟩ := paired_at' hcs (List.getElem?_eq_getElem hm2)
        rw [List.getElem?_map, List.getElem?_eq_getElem hm2] at hx
        cases hx
        generalize cs[m] = c at hc
        have tk : behindL rs (ps.take (m + 1)) sg = behindL rs (ps.take m) sg ++ stepB rs sg p := by
          unfold behindL
          rw [List.take_succ, hp, List.flatMap_append]
          simp
        have okp1 := okp p (List.mem_of_getElem? hp)
        obtain ⟨i, n⟩ := p
        refine ⟨c, _, rfl, .of (s2 _ _ hc), rfl, _, _, rfl, _, _, rfl, rfl, ?_⟩
        have skip : stepB rs sg (i, n) = [] → ∃ x4 x5 ds, [some (V.ref a), some (V.ref b), some (oneV sg), some (V.ref l), some (V.int (i : Nat)), some (V.int (n : Nat))] = [some (.ref a), some (.ref b), some (oneV sg), some (.ref l), x4, x5] ∧ Same H H' ∧ H' l = some (.lst (ds.map V.ref)) ∧ PairsAt H' ds (behindL rs (ps.take (m + 1)) sg) := fun e => by
          refine ⟨_, _, ds, rfl, s2, e2, ?_⟩
          rw [tk, e, List.append_nil]
          exact p2
        refine ⟨_, rfl, _, rfl, a, rvs, rfl, .inr (same_tup s2 hT), _, _, rfl, rfl, _, rfl, ite2 (fun hlt => ?_) (fun hge => ?_)⟩
        · have hi : i < rs.length := by
            have z : (i : Int) < (rvs.length : Int) := of_decide_eq_true hlt
            omega
          obtain ⟨v, hv, hr⟩ := paired_at hP (List.getElem?_eq_getElem hi)
          have er : rs[i]? = some rs[i] := List.getElem?_eq_getElem hi
          generalize rs[i] = r at hr er
          have hr0 := hr
          obtain ⟨ar, sa, rfl, hrT, hsT⟩ := hr
          have hrT2 := same_tup s2 hrT
          have step : stepB rs sg (i, n) = if sg ∈ r.signs ∧ r.high ≠ some n then ahead rs i (countB r n) else [] := by
            unfold stepB
            rw [er]
          refine ⟨_, rfl, _, rfl, _, rfl, a, rvs, _, _, rfl, rfl, same_tup s2 hT, atI_nat hv, ar, _, _, _, rfl, rfl, hrT2, rfl, sa, _, rfl, .inr (same_tup s2 hsT), rfl, flat_ones _, ?_⟩
          refine ⟨_, rfl, ?_⟩
          rw [show (if false = true then !inV (oneV sg) (r.signs.map oneV) else inV (oneV sg) (r.signs.map oneV)) = inV (oneV sg) (r.signs.map oneV) from rfl, inV_one]
          refine ite2 (fun hin => ?_) (fun hin => ?_)
          · have hin : sg ∈ r.signs := of_decide_eq_true hin
            refine ⟨_, rfl, _, rfl, _, rfl, a, rvs, _, _, rfl, rfl, same_tup s2 hT, atI_nat hv, ar, _, _, _, rfl, rfl, hrT2, rfl, (hi_ne (o := r.high) (c := n)).1, _, rfl, ?_⟩
            rw [(hi_ne (o := r.high) (c := n)).2]
            refine ite2 (fun hne => ?_) (fun hne => ?_)
            · have hne : r.high ≠ some n := of_decide_eq_true hne
              rw [if_pos ⟨hin, hne⟩] at step
              refine ⟨_, rfl, .inl ⟨rfl, _, .inl (.inl e2)⟩, _, rfl, _, rfl, _, rfl, _, rfl, a, rvs, _, _, rfl, rfl, same_tup s2 hT, atI_nat hv, _, rfl, _, r, n, rfl, hr0.same s2, a, rs, i, countB r n, rfl, ⟨rvs, same_tup s2 hT, pairedI hP fun _ _ z => z.same s2⟩, g.len, by have := g.len; omega, fun H3 l3 es s3 n3 e3 p3 => ?_⟩
              have few := behindL_few (s := sg) g.len sub
              have few2 : (behindL rs ps sg).length = (behindL rs (ps.take (m + 1)) sg).length + (behindL rs (ps.drop (m + 1)) sg).length := by
                conv => lhs; rw [← List.take_append_drop (m + 1) ps]
                unfold behindL
                rw [List.flatMap_append, List.length_append]
              rw [tk, List.length_append, step] at few2
              have d1 := paired_len p2
              have d2 := paired_len p3
              refine ⟨l, l3, _, _, rfl, rfl, s3 _ _ e2, e3, by rw [List.length_map, List.length_map, sizeLine_eq]; omega, ?_⟩
              refine ⟨_, _, ds ++ es, rfl, fun y o z => ?_, by rw [upd_same, List.map_append], ?_⟩
              · have ny : y ≠ l := fun q => by rw [q, nl] at z; cases z
                rw [upd_ne ny]
                exact s3 _ _ (s2 _ _ z)
              · rw [tk, step]
                refine paired_app (pairedI p2 fun x y z => ?_) (pairedI p3 fun x y z => ?_)
                · rw [upd_ne (fun q => by rw [q, e2] at z; cases z)]
                  exact s3 _ _ z
                · have z2 := s3 _ _ e2
                  rw [upd_ne (fun q => by rw [q, z2] at z; cases z)]
                  exact z
            · have hne : ¬ r.high ≠ some n := fun q => hne (decide_eq_true q)
              rw [if_neg (fun q => hne q.2)] at step
              exact skip step
          · have hin : ¬ sg ∈ r.signs := fun q => hin (decide_eq_true q)
            rw [if_neg (fun q => hin q.1)] at step
            exact skip step
        · have hi : ¬ i < rs.length := fun q => hge (decide_eq_true (by show (i : Int) < (rvs.length : Int); omega))
          exact skip (by unfold stepB; rw [List.getElem?_eq_none (by show rs.length ≤ i; omega)])
      · obtain ⟨x4, x5, ds, rfl, s2, e2, p2⟩ := hP2
        refine ⟨x4, x5, ds, rfl, s2, e2, ?_⟩
        rw [List.length_map, paired_len hcs, List.take_length] at p2
        exact p2
    · rintro σ2 H2 ⟨x4, x5, ds, rfl, s2, e2, p2⟩
      have few := behindL_few (s := sg) g.len sub
      have okl := behindL_ok (s := sg) okp
      have ingrid : ∀ p ∈ behindL rs ps sg, p ∈ grid := fun p hp => (okl p hp).grid g
      have kl := kz_len p2
      refine ⟨_, rfl, l, kz ds (behindL rs ps sg), rfl, .of (by rw [kz_refs p2]; exact e2), fun p hp => ?_, by omega, fun S L nS sub2 all => ?_⟩
      · obtain ⟨pl, _, h1, h2⟩ := mem_kz p2 p hp
        exact .of (by rw [h1]; exact h2)
      have sS : Same H2 (upd H2 S (SetTO P w S L)) := same_upd nS
      have at' : ∀ p ∈ L, ∃ pl ∈ behindL rs ps sg, p.2 = [((pl.1 : Nat) : Int), ((pl.2 : Nat) : Int)] ∧ H2 p.1 = some (pairO pl) := fun p hp => mem_kz p2 p (sub2 p hp)
      refine ⟨S, L, 2, 64, rfl, upd_same, fun p hp => ?_, by decide, fun p hp => ?_, fun L' t pm nd _ asc nt => ?_⟩
      · obtain ⟨pl, _, h1, h2⟩ := at' p hp
        exact .of (by rw [h1]; exact sS _ _ h2)
      · obtain ⟨pl, hpl, h1, h2⟩ := at' p hp
        obtain ⟨b1, b2⟩ := mem_grid.mp (ingrid pl hpl)
        refine ⟨by rw [h1]; rfl, ?_⟩
        rw [h1]
        intro x hx
        rcases List.mem_cons.mp hx with rfl | hx
        · omega
        · rcases List.mem_cons.mp hx with rfl | hx
          · omega
          · cases hx
      have at2 : ∀ p ∈ L', ∃ pl ∈ behindL rs ps sg, p.2 = [((pl.1 : Nat) : Int), ((pl.2 : Nat) : Int)] ∧ H2 p.1 = some (pairO pl) := fun p hp => at' p (pm.mem_iff.mp hp)
      have st : Same H2 (upd (upd H2 S (SetTO P w S L)) t (.lst (L'.map fun q => V.ref q.1))) := sS.trans (same_upd nt)
      refine ⟨t, _, rfl, .inl ⟨.of upd_same, fun u nu => q _ u ((s2.trans st).trans (same_upd nu)) (none_back (s2.trans st) nu) ⟨L'.map (·.1), ?_, ?_⟩⟩⟩
      · rw [upd_same, List.map_map]; rfl
      · have e : behind rs ps sg = L'.map fun q => unp q.2 := by
          refine (asc_canon (codes_asc (fun p hp => ?_) nd asc) ingrid fun x => ?_).symm
          · obtain ⟨pl, h0, h1, _⟩ := at2 p hp
            exact ⟨pl, ingrid pl h0, h1⟩
          · constructor
            · intro hx
              obtain ⟨p, hp, rfl⟩ := List.mem_map.mp hx
              obtain ⟨pl, h0, h1, _⟩ := at2 p hp
              rw [h1, unp_pair]
              exact h0
            · intro hx
              obtain ⟨p, hp, h1⟩ := kz_mem p2 x hx
              have z := all p hp
              obtain ⟨p', hp', e'⟩ := List.mem_map.mp z
              refine List.mem_map.mpr ⟨p', pm.mem_iff.mpr hp', ?_⟩
              rw [e', h1, unp_pair]
        rw [e]
        have fin : ∀ (M : List (Addr × List Int)), (∀ p ∈ M, ∃ pl ∈ behindL rs ps sg, p.2 = [((pl.1 : Nat) : Int), ((pl.2 : Nat) : Int)] ∧ H2 p.1 = some (pairO pl)) → PairsAt (upd (upd (upd H2 S (SetTO P w S L)) t (.lst (L'.map fun q => V.ref q.1))) u (.tup (L'.map fun q => V.ref q.1))) (M.map (·.1)) (M.map fun q => unp q.2) := by
          intro M hM
          induction M with
          | nil => exact .nil
          | cons p M ih =>
            obtain ⟨pl, _, h1, h2⟩ := hM p List.mem_cons_self
            refine .cons ?_ (ih fun y hy => hM y (List.mem_cons_of_mem _ hy))
            show _ = some (pairO (unp p.2))
            rw [h1, unp_pair]
            exact same_upd nu _ _ (st _ _ h2)
        exact fin L' at2
end
end K0
end
/-! ### Nest -/
section
set_option Elab.async false
set_option linter.all false
set_option maxRecDepth 100000
set_option maxHeartbeats 4000000
/-! Keys that are tuples of tuples of keys: what a dict's machinery asks of them. -/
namespace Nest
open PySem
section
variable {prog : Program} {w : World} {K : Type} [DecidableEq K] {knd : KeyKind prog w K}
/-- items that are tuples of keys, one for each row -/
inductive RowsAt (knd : KeyKind prog w K) (h : Heap) : List (List K) → List Value → Prop
  | nil : RowsAt knd h [] []
  | cons {ks : List K} {b : Addr} {kss : List (List K)} {vs : List Value} : IsTupleKey knd h ks b → RowsAt knd h kss vs → RowsAt knd h (ks :: kss) (.ref b :: vs)
/-- a tuple of such items stands at a -/
def IsNest (knd : KeyKind prog w K) (h : Heap) (kss : List (List K)) (a : Addr) : Prop := ∃ o items n, h.get? a = some o ∧ o.cls = .type "tuple" ∧ o.data = .seq items n ∧ RowsAt knd h kss items.toList
theorem RowsAt.same {h : Heap} {x y : List (List K)} {vs : List Value} (hx : RowsAt knd h x vs) : RowsAt knd h y vs → x = y := by
  induction hx generalizing y with
  | nil => intro hy; cases hy; rfl
  | cons h1 _ ih =>
    intro hy
    cases hy with
    | cons h2 t => rw [h1.inj h2, ih t]
theorem RowsAt.moved {h h' : Heap} {d : Addr} {o : Obj} {es ep} (ho : h.get? d = some o) (hd : o.data = .dict es ep) (hs : Heap.SameBut d h h') {x : List (List K)} {vs : List Value} (hx : RowsAt knd h x vs) : RowsAt knd h' x vs := by
  induction hx with
  | nil => exact .nil
  | cons h1 _ ih => exact .cons (h1.keeps ho hd hs) ih
theorem IsNest.type {s : Shared} {kss : List (List K)} {a : Addr} (x : IsNest knd s.heap kss a) : s.TypeIs (.ref a) "tuple" := x.elim fun o z => z.elim fun _ z => z.elim fun _ z => ⟨o, z.1, z.2.1⟩
theorem IsNest.one {h : Heap} {a : Addr} {x y : List (List K)} (hx : IsNest knd h x a) (hy : IsNest knd h y a) : x = y := by
  obtain ⟨o, i1, n1, e1, _, d1, r1⟩ := hx
  obtain ⟨o2, i2, n2, e2, _, d2, r2⟩ := hy
  rw [e1] at e2
  cases e2
  rw [d1] at d2
  cases d2
  exact r1.same r2
theorem IsNest.moved {h h' : Heap} {kss : List (List K)} {a d : Addr} {o : Obj} {es ep} (x : IsNest knd h kss a) (ho : h.get? d = some o) (hd : o.data = .dict es ep) (hs : Heap.SameBut d h h') : IsNest knd h' kss a := by
  obtain ⟨u, its, n, e, c, dd, r⟩ := x
  have ne : a ≠ d := fun z => by
    rw [z, ho] at e
    cases e
    rw [hd] at dd
    cases dd
  exact ⟨u, its, n, (hs.2 a ne).trans e, c, dd, r.moved ho hd hs⟩
def nestHash (knd : KeyKind prog w K) (kss : List (List K)) : Int := reduceHash (Builtin.Tuple.tupleHashOf (kss.map (tupleKeyHash knd)))
def nestDraws (kss : List (List K)) : Nat := (kss.map fun ks => ks.length + 1).sum + 1
variable {A : Around} {E : Value → Shared → Prop} {s : Shared}
theorem nest_hash {kss : List (List K)} {a : Addr} {Q : Int → Shared → Prop} (room : A.units + 8 < cLine) (x : IsNest knd s.heap kss a) (q : Q (nestHash knd kss) { s with toks := s.toks + nestDraws kss }) : wpAny (model prog w) A (pyHash (.ref a)) Q E s := by
  have ty := x.type
  obtain ⟨o, items, n, ho, _, hd, hi⟩ := x
  unfold pyHash
  first | unfold pyHashByItsType | skip
  first | refine wpAny_bind (wpAny_cRoomFor_or (.inr (by omega)) ?_) | skip
  refine wpAny_bind (wpAny_specialOf ty F.slot_tuple_hash.lookup ?_)
  rw [if_neg (show ¬ (some (Value.builtin "tuple.__hash__") == some Value.none) = true by rw [beq_builtin_none]; exact Bool.false_ne_true)]
  refine wpAny_bind (wpAny_specialOf ty F.slot_tuple_hash.lookup ?_)
  show wpAny _ _ (callSpecialIfBoundUnlessNone? (.ref a) "__hash__" _ >>= _) Q E s
  refine wpAny_bind (wpAny_callSpecialIfBoundUnlessNone?_slot ty F.slot_tuple_hash (wpAny_call_entry F.slot_tuple_hash ty F.entry_tuple_hash ?_ (F.args_tuple_hash_1 _)))
  show wpAny _ _ (Builtin.Tuple.tupleItemsOf (.ref a) >>= _) _ _ s
  refine wpAny_bind (wpAny_tupleItemsOf ho hd ?_)
  refine wpAny_bind ?_
  rw [← Array.forIn_toList]
  refine wpAny_forIn_list _ (fun rest (b : Array Int) s' => ∃ done left, kss = done ++ left ∧ RowsAt knd s.heap left rest ∧ b.toList = done.map (tupleKeyHash knd) ∧ s' = { s with toks := s.toks + (done.map fun ks => ks.length + 1).sum }) _ ?_ ?_ _ _ ⟨[], kss, rfl, hi, rfl, rfl⟩
  · rintro v rest b s' ⟨done, left, rfl, hl, hb, rfl⟩
    cases hl with
    | @cons ks c kss' _ h1 hl' =>
      refine wpAny_bind (wpAny_pyHash_tuple (knd := knd) (by show A.units + _ < _; omega) h1 ?_)
      have fin : ∃ d2 l2, done ++ ks :: kss' = d2 ++ l2 ∧ RowsAt knd s.heap l2 rest ∧ (b.push (tupleKeyHash knd ks)).toList = d2.map (tupleKeyHash knd) ∧ ({ s with toks := s.toks + (done.map fun ks => ks.length + 1).sum + (ks.length + 1) } : Shared) = { s with toks := s.toks + (d2.map fun ks => ks.length + 1).sum } :=
        ⟨done ++ [ks], kss', by simp, hl', by simp [hb], by simp [Nat.add_assoc]⟩
      first
        | exact wpAny_pure fin
        | exact wpAny_bind (wpAny_pure (wpAny_pure fin))
  · rintro b s' ⟨done, left, rfl, hl, hb, rfl⟩
    cases hl
    rw [List.append_nil] at q
    show wpAny _ _ (retInt (Builtin.Tuple.tupleHashOf b.toList)) _ _ _
    rw [hb]
    refine wpAny_ret_mkInt ?_
    show wpAny _ _ (if (decide (-(2 : Int) ^ 63 ≤ Builtin.Tuple.tupleHashOf (done.map (tupleKeyHash knd))) && decide (Builtin.Tuple.tupleHashOf (done.map (tupleKeyHash knd)) < 2 ^ 63)) = true then _ else _) Q E _
    unfold nestHash reduceHash nestDraws at q
    by_cases c : (decide (-(2 : Int) ^ 63 ≤ Builtin.Tuple.tupleHashOf (done.map (tupleKeyHash knd))) && decide (Builtin.Tuple.tupleHashOf (done.map (tupleKeyHash knd)) < 2 ^ 63)) = true
    · rw [if_pos c] at q ⊢
      exact wpAny_pure (by simpa [Nat.add_assoc] using q)
    · rw [if_neg c] at q ⊢
      exact wpAny_bind (wpAny_rule (wpAny_pure (by simpa [Nat.add_assoc] using q)))
theorem RowsAt.len {h : Heap} {x : List (List K)} {vs : List Value} (hx : RowsAt knd h x vs) : x.length = vs.length := by
  induction hx with
  | nil => rfl
  | cons _ _ ih => rw [List.length_cons, List.length_cons, ih]
theorem nest_eq_tree {x y : List (List K)} {a b : Addr} {P : Fin → Shared → Prop} (room : A.units + 4 < cLine) (hx : IsNest knd s.heap x a) (hy : IsNest knd s.heap y b) (q : P (.done (.ret (.bool (decide (x = y))))) s) :
    wpAny (model prog w) A (Builtin.«tuple.__eq__» ⟨[.ref a, .ref b], []⟩) P E s := by
  have tb := hy.type
  obtain ⟨o1, xs, n1, e1, _, d1, r1⟩ := hx
  obtain ⟨o2, ys, n2, e2, _, d2, r2⟩ := hy
  show wpAny _ _ (isInstance (.ref b) (.type "tuple") >>= _) _ _ s
  refine wpAny_bind (wpAny_isInstance tb isSubtype_tuple_tuple ?_)
  simp only [Bool.not_true, Bool.false_eq_true, if_false]
  refine wpAny_bind (wpAny_tupleItemsOf e1 d1 (wpAny_bind (wpAny_tupleItemsOf e2 d2 (wpAny_bind ?_))))
  refine wpAny_forIn_list _ (fun rest r s' => r.1 = none ∧ s' = s ∧ ∃ x' y' xs' ys', rest = List.zip xs' ys' ∧ RowsAt knd s.heap x' xs' ∧ RowsAt knd s.heap y' ys' ∧ decide (x' = y') = decide (x = y) ∧ (xs'.length == ys'.length) = (xs.size == ys.size)) _ ?_ ?_ _ _ ⟨rfl, rfl, x, y, xs.toList, ys.toList, rfl, r1, r2, rfl, by simp⟩
  · rintro ⟨u, v⟩ rest r s' ⟨hr, rfl, x', y', xs', ys', hz, hx', hy', hdec, hlen⟩
    cases hx' with
    | nil => simp at hz
    | @cons k1 b1 x2 xs2 h1 hx2 =>
      cases hy' with
      | nil => simp at hz
      | @cons k2 b2 y2 ys2 h2 hy2 =>
        rw [List.zip_cons_cons] at hz
        injection hz with hz1 hz2
        injection hz1 with hu hv
        subst hu hv hz2
        refine wpAny_bind (wpAny_eqBool_tuple (knd := knd) (by omega) h1 h2 ?_)
        by_cases hk : k1 = k2
        · subst hk
          rw [decide_eq_true rfl]
          simp only [Bool.not_true, Bool.false_eq_true, if_false]
          refine wpAny_pure ⟨rfl, rfl, x2, y2, xs2, ys2, rfl, hx2, hy2, ?_, by simpa using hlen⟩
          rw [← hdec]
          by_cases e : x2 = y2 <;> simp [e]
        · rw [decide_eq_false hk]
          simp only [Bool.not_false, if_true]
          have f : decide (x = y) = false := by rw [← hdec]; simp [hk]
          rw [f] at q
          exact wpAny_bind (wpAny_pure (wpAny_pure (wpAny_pure q)))
  · rintro ⟨r, r'⟩ s' ⟨hr, rfl, x', y', xs', ys', hz, hx', hy', hdec, hlen⟩
    simp only at hr
    subst hr
    refine wpAny_pure ?_
    have fin : (xs.size == ys.size) = decide (x = y) := by
      rw [← hdec, ← hlen]
      cases hx' with
      | nil => cases hy' <;> simp
      | cons _ _ =>
        cases hy' with
        | nil => simp
        | cons _ _ => simp at hz
    show P (.done (.ret (.bool (xs.size == ys.size)))) s'
    rw [fin]
    exact q
theorem nest_eq {x y : List (List K)} {a b : Addr} {Q : Bool → Shared → Prop} (room : A.units + 8 < cLine) (hx : IsNest knd s.heap x a) (hy : IsNest knd s.heap y b) (q : Q (decide (x = y)) s) : wpAny (model prog w) A (eqBool (.ref a) (.ref b)) Q E s := by
  unfold eqBool
  try with_reducible refine wpAny_holding ?_
  show wpAny _ _ (if (Value.ref a == Value.ref b) = true then _ else _) Q E s
  by_cases c : (Value.ref a == Value.ref b) = true
  · rw [if_pos c]
    have e : a = b := by
      have z := eq_of_beq c
      injection z
    subst e
    obtain rfl := hx.one hy
    exact wpAny_bind (wpAny_rule (wpAny_pure (by simpa using q)))
  · rw [if_neg c]
    exact wpAny_bind (wpAny_richCompare_same_room (op := .Eq) hx.type hy.type F.slot_tuple_eq (wpAny_call_entry F.slot_tuple_eq hx.type F.entry_tuple_eq (nest_eq_tree (by show A.units + _ + _ < _; omega) hx hy ⟨_, rfl, (fun e => nomatch e), wpAny_truthy_bool q⟩) (F.args_tuple_eq_2 _ _)) (by omega))
/-- its comparison runs no code of the program's, at any depth above 0 -/
theorem key_quiet {n : Nat} {ks : List K} {a : Addr} {Q : Bool → Shared → Prop} (x : IsTupleKey knd s.heap ks a) (q : Q true s) : wpAny (model prog w) A (eqIsQuiet (n + 1) (.ref a)) Q E s := by
  have ty := x.typeIs
  obtain ⟨o, items, m, ho, _, hd, hi⟩ := x
  unfold eqIsQuiet
  refine wpAny_bind (wpAny_specialOf ty F.slot_tuple_eq.lookup ?_)
  show wpAny _ _ (isInstance (.ref a) (.type "tuple") >>= _) _ _ s
  refine wpAny_bind (wpAny_isInstance ty isSubtype_tuple_tuple ?_)
  simp only [Bool.not_true, Bool.false_eq_true, if_false]
  refine wpAny_bind (wpAny_seqItems ho hd (wpAny_bind ?_))
  show wpAny _ _ (forIn items _ _) _ _ s
  rw [← Array.forIn_toList]
  refine wpAny_forIn_list _ (fun rest r s' => r.1 = none ∧ s' = s ∧ ∀ v ∈ rest, carriedByValue v = true) _ ?_ ?_ _ _ ⟨rfl, rfl, hi.byValue⟩
  · rintro v rest r s' ⟨_, rfl, all⟩
    rw [eqIsQuiet_byValue _ (all v List.mem_cons_self)]
    refine wpAny_bind (wpAny_pure ?_)
    simp only [Bool.not_true, Bool.false_eq_true, if_false]
    exact wpAny_pure ⟨rfl, rfl, fun u hu => all u (List.mem_cons_of_mem _ hu)⟩
  · rintro ⟨r, r'⟩ s' ⟨hr, rfl, _⟩
    simp only at hr
    subst hr
    exact wpAny_pure q
theorem nest_quiet {kss : List (List K)} {a : Addr} {Q : Bool → Shared → Prop} (x : IsNest knd s.heap kss a) (q : Q true s) : wpAny (model prog w) A (eqIsQuiet 8 (.ref a)) Q E s := by
  have ty := x.type
  obtain ⟨o, items, m, ho, _, hd, hi⟩ := x
  unfold eqIsQuiet
  refine wpAny_bind (wpAny_specialOf ty F.slot_tuple_eq.lookup ?_)
  show wpAny _ _ (isInstance (.ref a) (.type "tuple") >>= _) _ _ s
  refine wpAny_bind (wpAny_isInstance ty isSubtype_tuple_tuple ?_)
  simp only [Bool.not_true, Bool.false_eq_true, if_false]
  refine wpAny_bind (wpAny_seqItems ho hd (wpAny_bind ?_))
  show wpAny _ _ (forIn items _ _) _ _ s
  rw [← Array.forIn_toList]
  refine wpAny_forIn_list _ (fun rest r s' => r.1 = none ∧ s' = s ∧ ∃ left, RowsAt knd s.heap left rest) _ ?_ ?_ _ _ ⟨rfl, rfl, kss, hi⟩
  · rintro v rest r s' ⟨_, rfl, left, hl⟩
    cases hl with
    | cons h1 hl' =>
      refine wpAny_bind (key_quiet h1 ?_)
      simp only [Bool.not_true, Bool.false_eq_true, if_false]
      exact wpAny_pure ⟨rfl, rfl, _, hl'⟩
  · rintro ⟨r, r'⟩ s' ⟨hr, rfl, _⟩
    simp only at hr
    subst hr
    exact wpAny_pure q
end
/-- keys that are tuples of tuples -/
def nestKind {prog : Program} {w : World} {K : Type} [DecidableEq K] (knd : KeyKind prog w K) : HeapKind prog w (List (List K)) where
  is := IsNest knd
  hash := nestHash knd
  draws := nestDraws
  room := fun A => A.units + 8 < cLine
  inj := fun hx hy => hx.one hy
  keeps := fun x ho hd hs => x.moved ho hd hs
  pyHash := fun room x q => nest_hash room x q
  eqBool := fun room hx hy q => nest_eq room hx hy q
  quiet := fun x q => nest_quiet x q
end Nest
end
/-! ### DN -/
section
set_option Elab.async false
set_option linter.all false
set_option maxRecDepth 100000
set_option maxHeartbeats 4000000
/-! Dicts whose keys are tuples of tuples of keys, on the abstract heap. -/
namespace DN
abbrev St := L2.St
open PySem PySem.Spec PyProof.Rows L2 Nest
abbrev NK := List (List Key)
abbrev nK (P : Program) (w : World) : HeapKind P w NK := nestKind (mixKind P w)
/-- a tuple of tuples of keys, all tracked -/
def NestH (H : Hp) (b : Addr) (k : NK) : Prop := ∃ cs : List Addr, H b = some (.tup (cs.map V.ref)) ∧ Paired (fun c ks => H c = some (.tup (ks.map kV))) cs k
def NPair : List (NK × Addr × V) → List (NK × Addr × Value) → Prop := Paired fun p q => p.1 = q.1 ∧ p.2.1 = q.2.1 ∧ RelV p.2.2 q.2.2
def TabN (P : Program) (w : World) (h : Heap) (a : Addr) (kvs : List (NK × Addr × V)) : Prop := kvs.length ≤ sizeLine ∧ (a == sysModules) = false ∧ ∃ xs, NPair kvs xs ∧
  ∃ o es ep, h.get? a = some o ∧ o.ExactDict ∧ o.data = .dict es ep ∧ es.toList = xs.map (entryOfKey (nK P w)) ∧ (xs.map (·.1)).Nodup
def dN (P : Program) (w : World) (a : Addr) (kvs : List (NK × Addr × V)) : HO := .ext fun h => TabN P w h a kvs
def KeysH (H : Hp) (kvs : List (NK × Addr × V)) : Prop := ∀ p ∈ kvs, NestH H p.2.1 p.1
def valN (kvs : List (NK × Addr × V)) (k : NK) : Option V := (kvs.find? fun p => decide (p.1 = k)).map (·.2.2)
section
variable {P : Program} {w : World} {H : Hp} {h : Heap} {a b : Addr}
theorem TabN.ok {kvs : List (NK × Addr × V)} (t : TabN P w h a kvs) : ObjOk P w H h a (dN P w a kvs) := by
  refine ⟨t, ?_, fun h1 h2 q k => ?_⟩
  · obtain ⟨_, _, _, _, o, _, _, e, _⟩ := t
    exact ⟨o, e⟩
  · obtain ⟨z, y, xs, r, o, es, ep, e, c⟩ := q
    exact ⟨z, y, xs, r, o, es, ep, k _ e, c⟩
theorem tab_of {kvs : List (NK × Addr × V)} (ok : HOk P w H h) (e : H a = some (dN P w a kvs)) : TabN P w h a kvs :=
  (show ObjOk P w H h a (dN P w a kvs) from ok a _ e).1
theorem vals_refs {cs : List Addr} : ∀ {its : List Value}, Vals (cs.map V.ref) its → its = cs.map Value.ref := by
  induction cs with
  | nil => intro its r; rw [List.map_nil] at r; cases r; rfl
  | cons c cs ih =>
    intro its r
    rw [List.map_cons] at r
    cases r with
    | @cons _ v _ vs h t =>
      rw [ih t, List.map_cons]
      congr 1
theorem nest_is {k : NK} (ok : HOk P w H h) (n : NestH H b k) : IsNest (mixKind P w) h k b := by
  obtain ⟨cs, e, r⟩ := n
  obtain ⟨_, its, rv, o, h1, h2, m, h3⟩ := (show ObjOk P w H h b (.tup (cs.map V.ref)) from ok b _ e)
  refine ⟨o, its.toArray, m, h1, h2, h3, ?_⟩
  rw [vals_refs rv]
  have all : ∀ {cs : List Addr} {k : NK}, Paired (fun c ks => H c = some (.tup (ks.map kV))) cs k → RowsAt (mixKind P w) h k (cs.map Value.ref) := by
    intro cs k r
    induction r with
    | nil => exact .nil
    | cons q t ih => exact .cons (key_of ok q) ih
  simpa using all r
theorem nk_len : ∀ {kvs : List (NK × Addr × V)} {xs : List (NK × Addr × Value)}, NPair kvs xs → kvs.length = xs.length
  | _, _, .nil => rfl
  | _, _, .cons r t => by rw [List.length_cons, List.length_cons, nk_len t]
theorem nk_at {k : NK} : ∀ {kvs : List (NK × Addr × V)} {xs : List (NK × Addr × Value)}, NPair kvs xs → RelO (valN kvs k) ((atKey xs k).map (·.2))
  | _, _, .nil => True.intro
  | p :: _, q :: qs, .cons r t => by
    have ih := nk_at (k := k) t
    obtain ⟨h1, _, h2⟩ := r
    unfold valN atKey at *
    rw [List.find?_cons, List.find?_cons]
    by_cases e : p.1 = k
    · rw [decide_eq_true e, decide_eq_true (h1.symm.trans e)]
      exact h2
    · rw [decide_eq_false e, decide_eq_false (fun z => e (h1.trans z))]
      exact ih
theorem nk_snoc {p : NK × Addr × V} {q : NK × Addr × Value} (r : p.1 = q.1 ∧ p.2.1 = q.2.1 ∧ RelV p.2.2 q.2.2) : ∀ {kvs : List (NK × Addr × V)} {xs : List (NK × Addr × Value)}, NPair kvs xs → NPair (kvs ++ [p]) (xs ++ [q])
  | _, _, .nil => .cons r .nil
  | _, _, .cons r0 t => .cons r0 (nk_snoc r t)
theorem nk_keys {H : Hp} (ok : HOk P w H h) : ∀ {kvs : List (NK × Addr × V)} {xs : List (NK × Addr × Value)}, NPair kvs xs → KeysH H kvs → ∀ x ∈ xs, (nK P w).is h x.1 x.2.1
  | _, _, .nil, _ => fun x hx => nomatch hx
  | p :: _, q :: _, .cons r t, k => fun x hx => by
    rcases List.mem_cons.mp hx with e | hx
    · subst e
      have z := nest_is ok (k p List.mem_cons_self)
      rw [r.1, r.2.1] at z
      exact z
    · exact nk_keys ok t (fun y hy => k y (List.mem_cons_of_mem _ hy)) x hx
theorem dictOf {kvs : List (NK × Addr × V)} (ok : HOk P w H h) (e : H a = some (dN P w a kvs)) (ks : KeysH H kvs) : kvs.length ≤ sizeLine ∧ (a == sysModules) = false ∧ ∃ xs, NPair kvs xs ∧ h.DictOfH (nK P w) a xs := by
  obtain ⟨z, y, xs, r, o, es, ep, h1, h2, h3, h4, h5⟩ := tab_of ok e
  exact ⟨z, y, xs, r, o, es, ep, h1, h2, h3, h4, nk_keys ok r ks, h5⟩
end
section
variable {X : Cx} {pins : List (Addr × Obj)} {σ : L2.St} {H : Hp} {s : Shared} {a b : Addr} {k : NK} {kvs : List (NK × Addr × V)} {v : V} {r : Value} {A : Around} {E : Value → Shared → Prop}
theorem n_getItem {Q : Value → Shared → Prop} (hu : A.units + 64 < cLine) (I : Inv X pins σ H s) (e : H a = some (dN X.prog X.w a kvs)) (ks : KeysH H kvs) (n : NestH H b k) (g : valN kvs k = some v) (h : ∀ w' s', Inv X pins σ H s' → RelV v w' → Q w' s') :
    wpAny (model X.prog X.w) A (getItem (.ref a) (.ref b)) Q E s := by
  obtain ⟨z, hd, xs, rel, dd⟩ := dictOf I.hok e ks
  obtain ⟨w', hw, rw'⟩ := RelO.some_of (v := v) (o := (atKey xs k).map (·.2)) (by rw [← g]; exact nk_at rel)
  obtain ⟨p, hp, hp2⟩ := Option.map_eq_some_iff.mp hw
  refine wpAny_getItem_heap (knd := nK X.prog X.w) (by show A.units + _ + 8 < _; omega) (nest_is I.hok n) dd hp ?_
  rw [hp2]
  exact h w' _ (I.tok _) rw'
theorem n_notIn {Q : Value → Shared → Prop} (hu : A.units + 64 < cLine) (I : Inv X pins σ H s) (e : H a = some (dN X.prog X.w a kvs)) (ks : KeysH H kvs) (n : NestH H b k) (h : ∀ s', Inv X pins σ H s' → Q (.bool (!(valN kvs k).isSome)) s') :
    wpAny (model X.prog X.w) A (compareOp .NotIn (.ref b) (.ref a)) Q E s := by
  obtain ⟨z, hd, xs, rel, dd⟩ := dictOf I.hok e ks
  refine wpAny_notIn_heap (knd := nK X.prog X.w) (by show A.units + _ + 8 < _; omega) (nest_is I.hok n) hd dd ?_
  have q := (nk_at (k := k) rel).isSome_eq
  rw [Option.isSome_map] at q
  rw [← q]
  exact h _ (I.tok _)
theorem n_setItem {Q : Unit → Shared → Prop} (hu : A.units + 64 < cLine) (I : Inv X pins σ H s) (e : H a = some (dN X.prog X.w a kvs)) (ks : KeysH H kvs) (n : NestH H b k) (g : valN kvs k = none) (l : kvs.length < sizeLine) (rv : RelV v r)
    (h : ∀ s', Inv X pins σ (upd H a (dN X.prog X.w a (kvs ++ [(k, b, v)]))) s' → Q () s') : wpAny (model X.prog X.w) A (setItem (.ref a) (.ref b) r) Q E s := by
  obtain ⟨z, hd, xs, rel, dd⟩ := dictOf I.hok e ks
  have hz : xs.length ≤ sizeLine := by rw [← nk_len rel]; exact z
  have hn : atKey xs k = none := by
    have q := (nk_at (k := k) rel)
    rw [g] at q
    have q2 := RelO.none_of q
    exact Option.map_eq_none_iff.mp q2
  refine wpAny_setItem_heap (knd := nK X.prog X.w) (hsz := hz) (by show A.units + _ + 8 < _; omega) (nest_is I.hok n) dd fun h' dd' hs => h _ ?_
  rw [storedH_new hn] at dd'
  obtain ⟨q, es, ep, hq, h2, h3, h4, _, h5⟩ := dd'
  exact d_write I (by rw [e]; exact True.intro) hs ⟨q, hq⟩ (TabN.ok ⟨by rw [List.length_append]; exact l, hd, _, nk_snoc ⟨rfl, rfl, rv⟩ rel, q, es, ep, hq, h2, h3, h4, h5⟩)
end
def tNGet (P : Program) (w : World) (td ty : TE) : TE := fun σ H Q => td σ H fun x H1 => ty σ H1 fun y H2 => ∃ a b k kvs v, x = .ref a ∧ y = .ref b ∧ H2 a = some (dN P w a kvs) ∧ KeysH H2 kvs ∧ NestH H2 b k ∧ valN kvs k = some v ∧ Q v H2
def tNNotIn (P : Program) (w : World) (ty td : TE) : TE := fun σ H Q => ty σ H fun y H1 => td σ H1 fun x H2 => ∃ a b k kvs, x = .ref a ∧ y = .ref b ∧ H2 a = some (dN P w a kvs) ∧ KeysH H2 kvs ∧ NestH H2 b k ∧ Q (.bl (!(valN kvs k).isSome)) H2
def sNPut (P : Program) (w : World) (td ty tv : TE) : TS := fun D σ H => tv σ H fun v H1 => td σ H1 fun x H2 => ty σ H2 fun y H3 => ∃ a b k kvs, x = .ref a ∧ y = .ref b ∧ H3 a = some (dN P w a kvs) ∧ KeysH H3 kvs ∧ NestH H3 b k ∧ valN kvs k = none ∧ kvs.length < sizeLine ∧ D.nx σ (upd H3 a (dN P w a (kvs ++ [(k, b, v)])))
def tNOne (P : Program) (w : World) (tk tv : TE) : TE := fun σ H Q => ∀ p, H p = none → tk σ (upd H p (.dK [])) fun x H1 => tv σ H1 fun y H2 => H2 p = some (.dK []) ∧ ∃ b k, x = .ref b ∧ NestH H2 b k ∧ Q (.ref p) (upd H2 p (dN P w p [(k, b, y)]))
section
variable {X : Cx} {o i e value ke ve : Expr} {pos pos' tpos : Pos} {td ty tv tk : TE}
theorem pe_nget (hu : X.A.units + 64 < cLine) (ho : PE X o td) (hi : PE X i ty) (hs : NoSl i) : PE X (.Subscript o i pos) (tNGet X.prog X.w td ty) := by
  refine ⟨fun pins s σ H Q I h => ?_⟩
  refine subD_of PySem.F.slot_dict_getitem.lookup hs (thn (ho.run pins s σ H _ I h) fun u s1 ⟨x, H1, I1, rx, q1⟩ => thn (hi.run pins s1 σ H1 _ I1 q1) fun iv s2 ⟨y, H2, I2, ry, a, b, k, kvs, v, ex, ey, ed, ks, n, g, q2⟩ => ?_)
  subst ex ey
  obtain rfl : u = Value.ref a := rx
  obtain rfl : iv = Value.ref b := ry
  obtain ⟨_, _, xs, _, dd⟩ := dictOf I2.hok ed ks
  exact ⟨dd.typeIs, n_getItem hu I2 ed ks n g fun w' s3 I3 rw' => ⟨v, H2, I3, rw', q2⟩⟩
theorem pc_nnotin (hu : X.A.units + 64 < cLine) (hi : PE X i ty) (ho : PE X o td) : PC X .NotIn i o (tNNotIn X.prog X.w ty td) := by
  refine ⟨fun pins s σ H Q I h => ?_⟩
  refine thn (hi.run pins s σ H _ I h) fun iv s1 ⟨y, H1, I1, ry, q1⟩ => thn (ho.run pins s1 σ H1 _ I1 q1) fun u s2 ⟨x, H2, I2, rx, a, b, k, kvs, ex, ey, ed, ks, n, q2⟩ => ?_
  subst ex ey
  obtain rfl : u = Value.ref a := rx
  obtain rfl : iv = Value.ref b := ry
  exact n_notIn hu I2 ed ks n fun s3 I3 => ⟨.bl (!(valN kvs k).isSome), H2, I3, rfl, q2⟩
theorem ps_nput (hu : X.A.units + 64 < cLine) (ho : PE X o td) (hi : PE X i ty) (hv : PE X value tv) (hs : swapsWith value (some (.Subscript o i pos')) pos.line X.env = pure false) :
    PS X (.Assign [.Subscript o i pos'] value pos) (sNPut X.prog X.w td ty tv) := by
  refine ⟨fun pins s σ H D I h => ?_⟩
  refine wpAny_Assign_Subscript (thn (hv.run pins s σ H _ I h) fun r s1 ⟨v, H1, I1, rv, q1⟩ => thn (ho.run pins s1 σ H1 _ I1 q1) fun u s2 ⟨x, H2, I2, rx, q2⟩ => thn (hi.run pins s2 σ H2 _ I2 q2) fun iv s3 ⟨y, H3, I3, ry, a, b, k, kvs, ex, ey, ed, ks, n, g, l, q3⟩ => ?_) hs
  subst ex ey
  obtain rfl : u = Value.ref a := rx
  obtain rfl : iv = Value.ref b := ry
  exact n_setItem hu I3 ed ks n g l rv fun s4 I4 => ⟨σ, _, I4, q3⟩
theorem pe_none1 (hu : X.A.units + 64 < cLine) (hk : PE X ke tk) (hv : PE X ve tv) : PE X (.Dict [some ke] [ve] pos) (tNOne X.prog X.w tk tv) := by
  refine ⟨fun pins s σ H Q I q => ?_⟩
  have hn := I.hok.fresh (Nat.le_refl s.heap.objs.size)
  have I1 := I.laid (a := s.heap.objs.size) (o := .dK []) (h' := s.heap.push { cls := .type "dict", data := .dict #[] }) (t' := s.toks) (fun _ _ q => Heap.get?_push_of_some _ q) (Nat.le_refl _) (dk_empty s.heap I.big)
  refine wpAny_Dict_any rfl rfl (by simp) (by show 1 ≤ 15; decide) (pairTrees_cons_walk (thn (hk.run pins _ σ _ _ I1 (q _ hn)) fun u s1 ⟨x, H1, I1', rx, q1⟩ => thn (hv.run pins s1 σ H1 _ I1' q1) fun vv s2 ⟨y, H2, I2, ry, ed, b, k, ex, n, q2⟩ => pairTrees_nil_walk ?_))
  subst ex
  obtain rfl : u = Value.ref b := rx
  obtain ⟨z, hd, vs0, r0, o, es, ep, ho, hx, hda, hko, hpr, hnd⟩ := dk_of I2.hok ed
  cases r0
  have hes : es.toList = [] := by
    cases e : es.toList with
    | nil => rfl
    | cons c l => rw [e] at hpr; cases hpr
  have dd : s2.heap.DictOfH (nK X.prog X.w) s.heap.objs.size [] := ⟨o, es, ep, ho, hx, hda, by rw [hes]; rfl, fun _ hx => by simp at hx, List.nodup_nil⟩
  unfold storeAll
  rw [List.forIn_cons]
  refine wpAny_bind (wpAny_bind (wpAny_dictSet_heap (knd := nK X.prog X.w) (hsz := Nat.zero_le _) (by show X.A.units + 8 < _; omega) (nest_is I2.hok n) dd fun h' dd' hs => wpAny_pure ?_))
  dsimp only
  rw [List.forIn_nil]
  refine wpAny_pure ?_
  rw [storedH_new rfl] at dd'
  obtain ⟨q, es', ep', hq, h2, h3, h4, _, h5⟩ := dd'
  refine ⟨.ref s.heap.objs.size, _, d_write I2 (by rw [ed]; exact True.intro) hs ⟨q, hq⟩ (TabN.ok ⟨by show 1 ≤ sizeLine; decide, hd, _, .cons ⟨rfl, rfl, ry⟩ .nil, q, es', ep', hq, h2, h3, h4, h5⟩), rfl, q2⟩
end
end DN
end
/-! ### R3a -/
section
set_option Elab.async false
set_option linter.all false
set_option maxRecDepth 100000
set_option maxHeartbeats 4000000
/-! What reader_of makes. -/
namespace K0
open PySem PySem.Spec PyProof.Rows L2 Rd DN
/-! ### a pair in a tuple of pairs -/
def rInT (K : PySem.W.Frag) : R2 := fun x y H Q => ∃ d ds, Dp K H x d ∧ Dp K H y (.tuple ds) ∧ SeqAt.shaped d = true ∧ SeqAt.shaped (.tuple ds) = true ∧ Q (.bl (ds.any fun z => PyData.eqv z d)) H
theorem op_inT {X : Cx} (K : PySem.W.Frag) (e : X.K = K) (hu : X.A.units + 65 < cLine) : OpR X (compareOp .In) (rInT K) := by
  subst e
  intro pins s σ H x y v u Q I rx ry h
  obtain ⟨d, ds, hd, he, sd, se, q⟩ := h
  obtain ⟨as, r1⟩ := Dp.reads I d x v hd rx
  obtain ⟨bs, r2⟩ := Dp.reads I (.tuple ds) y u he ry
  exact SeqAt.in_tuple_reads r2 r1 (SeqAt.canLay_of_shaped se) (SeqAt.canLay_of_shaped sd) (room_in_shaped sd hu) ⟨.bl _, H, I, rfl, q⟩
def dPl (p : Pl) : PyData := .tuple [.int (p.1 : Nat), .int (p.2 : Nat)]
theorem eqv_pl (p q : Pl) : PyData.eqv (dPl p) (dPl q) = decide (p = q) := by
  show (((p.1 : Nat) : Int) == ((q.1 : Nat) : Int) && (((p.2 : Nat) : Int) == ((q.2 : Nat) : Int) && true)) = _
  rw [Bool.and_true]
  obtain ⟨a, b⟩ := p
  obtain ⟨c, d⟩ := q
  by_cases h1 : a = c
  · by_cases h2 : b = d
    · subst h1 h2; simp
    · have : ¬ ((b : Int) = (d : Int)) := by omega
      simp [h2, this]
  · have : ¬ ((a : Int) = (c : Int)) := by omega
    simp [h1, this]
theorem any_pl (q : Pl) : ∀ l : List Pl, ((l.map dPl).any fun z => PyData.eqv z (dPl q)) = decide (q ∈ l)
  | [] => rfl
  | p :: l => by
    rw [List.map_cons, List.any_cons, any_pl q l, eqv_pl]
    by_cases h : p = q
    · subst h; simp
    · have : ¬ q = p := fun e => h e.symm
      simp [h, this]
theorem dp_pair {K : PySem.W.Frag} {H : Hp} {c : Addr} {p : Pl} (h : H c = some (pairO p)) : Dp K H (.ref c) (dPl p) := .tup (.of h) (.cons (.int _) (.cons (.int _) .nil))
theorem dp_places {K : PySem.W.Frag} {H : Hp} {b : Addr} {ps : List Pl} (h : PlacesAt H b ps) : Dp K H (.ref b) (.tuple (ps.map dPl)) := by
  obtain ⟨cs, e, r⟩ := h
  refine .tup (.of e) ?_
  clear e
  induction r with
  | nil => exact .nil
  | cons r t ih => exact .cons (dp_pair r) ih
/-! ### keys -/
def nkOf (ps : List Pl) : NK := ps.map fun p => [Sum.inl ((p.1 : Nat) : Int), Sum.inl ((p.2 : Nat) : Int)]
theorem nkOf_inj : ∀ {ps qs : List Pl}, nkOf ps = nkOf qs → ps = qs
  | [], [], _ => rfl
  | [], _ :: _, h => by cases h
  | _ :: _, [], h => by cases h
  | (a, b) :: ps, (c, d) :: qs, h => by
    unfold nkOf at h
    rw [List.map_cons, List.map_cons] at h
    injection h with h1 h2
    have z := nkOf_inj h2
    injection h1 with h3 h4
    injection h3 with h3
    injection h4 with h4 _
    injection h4 with h4
    have e1 : a = c := Int.ofNat_inj.mp h3
    have e2 : b = d := Int.ofNat_inj.mp h4
    rw [z, e1, e2]
theorem PlacesAt.nest {H : Hp} {b : Addr} {ps : List Pl} (h : PlacesAt H b ps) : NestH H b (nkOf ps) := by
  obtain ⟨cs, e, r⟩ := h
  refine ⟨cs, e, ?_⟩
  clear e
  induction r with
  | nil => exact .nil
  | cons r t ih => exact .cons r ih
abbrev Zs := List (Addr × List Pl)
def kvN : Nat → Zs → List (NK × Addr × V)
  | _, [] => []
  | n, z :: r => (nkOf z.2, z.1, .int (n : Nat)) :: kvN (n + 1) r
theorem kvN_snoc (z : Addr × List Pl) : ∀ (n : Nat) (l : Zs), kvN n (l ++ [z]) = kvN n l ++ [(nkOf z.2, z.1, .int ((n + l.length : Nat) : Int))]
  | n, [] => rfl
  | n, y :: l => by
    rw [List.cons_append, kvN, kvN_snoc z (n + 1) l, kvN, List.cons_append, List.length_cons]
    rw [show n + 1 + l.length = n + (l.length + 1) by omega]
theorem kvN_len : ∀ (n : Nat) (l : Zs), (kvN n l).length = l.length
  | _, [] => rfl
  | n, _ :: l => by rw [kvN, List.length_cons, kvN_len (n + 1) l, List.length_cons]
abbrev stsOf (zs : Zs) : List (List Pl) := zs.map (·.2)
theorem valN_kvN (p : List Pl) : ∀ (n : Nat) (zs : Zs), valN (kvN n zs) (nkOf p) = if p ∈ stsOf zs then some (.int ((n + (stsOf zs).idxOf p : Nat) : Int)) else none
  | n, [] => rfl
  | n, z :: zs => by
    have ih := valN_kvN p (n + 1) zs
    unfold valN at ih ⊢
    rw [kvN, List.find?_cons]
    by_cases e : z.2 = p
    · have h1 : decide (nkOf z.2 = nkOf p) = true := decide_eq_true (by rw [e])
      rw [h1]
      have h2 : p ∈ stsOf (z :: zs) := by rw [← e]; exact List.mem_cons_self
      rw [if_pos h2]
      show some (V.int (n : Nat)) = _
      rw [show stsOf (z :: zs) = p :: stsOf zs by rw [← e]; rfl, List.idxOf_cons_self]
      rfl
    · have h1 : decide (nkOf z.2 = nkOf p) = false := decide_eq_false fun q => e (nkOf_inj q)
      rw [h1]
      show (List.find? _ (kvN (n + 1) zs)).map _ = _
      rw [ih]
      have e2 : ¬ p = z.2 := fun q => e q.symm
      by_cases h : p ∈ stsOf zs
      · have h3 : p ∈ stsOf (z :: zs) := List.mem_cons_of_mem _ h
        rw [if_pos h, if_pos h3]
        show _ = some (V.int ((n + (z.2 :: stsOf zs).idxOf p : Nat) : Int))
        rw [show (z.2 :: stsOf zs).idxOf p = (stsOf zs).idxOf p + 1 by
          unfold List.idxOf
          rw [List.findIdx_cons]
          have h5 : (z.2 == p) = false := beq_eq_false_iff_ne.mpr e
          rw [h5]
          rfl]
        rw [show n + 1 + (stsOf zs).idxOf p = n + ((stsOf zs).idxOf p + 1) by omega]
      · have h3 : ¬ p ∈ stsOf (z :: zs) := fun q => by
          rcases List.mem_cons.mp q with q | q
          · exact e2 q
          · exact h q
        rw [if_neg h, if_neg h3]
theorem keysN {H : Hp} : ∀ {n : Nat} {zs : Zs}, (∀ z ∈ zs, PlacesAt H z.1 z.2) → KeysH H (kvN n zs)
  | _, [], _ => fun p hp => by cases hp
  | n, z :: zs, h => fun p hp => by
    rw [kvN] at hp
    rcases List.mem_cons.mp hp with rfl | hp
    · exact (h z List.mem_cons_self).nest
    · exact keysN (fun y hy => h y (List.mem_cons_of_mem _ hy)) p hp
/-! ### rows -/
abbrev sgs : List Nat := allSigns.cps.toList
def rowL (rs : List RunD) (sts : List (List Pl)) (ps : List Pl) (l : List Nat) : List (Key × V) :=
  l.filterMap fun s => if behind rs ps s = [] then none else some (.inr (oneS s), .int ((sts.idxOf (behind rs ps s) : Nat) : Int))
theorem rowL_snoc {rs : List RunD} {sts : List (List Pl)} {ps : List Pl} {l : List Nat} {s : Nat} : rowL rs sts ps (l ++ [s]) = rowL rs sts ps l ++ (if behind rs ps s = [] then [] else [(.inr (oneS s), .int ((sts.idxOf (behind rs ps s) : Nat) : Int))]) := by
  unfold rowL
  rw [List.filterMap_append]
  congr 1
  by_cases h : behind rs ps s = []
  · rw [if_pos h, List.filterMap_cons, if_pos h]; rfl
  · rw [if_neg h, List.filterMap_cons, if_neg h]; rfl
theorem rowL_grow {rs : List RunD} {sts m : List (List Pl)} {ps : List Pl} : ∀ {l : List Nat}, (∀ s ∈ l, behind rs ps s = [] ∨ behind rs ps s ∈ sts) → rowL rs (sts ++ m) ps l = rowL rs sts ps l
  | [], _ => rfl
  | s :: l, h => by
    have ih := rowL_grow (m := m) fun x hx => h x (List.mem_cons_of_mem _ hx)
    unfold rowL at ih ⊢
    rw [List.filterMap_cons, List.filterMap_cons, ih]
    by_cases z : behind rs ps s = []
    · rw [if_pos z, if_pos z]
    · rw [if_neg z, if_neg z]
      have z2 : behind rs ps s ∈ sts := (h s List.mem_cons_self).resolve_left z
      rw [List.idxOf_append, if_pos z2]
theorem rowL_keys {rs : List RunD} {sts : List (List Pl)} {ps : List Pl} {l : List Nat} {s : Nat} (h : s ∉ l) : ((rowL rs sts ps l).any fun kv => decide (kv.1 = Sum.inr (oneS s))) = false := by
  rw [Bool.eq_false_iff]
  intro z
  obtain ⟨kv, hk, e⟩ := List.any_eq_true.mp z
  unfold rowL at hk
  obtain ⟨t, ht, e2⟩ := List.mem_filterMap.mp hk
  have e := of_decide_eq_true e
  by_cases q : behind rs ps t = []
  · rw [if_pos q] at e2; cases e2
  · rw [if_neg q] at e2
    cases e2
    injection e with e
    injection e with e
    injection e with e
    injection e with e
    exact h (e ▸ ht)
theorem putK_new {α : Type} [DecidableEq α] {kvs : List (α × V)} {k : α} {v : V} (h : (kvs.any fun kv => decide (kv.1 = k)) = false) : putK kvs k v = kvs ++ [(k, v)] := by
  unfold putK
  rw [h]
  rfl
theorem rowL_len {rs : List RunD} {sts : List (List Pl)} {ps : List Pl} {l : List Nat} : (rowL rs sts ps l).length ≤ l.length := List.length_filterMap_le _ _
/-! ### the states -/
structure Sts (rs : List RunD) (sts : List (List Pl)) : Prop where
  nd : sts.Nodup
  hd : sts[0]? = some (ahead rs 0 0)
  ok : ∀ p ∈ sts, ∀ q ∈ p, OkP rs q
  sub : ∀ p ∈ sts, p.Sublist grid
def Clo (rs : List RunD) (sts : List (List Pl)) (ps : List Pl) (l : List Nat) : Prop := ∀ s ∈ l, behind rs ps s = [] ∨ behind rs ps s ∈ sts
theorem Clo.grow {rs : List RunD} {sts m : List (List Pl)} {ps : List Pl} {l : List Nat} (h : Clo rs sts ps l) : Clo rs (sts ++ m) ps l := fun s hs => (h s hs).imp id fun z => List.mem_append_left _ z
theorem Sts.start {rs : List RunD} (g : Good rs) : Sts rs [ahead rs 0 0] := by
  have ok0 : OkP rs (0, 0) := by
    by_cases z : 0 < rs.length
    · exact .inr ⟨rs[0], List.getElem?_eq_getElem z, Nat.zero_le _⟩
    · exact .inl ⟨by show 0 = _; omega, rfl⟩
  have ok := ahead_ok ok0
  refine ⟨by simp, rfl, fun p hp q hq => ?_, fun p hp => ?_⟩
  · rw [List.mem_singleton.mp hp] at hq
    exact ok q hq
  · rw [List.mem_singleton.mp hp]
    have a : Asc (ahead rs 0 0) := (aheadG_asc _ 0 0 (by omega)).1
    rw [asc_canon a (fun p hp => (ok p hp).grid g) (fun _ => Iff.rfl)]
    exact canon_sub _
theorem Sts.more {rs : List RunD} {sts : List (List Pl)} (h : Sts rs sts) {p : List Pl} {s : Nat} (hp : p ∈ sts) (new : behind rs p s ∉ sts) : Sts rs (sts ++ [behind rs p s]) := by
  refine ⟨?_, ?_, fun q hq r hr => ?_, fun q hq => ?_⟩
  · rw [List.nodup_append]
    refine ⟨h.nd, by simp, fun a ha b hb => ?_⟩
    rw [List.mem_singleton.mp hb]
    exact fun e => new (e ▸ ha)
  · rw [List.getElem?_append_left (by
      have z := h.hd
      obtain ⟨hl, _⟩ := List.getElem?_eq_some_iff.mp z
      exact hl)]
    exact h.hd
  · rcases List.mem_append.mp hq with hq | hq
    · exact h.ok q hq r hr
    · rw [List.mem_singleton.mp hq] at hr
      exact behind_ok (h.ok p hp) r hr
  · rcases List.mem_append.mp hq with hq | hq
    · exact h.sub q hq
    · rw [List.mem_singleton.mp hq]
      exact canon_sub _
/-- a reader of some runs -/
def ReaderAt (H : Hp) (t : Addr) (rs : List RunD) : Prop := ∃ (tw tm : Addr) (sts : List (List Pl)) (ra : List Addr), H t = some (.tup [.ref tw, .ref tm]) ∧ H tw = some (.tup (sts.map fun p => V.bl (decide ((rs.length, 0) ∈ p)))) ∧
  H tm = some (.tup (ra.map V.ref)) ∧ Paired (fun a p => H a = some (.dK (rowL rs sts p sgs))) ra sts ∧ Sts rs sts ∧ ∀ p ∈ sts, Clo rs sts p sgs
theorem ReaderAt.same {H H' : Hp} {t : Addr} {rs : List RunD} (h : ReaderAt H t rs) (s : Same H H') : ReaderAt H' t rs := by
  obtain ⟨tw, tm, sts, ra, h1, h2, h3, h4, h5⟩ := h
  exact ⟨tw, tm, sts, ra, s _ _ h1, s _ _ h2, s _ _ h3, pairedI h4 fun _ _ z => s _ _ z, h5⟩
theorem PlacesAt.upd {H : Hp} {x b : Addr} {o o' : HO} {ps : List Pl} (e : H x = some o) (no : ∀ xs, o ≠ .tup xs) (h : PlacesAt H b ps) : PlacesAt (upd H x o') b ps := by
  have st : ∀ y xs, H y = some (.tup xs) → L2.upd H x o' y = some (.tup xs) := fun y xs z => by
    rw [upd_ne (fun q => by rw [q, e] at z; injection z with z; exact no xs z)]
    exact z
  obtain ⟨cs, h1, h2⟩ := h
  exact ⟨cs, st _ _ h1, pairedI h2 fun _ _ z => st _ _ z⟩
theorem can_pls : ∀ ps : List Pl, PyData.canLayAll0 (ps.map dPl) = true
  | [] => rfl
  | p :: ps => by
    rw [List.map_cons, PyData.canLayAll0, can_pls ps]
    rfl
theorem depth_pl (p : Pl) : (dPl p).depth ≤ 2 := by
  unfold dPl
  simp [PyData.depth, PyData.depthAll]
theorem depth_pls : ∀ ps : List Pl, PyData.depthAll (ps.map dPl) ≤ 2
  | [] => by simp [PyData.depthAll]
  | p :: ps => by
    rw [List.map_cons, PyData.depthAll]
    have h1 := depth_pls ps
    have h2 := depth_pl p
    omega
theorem shaped_pl (p : Pl) : SeqAt.shaped (dPl p) = true := by
  unfold SeqAt.shaped
  rw [Bool.and_eq_true]
  exact ⟨rfl, decide_eq_true (Nat.le_trans (depth_pl p) (by decide))⟩
theorem shaped_pls (ps : List Pl) : SeqAt.shaped (.tuple (ps.map dPl)) = true := by
  unfold SeqAt.shaped
  rw [Bool.and_eq_true]
  refine ⟨?_, decide_eq_true ?_⟩
  · rw [PyData.canLay0]
    exact can_pls ps
  · have := depth_pls ps
    rw [PyData.depth]
    omega
end K0
end
/-! ### R3 -/
section
set_option Elab.async false
set_option linter.all false
set_option maxRecDepth 100000
set_option maxHeartbeats 4000000
/-! reader_of. -/
namespace K0
open PySem PySem.Spec PyProof.Rows L2 Rd DN
theorem scReader : FnScope ["runs", "start", "numbers", "states", "moves", "row", "sign", "reached", "wholes", "places"] ["runs"] (defScope (top iReader)) := ⟨rfl, rfl, rfl, by decide +kernel, rfl, by decide +kernel, by decide +kernel⟩
def spReader (K : PySem.W.Frag) : Sp := fun vs H Q _ => ∃ (a : Addr) (rs : List RunD), vs = [.ref a] ∧ RunsAt K H a rs ∧ Good rs ∧ ∀ H' t, Same H H' → H t = none → ReaderAt H' t rs → Q (.ref t) H'
/-- what stands between two turns -/
structure Mid (P : Program) (w : World) (H : Hp) (dn ls lm : Addr) (rs : List RunD) (zs : Zs) (ra : List Addr) (H' : Hp) : Prop where
  s : Same H H'
  d : H' dn = some (dN P w dn (kvN 0 zs))
  l : H' ls = some (.lst (zs.map fun z => V.ref z.1))
  m : H' lm = some (.lst (ra.map V.ref))
  p : ∀ z ∈ zs, PlacesAt H' z.1 z.2
  st : Sts rs (stsOf zs)
  le : ra.length ≤ zs.length
  ro : Paired (fun a p => H' a = some (.dK (rowL rs (stsOf zs) p sgs))) ra ((stsOf zs).take ra.length)
  cl : ∀ p ∈ (stsOf zs).take ra.length, Clo rs (stsOf zs) p sgs
/-- the same within a turn: a row is begun -/
structure MidR (P : Program) (w : World) (H : Hp) (dn ls lm rw' : Addr) (rs : List RunD) (zs : Zs) (ra : List Addr) (j : Nat) (H' : Hp) : Prop extends Mid P w H dn ls lm rs zs ra H' where
  lt : ra.length < zs.length
  r : ∀ p, (stsOf zs)[ra.length]? = some p → H' rw' = some (.dK (rowL rs (stsOf zs) p (sgs.take j))) ∧ Clo rs (stsOf zs) p (sgs.take j)
  no : rw' ∉ ra
theorem pairedIm {α β : Type} {F G : α → β → Prop} : ∀ {l : List α} {m : List β}, Paired F l m → (∀ a b, a ∈ l → b ∈ m → F a b → G a b) → Paired G l m
  | _, _, .nil, _ => .nil
  | _, _, .cons r t, f => .cons (f _ _ List.mem_cons_self List.mem_cons_self r) (pairedIm t fun a b h1 h2 => f a b (List.mem_cons_of_mem _ h1) (List.mem_cons_of_mem _ h2))
theorem not_before {α : Type} {l : List α} (n : l.Nodup) {m : Nat} {c : α} (h : l[m]? = some c) : c ∉ l.take m := by
  intro hc
  obtain ⟨i, hi⟩ := List.mem_iff_getElem?.mp hc
  rw [List.getElem?_take] at hi
  split at hi
  · rename_i him
    obtain ⟨hl, _⟩ := List.getElem?_eq_some_iff.mp hi
    have := (List.getElem?_inj hl n).mp (hi.trans h.symm)
    omega
  · cases hi
theorem sgs_nodup : sgs.Nodup := by decide +kernel
theorem Mid.same {P : Program} {w : World} {H H' H'' : Hp} {dn ls lm : Addr} {rs : List RunD} {zs : Zs} {ra : List Addr} (M : Mid P w H dn ls lm rs zs ra H') (s : Same H' H'') : Mid P w H dn ls lm rs zs ra H'' where
  s := M.s.trans s
  d := s _ _ M.d
  l := s _ _ M.l
  m := s _ _ M.m
  p := fun z hz => (M.p z hz).same s
  st := M.st
  le := M.le
  ro := pairedI M.ro fun _ _ z => s _ _ z
  cl := M.cl
theorem MidR.same {P : Program} {w : World} {H H' H'' : Hp} {dn ls lm rw' : Addr} {rs : List RunD} {zs : Zs} {ra : List Addr} {j : Nat} (M : MidR P w H dn ls lm rw' rs zs ra j H') (s : Same H' H'') : MidR P w H dn ls lm rw' rs zs ra j H'' where
  toMid := M.toMid.same s
  lt := M.lt
  r := fun p hp => ⟨s _ _ (M.r p hp).1, (M.r p hp).2⟩
  no := M.no
theorem tru_places {K : PySem.W.Frag} {H : Hp} {t : Addr} {ps : List Pl} (h : PlacesAt H t ps) : TruV K (.ref t) H (decide (ps ≠ [])) := by
  obtain ⟨cs, e, r⟩ := h
  refine .inr (.inl ⟨_, .of e, ?_⟩)
  cases r with
  | nil => rfl
  | cons _ _ => rfl
theorem tup_ne_dN {P : Program} {w : World} {a : Addr} {kvs : List (NK × Addr × V)} : ∀ xs, dN P w a kvs ≠ .tup xs := fun xs e => nomatch e
theorem nodup_len_le {zs : Zs} {rs : List RunD} (st : Sts rs (stsOf zs)) : zs.length ≤ 1048576 := by
  have := states_few st.nd st.sub
  rw [List.length_map] at this
  exact this
section
variable {P : Program} {w : World} {K : PySem.W.Frag} {mg : Str → Option Value} {base : Heap} {f fB fA : Addr} {fd fdB fdA : FuncData}
theorem ok_reader {k : Nat} (F : FnP K "reader_of" iReader f fd) (mlen : mg "len" = none) (mtuple : mg "tuple" = none) (ms : ∃ t, mg "SIGNS" = some (.str allSigns t))
    (FB : FnOk P w K mg base CX0 (k + 2) fB fdB ["runs", "places", "sign"] (spBehind K)) (gB : mg "places_behind" = some (.ref fB)) (kB : PySem.W.keepIn K (.ref fB) = true) (bB : Binds K fdB ["runs", "places", "sign"] [])
    (FA : FnOk P w K mg base CX0 (k + 2) fA fdA ["runs", "run", "count"] (spAhead K)) (gA : mg "places_ahead" = some (.ref fA)) (kA : PySem.W.keepIn K (.ref fA) = true) (bA : Binds K fdA ["runs", "run", "count"] []) :
    FnOk P w K mg base CX0 (k + 3) f fd ["runs"] (spReader K) := by
  refine F.ok scReader (fun vs H Q E h => ?_) (fun cdv A outer s H vs Q E hr h => ?_)
  · obtain ⟨a, rs, rfl, _⟩ := h
    rfl
  · obtain ⟨a, rs, rfl, hR, g, q⟩ := h
    obtain ⟨tk, ms⟩ := ms
    have u65 : (A.deeper (envOfC "reader_of" (defScope (top iReader)) s.heap.objs.size f cdv)).units + 65 < cLine := by have := hr.un; omega
    refine ⟨_, PSs.nox (C8.pss_cut (ps_set (i := 1) scReader.nd rfl (.inl rfl) (pe_callTy call_tuple_of (by rfl) mtuple (by decide +kernel) (pa_cons (pe_call FA hr (by rfl) gA kA bA .nil pass0 (pa_cons (pv 0) (pa_cons pe_int (pa_cons pe_int pa_nil)))) pa_nil)))
 (C8.pss_cut (ps_set (i := 2) scReader.nd rfl (.inl rfl) (pe_none1 hr.units (pv 1) pe_int))
 (C8.pss_cut (ps_set (i := 3) scReader.nd rfl (.inl rfl) (pe_lst (pa_cons (pv 1) pa_nil)))
 (C8.pss_cut (ps_set (i := 4) scReader.nd rfl (.inl rfl) (pe_lst pa_nil))
 (C8.pss_cut (ps_while PassesOwn.never (pt_cmpR op_lt (pe_callB call_len_seq (by rfl) mlen PySem.boot_len (pa_cons (pv 4) pa_nil)) (pe_callB call_len_seq (by rfl) mlen PySem.boot_len (pa_cons (pv 3) pa_nil)) (nomark _))
 (C8.pss_cut (ps_set (i := 5) scReader.nd rfl (.inl rfl) pe_dnewK)
 (C8.pss_cut (ps_for PassesOwn.never rfl (pi_str (pe_glob (v := .str allSigns) (by rfl) ms ⟨tk, rfl⟩)) (pg_name (i := 6) scReader.nd rfl (.inl rfl))
 (C8.pss_cut (ps_set (i := 7) scReader.nd rfl (.inl rfl) (pe_call FB hr (by rfl) gB kB bB .nil pass0 (pa_cons (pv 0) (pa_cons (pe_ix ix_list (pv 3) (pe_callB call_len_seq (by rfl) mlen PySem.boot_len (pa_cons (pv 4) pa_nil)) (fun _ _ => rfl)) (pa_cons (pv 6) pa_nil)))))
 (C8.pss_cut (ps_if (PW.pt (pw_and (pt_truth (pv 7) (by intro _; rfl)) (pw_and1 (pt_cmp (pc_nnotin hr.units (pv 7) (pv 2))))))
 (pss_cons (ps_nput hr.units (pv 2) (pv 7) (pe_callB call_len_seq (by rfl) mlen PySem.boot_len (pa_cons (pv 3) pa_nil)) rfl)
 (pss_one (ps_expr (pe_bm PySem.F.plainAttrs_list PySem.F.slot_list_append PySem.F.type_list_append mt_append (pv 3) (pa_cons (pv 7) pa_nil))))) pss_nil)
 (pss_one (ps_if (pt_truth (pv 7) (by intro _; rfl)) (pss_one (ps_dput (hu_of hr) (pv 5) (pv 6) (pe_nget hr.units (pv 2) (pv 7) (fun _ _ => rfl)) rfl)) pss_nil)))))
 (pss_one (ps_expr (pe_bm PySem.F.plainAttrs_list PySem.F.slot_list_append PySem.F.type_list_append mt_append (pv 4) (pa_cons (pv 5) pa_nil)))))))
 (C8.pss_cut (ps_setLc (i := 8) (own := [("places", 9)]) (g := gName 9) (tt := tYes)
            (te := tOp (rInT K) (tTup (tCons (tCB (rLenS K) (tCons (tVar 0) tNil)) (tCons (tC (.int 0)) tNil))) (tVar 9))
            rfl scReader.nd rfl rfl (sw_true rfl rfl rfl rfl) (pi_list (pv 3)) (blkOk_by (N := ["runs", "start", "numbers", "states", "moves", "row", "sign", "reached", "wholes", "places"]) (sc := defScope (top iReader)) (by decide +kernel))
            (fun _ _ _ _ _ => pg_name (i := 9) scReader.nd rfl (Or.inl rfl)) (fun _ _ _ _ _ => pts_nil)
            (fun _ _ _ _ _ => pe_cmpR (op_inT K rfl u65) (pe_tup (pa_cons (pe_callB (call_lenK K rfl) (by rfl) mlen PySem.boot_len (pa_cons (pv 0) pa_nil)) (pa_cons pe_int pa_nil))) (pv 9) rfl))
 (pss_one (ps_ret (pe_tup (pa_cons (pe_callTy call_tuple_of (by rfl) mtuple (by decide +kernel) (pa_cons (pv 8) pa_nil)) (pa_cons (pe_callTy call_tuple_of (by rfl) mtuple (by decide +kernel) (pa_cons (pv 4) pa_nil)) pa_nil))))))))))), ?_⟩
    have sm1 : 1 ≤ sizeLine := by decide
    have sl : sizeLine = 16777216 := sizeLine_eq
    refine ⟨fun σ' H' => ∃ t0, σ' = [some (.ref a), some (.ref t0), none, none, none, none, none, none, none, none] ∧ Same H H' ∧ PlacesAt H' t0 (ahead rs 0 0), ?_, ?_⟩
    · refine ⟨_, rfl, a, rs, 0, 0, rfl, hR, g.len, by decide, fun H1 l cs s1 n1 e1 p1 => ⟨l, _, rfl, .inl ⟨.of e1, fun t nt => ?_⟩⟩⟩
      exact ⟨t, rfl, s1.trans (same_upd nt), cs, upd_same, p1.same (same_upd nt)⟩
    rintro σ1 H1 ⟨t0, rfl, s1, p1⟩
    refine ⟨fun σ' H' => ∃ dn, σ' = [some (.ref a), some (.ref t0), some (.ref dn), none, none, none, none, none, none, none] ∧ Same H1 H' ∧ H1 dn = none ∧ H' dn = some (dN P w dn (kvN 0 [(t0, ahead rs 0 0)])), ?_, ?_⟩
    · refine fun dn nd => ⟨_, rfl, upd_same, t0, nkOf (ahead rs 0 0), rfl, (p1.same (same_upd nd)).nest, ?_⟩
      refine ⟨dn, rfl, ?_, nd, upd_same⟩
      rw [upd_upd]
      exact same_upd nd
    rintro σ2 H2 ⟨dn, rfl, s2, nd, e2⟩
    refine ⟨fun σ' H' => ∃ ls, σ' = [some (.ref a), some (.ref t0), some (.ref dn), some (.ref ls), none, none, none, none, none, none] ∧ Same H2 H' ∧ H2 ls = none ∧ H' ls = some (.lst [.ref t0]), ?_, ?_⟩
    · exact ⟨_, rfl, sm1, fun ls nl => ⟨ls, rfl, same_upd nl, nl, upd_same⟩⟩
    rintro σ3 H3 ⟨ls, rfl, s3, nl, e3⟩
    refine ⟨fun σ' H' => ∃ lm, σ' = [some (.ref a), some (.ref t0), some (.ref dn), some (.ref ls), some (.ref lm), none, none, none, none, none] ∧ H lm = none ∧ ls ≠ lm ∧ Mid P w H dn ls lm rs [(t0, ahead rs 0 0)] [] H', ?_, ?_⟩
    · refine ⟨Nat.zero_le _, fun lm nm => ⟨lm, rfl, none_back ((s1.trans s2).trans s3) nm, ne_of_none e3 nm, ?_⟩⟩
      have s4 : Same H3 (upd H3 lm (.lst [])) := same_upd nm
      exact ⟨((s1.trans s2).trans s3).trans s4, s4 _ _ (s3 _ _ e2), s4 _ _ e3, upd_same, fun z hz => by
        rw [List.mem_singleton.mp hz]
        exact p1.same ((s2.trans s3).trans s4), Sts.start g, Nat.zero_le _, .nil, fun p hp => by cases hp⟩
    rintro σ4 H4 ⟨lm, rfl, nm, lsm, M4⟩
    have ndH : H dn = none := none_back s1 nd
    have nlH : H ls = none := none_back (s1.trans s2) nl
    refine ⟨fun σ' H' => ∃ x5 x6 x7 zs ra, σ' = [some (.ref a), some (.ref t0), some (.ref dn), some (.ref ls), some (.ref lm), x5, x6, x7, none, none] ∧ Mid P w H dn ls lm rs zs ra H' ∧ ra.length = zs.length, ?_, ?_⟩
    · refine while_by (fun σ' H' => ∃ x5 x6 x7 zs ra, σ' = [some (.ref a), some (.ref t0), some (.ref dn), some (.ref ls), some (.ref lm), x5, x6, x7, none, none] ∧ Mid P w H dn ls lm rs zs ra H')
        (fun _ H' => match H' lm with
          | some (.lst xs) => 1048577 - xs.length
          | _ => 0) ⟨none, none, none, _, _, rfl, M4⟩ (fun σ' H' hP => ?_) ?_
      · obtain ⟨x5, x6, x7, zs, ra, rfl, M⟩ := hP
        refine ⟨_, rfl, lm, _, rfl, .inl (.of M.m), _, rfl, ls, _, rfl, .inl (.of M.l), _, _, rfl, rfl, _, rfl, ite2 (fun hlt => ?_) (fun hge => ?_)⟩
        · have hlt : ra.length < zs.length := by
            have z : (((ra.map V.ref).length : Nat) : Int) < (((zs.map fun z => V.ref z.1).length : Nat) : Int) := of_decide_eq_true hlt
            rw [List.length_map, List.length_map] at z
            omega
          have mu0 : (match H' lm with | some (.lst xs) => 1048577 - xs.length | _ => 0) = 1048577 - ra.length := by
            rw [M.m]
            show 1048577 - (ra.map V.ref).length = _
            rw [List.length_map]
          -- row = {}
          refine ⟨fun σ' H'' => ∃ rw', σ' = [some (.ref a), some (.ref t0), some (.ref dn), some (.ref ls), some (.ref lm), some (.ref rw'), x6, x7, none, none] ∧ H rw' = none ∧ MidR P w H dn ls lm rw' rs zs ra 0 H'', ?_, ?_⟩
          · refine fun rw' nr => ⟨rw', rfl, none_back M.s nr, M.same (same_upd nr), hlt, fun p hp => ⟨by rw [upd_same]; rfl, fun s hs => by cases hs⟩, fun hr => ?_⟩
            obtain ⟨i, hi⟩ := List.mem_iff_getElem?.mp hr
            obtain ⟨p, _, z⟩ := paired_at' M.ro hi
            rw [nr] at z
            cases z
          rintro σ5 H5 ⟨rw', rfl, nr, M5⟩
          -- for sign in SIGNS
          refine ⟨fun σ' H'' => ∃ x6 x7 zs, σ' = [some (.ref a), some (.ref t0), some (.ref dn), some (.ref ls), some (.ref lm), some (.ref rw'), x6, x7, none, none] ∧ MidR P w H dn ls lm rw' rs zs ra sgs.length H'', ?_, ?_⟩
          · refine ⟨allSigns, rfl, for_it (walk_str (z := allSigns)) (fun m σ' H'' => ∃ x6 x7 zs, σ' = [some (.ref a), some (.ref t0), some (.ref dn), some (.ref ls), some (.ref lm), some (.ref rw'), x6, x7, none, none] ∧ MidR P w H dn ls lm rw' rs zs ra m H'')
              ⟨x6, x7, zs, rfl, M5⟩ (fun _ _ _ _ _ => trivial) (fun m x σ' H'' H6 hm hP hY => ?_) (fun σ' H'' hP => hP)⟩
            obtain ⟨x6, x7, zs, rfl, M6⟩ := hP
            obtain ⟨rfl, c, hc, rfl⟩ := hY
            have hcs : sgs[m]? = some c := by rw [← hc]; simp [sgs]
            have tkm : sgs.take (m + 1) = sgs.take m ++ [c] := by rw [List.take_succ, hcs]; rfl
            have lt6 := M6.lt
            have few := nodup_len_le M6.st
            obtain ⟨z, hz⟩ : ∃ z, zs[ra.length]? = some z := ⟨_, List.getElem?_eq_getElem lt6⟩
            have hzs : (stsOf zs)[ra.length]? = some z.2 := by rw [List.getElem?_map, hz]; rfl
            have hzm : z.2 ∈ stsOf zs := List.mem_of_getElem? hzs
            obtain ⟨b, ps⟩ := z
            have hzs : (stsOf zs)[ra.length]? = some ps := hzs
            have hzm : ps ∈ stsOf zs := hzm
            have pb : PlacesAt H6 b ps := M6.p _ (List.mem_of_getElem? hz)
            have hT6 := hR.same M6.s
            refine ⟨fun σ' H7 => ∃ t, σ' = [some (.ref a), some (.ref t0), some (.ref dn), some (.ref ls), some (.ref lm), some (.ref rw'), some (oneV c), some (.ref t), none, none] ∧ MidR P w H dn ls lm rw' rs zs ra m H7 ∧ PlacesAt H7 t (behind rs ps c), ?_, ?_⟩
            · refine ⟨_, rfl, _, rfl, _, rfl, lm, _, rfl, .inl (.of M6.m), ls, _, _, _, rfl, rfl, .of M6.l, atI_nat (v := .ref b) (by rw [List.length_map, List.getElem?_map, hz]; rfl), _, rfl, a, b, rs, ps, c, rfl, hT6, g, pb, M6.st.sub _ hzm, M6.st.ok _ hzm, fun H7 t s7 nt pt => ?_⟩
              exact ⟨t, rfl, M6.same s7, pt⟩
            clear M6 pb hT6
            rintro σ7 H7 ⟨t, rfl, M7, pt⟩
            refine ⟨fun σ' H8 => ∃ zs', σ' = [some (.ref a), some (.ref t0), some (.ref dn), some (.ref ls), some (.ref lm), some (.ref rw'), some (oneV c), some (.ref t), none, none] ∧ MidR P w H dn ls lm rw' rs zs' ra m H8 ∧ PlacesAt H8 t (behind rs ps c) ∧ (stsOf zs')[ra.length]? = some ps ∧ (behind rs ps c = [] ∨ behind rs ps c ∈ stsOf zs'), ?_, ?_⟩
            · refine ⟨_, rfl, _, tru_places pt, ite2 (fun ne => ?_) (fun e => ?_)⟩
              · refine ⟨_, rfl, _, rfl, dn, t, nkOf (behind rs ps c), kvN 0 zs, rfl, rfl, M7.d, keysN M7.p, pt.nest, _, rfl, ite2 (fun new => ?_) (fun old => ?_)⟩
                · have nb : behind rs ps c ∉ stsOf zs := fun hb => by
                    rw [valN_kvN, if_pos hb] at new
                    cases new
                  have vn : valN (kvN 0 zs) (nkOf (behind rs ps c)) = none := by rw [valN_kvN, if_neg nb]
                  have lsd : ls ≠ dn := ne_of M7.l M7.d (fun z => nomatch z)
                  refine ⟨_, rfl, ls, _, rfl, .inl (.of M7.l), _, rfl, _, rfl, dn, t, nkOf (behind rs ps c), kvN 0 zs, rfl, rfl, M7.d, keysN M7.p, pt.nest, vn, by rw [kvN_len]; omega, ?_⟩
                  have el : upd H7 dn (dN P w dn (kvN 0 zs ++ [(nkOf (behind rs ps c), t, .int (((zs.map fun z => V.ref z.1).length : Nat) : Int))])) ls = some (.lst (zs.map fun z => V.ref z.1)) := by
                    rw [upd_ne lsd]
                    exact M7.l
                  refine ⟨_, rfl, .inl ⟨rfl, _, .inl (.inl el)⟩, _, rfl, ls, _, _, rfl, rfl, el, by rw [List.length_map]; omega, ?_⟩
                  have ests : stsOf (zs ++ [(t, behind rs ps c)]) = stsOf zs ++ [behind rs ps c] := List.map_append
                  have keep : ∀ y o, y ≠ dn → y ≠ ls → H7 y = some o → upd (upd H7 dn (dN P w dn (kvN 0 zs ++ [(nkOf (behind rs ps c), t, .int (((zs.map fun z => V.ref z.1).length : Nat) : Int))]))) ls (.lst ((zs.map fun z => V.ref z.1) ++ [.ref t])) y = some o := fun y o h1 h2 h3 => by
                    rw [upd_ne h2, upd_ne h1]
                    exact h3
                  have keepP : ∀ {x : Addr} {qs : List Pl}, PlacesAt H7 x qs → PlacesAt (upd (upd H7 dn (dN P w dn (kvN 0 zs ++ [(nkOf (behind rs ps c), t, .int (((zs.map fun z => V.ref z.1).length : Nat) : Int))]))) ls (.lst ((zs.map fun z => V.ref z.1) ++ [.ref t]))) x qs := fun h =>
                    (h.upd M7.d tup_ne_dN).upd el (fun xs e => nomatch e)
                  have tks : (stsOf zs ++ [behind rs ps c]).take ra.length = (stsOf zs).take ra.length := List.take_append_of_le_length (by rw [List.length_map]; omega)
                  refine ⟨zs ++ [(t, behind rs ps c)], rfl, ⟨⟨fun y o z => ?_, ?_, ?_, ?_, fun z hz => ?_, ?_, ?_, ?_, fun p hp => ?_⟩, ?_, fun p hp => ?_, M7.no⟩, keepP pt, ?_, .inr ?_⟩
                  · exact keep y o (fun q => by rw [q, ndH] at z; cases z) (fun q => by rw [q, nlH] at z; cases z) (M7.s _ _ z)
                  · rw [upd_ne lsd.symm, upd_same, kvN_snoc, Nat.zero_add, List.length_map]; rfl
                  · rw [upd_same, List.map_append]; rfl
                  · exact keep _ _ (ne_of M7.m M7.d (fun z => nomatch z)) lsm.symm M7.m
                  · rcases List.mem_append.mp hz with hz | hz
                    · exact keepP (M7.p z hz)
                    · rw [List.mem_singleton.mp hz]
                      exact keepP pt
                  · rw [ests]
                    exact M7.st.more hzm nb
                  · rw [List.length_append]; have := M7.le; omega
                  · rw [ests, tks]
                    refine pairedIm M7.ro fun x p _ hp h => ?_
                    rw [rowL_grow (M7.cl p hp)]
                    exact keep _ _ (ne_of h M7.d (fun z => nomatch z)) (ne_of h M7.l (fun z => nomatch z)) h
                  · rw [ests, tks] at hp
                    rw [ests]
                    exact (M7.cl p hp).grow
                  · rw [List.length_append]; omega
                  · rw [ests, List.getElem?_append_left (by rw [List.length_map]; exact lt6)] at hp
                    obtain ⟨r1, r2⟩ := M7.r p hp
                    rw [ests]
                    refine ⟨?_, r2.grow⟩
                    rw [rowL_grow r2]
                    exact keep _ _ (ne_of r1 M7.d (fun z => nomatch z)) (ne_of r1 M7.l (fun z => nomatch z)) r1
                  · rw [ests, List.getElem?_append_left (by rw [List.length_map]; exact lt6)]
                    exact hzs
                  · rw [ests]
                    exact List.mem_append_right _ (List.mem_singleton.mpr rfl)
                · refine ⟨zs, rfl, M7, pt, hzs, .inr ?_⟩
                  by_cases hb : behind rs ps c ∈ stsOf zs
                  · exact hb
                  · exact absurd (by rw [valN_kvN, if_neg hb]; rfl) old
              · refine ⟨zs, rfl, M7, pt, hzs, .inl ?_⟩
                by_cases hb : behind rs ps c = []
                · exact hb
                · exact absurd (decide_eq_true hb) e
            clear M7 pt hzs hzm hz few lt6
            rintro σ8 H8 ⟨zs8, rfl, M8, pt, hzs, mem⟩
            refine ⟨_, rfl, _, tru_places pt, ite2 (fun ne => ?_) (fun e => ?_)⟩
            · have ne : behind rs ps c ≠ [] := of_decide_eq_true ne
              have mem := mem.resolve_left ne
              obtain ⟨r1, r2⟩ := M8.r ps hzs
              refine ⟨_, rfl, _, rfl, dn, t, nkOf (behind rs ps c), kvN 0 zs8, _, rfl, rfl, M8.d, keysN M8.p, pt.nest, (by rw [valN_kvN, if_pos mem]), _, rfl, _, rfl, rw', _, rfl, DPut.k (k := .inr (oneS c)) r1 ?_, ?_⟩
              · have z1 := rowL_len (rs := rs) (sts := stsOf zs8) (ps := ps) (l := sgs.take m)
                have z2 : (sgs.take m).length ≤ 15 := Nat.le_trans (List.length_take_le' _ _) (by decide +kernel)
                omega
              have er : putK (rowL rs (stsOf zs8) ps (sgs.take m)) (.inr (oneS c)) (.int ((0 + (stsOf zs8).idxOf (behind rs ps c) : Nat) : Int)) = rowL rs (stsOf zs8) ps (sgs.take (m + 1)) := by
                rw [putK_new (rowL_keys (not_before sgs_nodup hcs)), tkm, rowL_snoc, if_neg ne, Nat.zero_add]
              rw [er]
              refine ⟨_, _, zs8, rfl, ⟨fun y o z => ?_, ?_, ?_, ?_, fun z hz => ?_, M8.st, M8.le, ?_, M8.cl⟩, M8.lt, fun p hp => ?_, M8.no⟩
              · rw [upd_ne (fun q => by rw [q, nr] at z; cases z)]
                exact M8.s _ _ z
              · rw [upd_ne (ne_of M8.d r1 (fun z => nomatch z))]
                exact M8.d
              · rw [upd_ne (ne_of M8.l r1 (fun z => nomatch z))]
                exact M8.l
              · rw [upd_ne (ne_of M8.m r1 (fun z => nomatch z))]
                exact M8.m
              · exact (M8.p z hz).upd r1 (fun xs e => nomatch e)
              · refine pairedIm M8.ro fun x p hx _ h => ?_
                rw [upd_ne (fun q => M8.no (by rw [← q]; exact hx))]
                exact h
              · rw [hzs] at hp
                cases hp
                refine ⟨upd_same, fun s hs => ?_⟩
                rw [tkm] at hs
                rcases List.mem_append.mp hs with hs | hs
                · exact r2 s hs
                · rw [List.mem_singleton.mp hs]
                  exact .inr mem
            · have e : behind rs ps c = [] := by
                by_cases hb : behind rs ps c = []
                · exact hb
                · exact absurd (decide_eq_true hb) e
              refine ⟨_, _, zs8, rfl, M8.toMid, M8.lt, fun p hp => ?_, M8.no⟩
              obtain ⟨r1, r2⟩ := M8.r p hp
              rw [hzs] at hp
              cases hp
              refine ⟨?_, fun s hs => ?_⟩
              · rw [tkm, rowL_snoc, if_pos e, List.append_nil]
                exact r1
              · rw [tkm] at hs
                rcases List.mem_append.mp hs with hs | hs
                · exact r2 s hs
                · rw [List.mem_singleton.mp hs]
                  exact .inl e
          rintro σ6 H6 ⟨y6, y7, zs6, rfl, M6⟩
          -- moves.append(row)
          have lt6 := M6.lt
          obtain ⟨p6, hp6⟩ : ∃ p, (stsOf zs6)[ra.length]? = some p := ⟨_, List.getElem?_eq_getElem (by rw [List.length_map]; exact lt6)⟩
          obtain ⟨r6, c6⟩ := M6.r p6 hp6
          rw [List.take_length] at r6 c6
          have few := nodup_len_le M6.st
          have tk6 : (stsOf zs6).take (ra ++ [rw']).length = (stsOf zs6).take ra.length ++ [p6] := by
            rw [List.length_append, List.length_singleton, List.take_succ, hp6]
            rfl
          refine ⟨_, rfl, .inl ⟨rfl, _, .inl (.inl M6.m)⟩, _, rfl, lm, _, _, rfl, rfl, M6.m, by rw [List.length_map]; omega, ?_⟩
          have nrow : rw' ≠ lm := ne_of r6 M6.m (fun z => nomatch z)
          refine ⟨⟨_, y6, y7, zs6, ra ++ [rw'], rfl, ?_⟩, ?_⟩
          · refine ⟨fun y o z => ?_, ?_, ?_, ?_, fun z hz => ?_, M6.st, ?_, ?_, fun p hp => ?_⟩
            · rw [upd_ne (fun q => by rw [q, nm] at z; cases z)]
              exact M6.s _ _ z
            · rw [upd_ne (ne_of M6.d M6.m (fun z => nomatch z))]
              exact M6.d
            · rw [upd_ne lsm]
              exact M6.l
            · rw [upd_same, List.map_append]; rfl
            · exact (M6.p z hz).upd M6.m (fun xs e => nomatch e)
            · rw [List.length_append]; exact lt6
            · rw [tk6]
              refine paired_snoc ?_ (pairedI M6.ro fun x y z => ?_)
              · rw [upd_ne nrow]
                exact r6
              · rw [upd_ne (ne_of z M6.m (fun z => nomatch z))]
                exact z
            · rw [tk6] at hp
              rcases List.mem_append.mp hp with hp | hp
              · exact M6.cl p hp
              · rw [List.mem_singleton.mp hp]
                exact c6
          · show (match upd H6 lm (.lst (ra.map V.ref ++ [V.ref rw'])) lm with | some (.lst xs) => 1048577 - xs.length | _ => 0) < (match H' lm with | some (.lst xs) => 1048577 - xs.length | _ => 0)
            rw [mu0, upd_same]
            show 1048577 - (ra.map V.ref ++ [V.ref rw']).length < _
            rw [List.length_append, List.length_map, List.length_singleton]
            omega
        · have hge : ra.length = zs.length := by
            have z : ¬ (((ra.map V.ref).length : Nat) : Int) < (((zs.map fun z => V.ref z.1).length : Nat) : Int) := fun q => hge (decide_eq_true q)
            rw [List.length_map, List.length_map] at z
            have := M.le
            omega
          exact ⟨x5, x6, x7, zs, ra, rfl, M, hge⟩
      · rintro σ H Q Q' m ⟨v1, h1, p2, y2, h2, h3, v4, h4, p5, y5, h5, h6, i2, j2, h7, h8, k2, h9, h10⟩
        exact ⟨v1, h1, p2, y2, h2, h3, v4, h4, p5, y5, h5, h6, i2, j2, h7, h8, k2, h9, m _ _ h10⟩
    rintro σ7 H7 ⟨x5, x6, x7, zs, ra, rfl, M, full⟩
    have few := nodup_len_le M.st
    obtain ⟨rvs, hT, hP⟩ := hR
    have vl := paired_len hP
    have fullS : (stsOf zs).take ra.length = stsOf zs := by
      rw [List.take_of_length_le]
      rw [List.length_map]
      omega
    have ro := M.ro
    have cl := M.cl
    rw [fullS] at ro cl
    refine ⟨fun σ' H' => ∃ lw, σ' = [some (.ref a), some (.ref t0), some (.ref dn), some (.ref ls), some (.ref lm), x5, x6, x7, some (.ref lw), none] ∧ Same H7 H' ∧ H' lw = some (.lst ((stsOf zs).map fun p => V.bl (decide ((rs.length, 0) ∈ p)))), ?_, ?_⟩
    · refine ⟨_, rfl, ls, rfl, ⟨_, .of M.l⟩, fun D nD => lc_it (walk_list (xs := zs.map fun z => V.ref z.1)) (fun m H5 => Same H7 H5 ∧ H5 D = some (.lst (((stsOf zs).take m).map fun p => V.bl (decide ((rs.length, 0) ∈ p))))) ⟨same_upd nD, upd_same⟩ (fun _ H5 _ hP => .of (hP.1 _ _ M.l)) (fun m x H5 H6 hm hP2 hY => ?_) (fun H5 hP2 => ?_)⟩
      · obtain ⟨s5, e5⟩ := hP2
        obtain ⟨eH, hx⟩ := hY
        subst H6
        rw [List.length_map] at hm
        have hz : zs[m]? = some zs[m] := List.getElem?_eq_getElem hm
        rw [List.getElem?_map, hz] at hx
        cases hx
        have hs : (stsOf zs)[m]? = some zs[m].2 := by rw [List.getElem?_map, hz]; rfl
        have pz := (M.p _ (List.mem_of_getElem? hz)).same s5
        generalize zs[m] = z at hs pz
        refine ⟨rfl, _, rfl, a, rvs, rfl, .inr (same_tup (M.s.trans s5) hT), by show 2 ≤ sizeLine; omega, fun b nb => ?_⟩
        have sb : Same H5 (upd H5 b (.tup [.int ((rvs.length : Nat) : Int), .int 0])) := same_upd nb
        refine ⟨_, rfl, dPl (rs.length, 0), z.2.map dPl, ?_, dp_places (pz.same sb), shaped_pl _, shaped_pls _, ?_⟩
        · rw [vl]
          exact dp_pair upd_same
        · rw [any_pl]
          refine ⟨_, sb _ _ e5, by rw [List.length_map, List.length_take, List.length_map]; omega, ?_, ?_⟩
          · exact fun y o u => by rw [upd_ne (ne_of_none u nD)]; exact sb _ _ (s5 _ _ u)
          · rw [upd_same, List.take_add_one, hs, List.map_append]
            rfl
      · obtain ⟨s5, e5⟩ := hP2
        rw [List.length_map, List.take_of_length_le (by rw [List.length_map]; exact Nat.le_refl _)] at e5
        exact ⟨D, rfl, s5, e5⟩
    rintro σ8 H8 ⟨lw, rfl, s8, e8⟩
    refine ⟨_, rfl, lw, _, rfl, .inl ⟨.of e8, fun tw nw => ?_⟩⟩
    have sw : Same H8 (upd H8 tw (.tup ((stsOf zs).map fun p => V.bl (decide ((rs.length, 0) ∈ p))))) := same_upd nw
    refine ⟨_, rfl, lm, _, rfl, .inl ⟨.of (sw _ _ (s8 _ _ M.m)), fun tm nm2 => ⟨by show 2 ≤ sizeLine; omega, fun t nt => ?_⟩⟩⟩
    have st := (same_upd nm2 (o := .tup (ra.map V.ref))).trans (same_upd nt (o := .tup [.ref tw, .ref tm]))
    have sa := (s8.trans sw).trans st
    refine q _ t (M.s.trans sa) ?_ ⟨tw, tm, stsOf zs, ra, upd_same, st _ _ upd_same, same_upd nt _ _ upd_same, pairedI ro fun _ _ z => sa _ _ z, M.st, cl⟩
    exact none_back (((M.s.trans s8).trans sw).trans (same_upd nm2)) nt
end
end K0
end
/-! ### A2b -/
section
set_option Elab.async false
set_option linter.all false
set_option maxRecDepth 100000
set_option maxHeartbeats 4000000
/-! is_number, is_sign (k01's, other places of the top). -/
namespace K0
open PySem PySem.Spec PyProof.Rows L2
theorem scNum : FnScope ["value", "low", "high"] ["value", "low", "high"] (defScope (top iNum)) := ⟨rfl, rfl, rfl, by decide +kernel, rfl, by decide +kernel, by decide +kernel⟩
theorem scSign : FnScope ["value"] ["value"] (defScope (top iSign)) := ⟨rfl, rfl, rfl, by decide +kernel, rfl, by decide +kernel, by decide +kernel⟩
section
variable {P : Program} {w : World} {K : PySem.W.Frag} {mg : Str → Option Value} {base : Heap} {f : Addr} {fd : FuncData}
theorem ok_num {k : Nat} (F : FnP K "is_number" iNum f fd) (misi : mg "isinstance" = none) (mint : mg "int" = none) (mbool : mg "bool" = none) : FnOk P w K mg base CX0 (k + 1) f fd ["value", "low", "high"] (spNum K) := by
  refine F.ok scNum (fun vs H Q E h => ?_) (fun cdv A outer s H vs Q E hr h => ?_)
  · obtain ⟨v, d, lo, hi, rfl, _⟩ := h
    rfl
  · obtain ⟨v, d, lo, hi, rfl, hd, q⟩ := h
    refine ⟨_, PSs.nox (pss_one (ps_ret (pe_and (pe_callB call_isi (by rfl) misi boot_isinstance (pa_cons (pv 0) (pa_cons (pe_bltn (v := .ty "int") (by rfl) mint (by decide +kernel) rfl) pa_nil))) (pe_and (pe_not (pe_callB call_isi (by rfl) misi boot_isinstance (pa_cons (pv 0) (pa_cons (pe_bltn (v := .ty "bool") (by rfl) mbool (by decide +kernel) rfl) pa_nil))))
      (pe_one (pe_chain op_le op_le (pv 1) (pv 0) (pv 2))))))), ?_⟩
    refine ⟨_, rfl, v, _, _, _, _, rfl, .ty _, hd.ty, kit_int d, _, rfl, ite2 (fun e => ?_) (fun e => ?_)⟩
    · refine ⟨_, rfl, v, _, _, _, _, rfl, .ty _, hd.ty, kit_bool d, _, rfl, _, rfl, ite2 (fun e2 => ?_) (fun e2 => ?_)⟩
      · cases hd with
        | int i =>
          refine ⟨_, rfl, _, rfl, _, _, rfl, rfl, _, rfl, ite2 (fun e3 => ?_) (fun e3 => ?_)⟩
          · refine ⟨_, rfl, _, _, rfl, rfl, ?_⟩
            have y : isNumD lo hi (.int i) = decide (i ≤ hi) := by
              show (decide (lo ≤ i) && decide (i ≤ hi)) = _
              rw [e3, Bool.true_and]
            rw [y] at q
            exact q
          · have y : isNumD lo hi (.int i) = false := by
              show (decide (lo ≤ i) && decide (i ≤ hi)) = _
              rw [Bool.eq_false_iff.mpr e3, Bool.false_and]
            rw [y] at q
            exact q
        | bl b => exact absurd (show (false = true) from e2) Bool.false_ne_true
        | _ => cases e
      · cases hd with
        | bl b => exact q
        | _ => first | exact absurd rfl e2 | cases e
    · cases hd with
      | int i => exact absurd rfl e
      | _ => exact q
theorem ok_sign {k : Nat} (F : FnP K "is_sign" iSign f fd) (misi : mg "isinstance" = none) (mstr : mg "str" = none) (mlen : mg "len" = none) (ms : ∃ t, mg "SIGNS" = some (.str allSigns t)) : FnOk P w K mg base CX0 (k + 1) f fd ["value"] (spD K isSignD) := by
  refine F.ok scSign (fun vs H Q E h => ?_) (fun cdv A outer s H vs Q E hr h => ?_)
  · obtain ⟨v, d, rfl, _⟩ := h
    rfl
  · obtain ⟨v, d, rfl, hd, sz, q⟩ := h
    obtain ⟨t, ms⟩ := ms
    refine ⟨_, PSs.nox (pss_one (ps_ret (pe_and (pe_callB call_isi (by rfl) misi boot_isinstance (pa_cons (pv 0) (pa_cons (pe_bltn (v := .ty "str") (by rfl) mstr (by decide +kernel) rfl) pa_nil))) (pe_and (pe_cmpR op_eq (pe_callB call_len (by rfl) mlen PySem.boot_len (pa_cons (pv 0) pa_nil)) pe_int (nomark _))
      (pe_one (pe_cmpR op_inS (pv 0) (pe_glob (v := .str allSigns) (by rfl) ms ⟨t, rfl⟩) (by rfl))))))), ?_⟩
    refine ⟨_, rfl, v, _, _, _, _, rfl, .ty _, hd.ty, kit_str d, _, rfl, ite2 (fun e => ?_) (fun e => ?_)⟩
    · obtain ⟨z, rfl, rfl⟩ := is_str hd e
      refine ⟨_, rfl, _, z.length, rfl, ⟨Nat.le_of_lt (small5 sz), rfl⟩, rfl, _, rfl, ite2 (fun e2 => ?_) (fun e2 => ?_)⟩
      · have z1 : z.length = 1 := by
          have y := of_decide_eq_true e2
          injection y with y
          omega
        obtain ⟨c, rfl⟩ := one_cp z1
        refine ⟨_, rfl, c, allSigns, rfl, rfl, ?_⟩
        have y : isSignD (.str ⟨#[c]⟩) = decide (c ∈ allSigns.cps.toList) := by
          show (decide ((1 : Nat) = 1) && ([c].all fun c => allSigns.cps.contains c)) = _
          rw [← sg_mem]
          simp
        rw [← y]
        exact q H (Same.refl H)
      · have y : isSignD (.str z) = false := by
          have z1 : z.length ≠ 1 := fun x => e2 (decide_eq_true (by rw [x]; rfl))
          show (decide (z.length = 1) && sgAll z) = false
          rw [decide_eq_false z1, Bool.false_and]
        have q2 := q H (Same.refl H)
        rw [y] at q2
        exact q2
    · have q2 := q H (Same.refl H)
      rw [(not_str e).2] at q2
      exact q2
end
end K0
end
/-! ### A4 -/
section
set_option Elab.async false
set_option linter.all false
set_option maxRecDepth 100000
set_option maxHeartbeats 4000000
/-! are_signs: ascending tuples of signs. -/
namespace K0
open PySem PySem.Spec PyProof.Rows L2
def ltD : PyData → PyData → Bool
  | .str a, .str b => decide (a.cps.toList < b.cps.toList)
  | _, _ => false
def ltP (ds : List PyData) : List Bool := (ds.zip (ds.drop 1)).map fun p => ltD p.1 p.2
def areSignsD : PyData → Bool
  | .tuple ds => ds.all isSignD && (ltP ds).all id
  | _ => false
theorem walk_pairT {K : PySem.W.Frag} {a b : Addr} {xs ys : List V} {n : Nat} (small : n = min xs.length ys.length) : Walk (RZ.ItzT K a b) n (fun H => SqT K H a xs ∧ SqT K H b ys) (YPair (fun i => xs[i]?) (fun i => ys[i]?)) := by
  subst small
  refine ⟨fun i _ lt g => ?_, fun _ g => ⟨xs, ys, g.1, g.2, by omega⟩, fun i H v H' _ g y => ?_⟩
  · exact ⟨xs, ys, xs[i]'(by omega), ys[i]'(by omega), g.1, g.2, by simp, by simp⟩
  · obtain ⟨T, x, z, h1, h2, h3, h4, h5⟩ := y
    exact ⟨T, x, z, h1, h2, h3, h4 xs g.1, h5 ys g.2⟩
theorem bulk_mem {d : PyData} : ∀ {ds : List PyData}, d ∈ ds → d.bulk ≤ PyData.bulkAll ds
  | e :: ds, h => by
    rw [PyData.bulkAll]
    rcases List.mem_cons.mp h with rfl | h
    · omega
    · have := bulk_mem h
      omega
theorem bulk_len : ∀ ds : List PyData, ds.length ≤ PyData.bulkAll ds
  | [] => Nat.zero_le _
  | e :: ds => by
    have := bulk_len ds
    rw [PyData.bulkAll, List.length_cons]
    omega
theorem not_tup {d : PyData} (h : ¬ isTupD d = true) : areSignsD d = false := by
  cases d <;> first | rfl | exact absurd rfl h
theorem is_tup {K : PySem.W.Frag} {H : Hp} {v : V} {d : PyData} (hd : Dv K H v d) (h : isTupD d = true) : ∃ a xs ds, v = .ref a ∧ d = .tuple ds ∧ SqT K H a xs ∧ DvAll K H xs ds := by
  cases hd with
  | tup h1 h2 => exact ⟨_, _, _, rfl, rfl, h1, h2⟩
  | _ => cases h
theorem sign_str {d : PyData} (h : isSignD d = true) : ∃ z, d = .str z := by
  cases d <;> first | exact ⟨_, rfl⟩ | cases h
theorem ltP_get {ds : List PyData} {m : Nat} {d e : PyData} (h1 : ds[m]? = some d) (h2 : ds[m + 1]? = some e) : (ltP ds)[m]? = some (ltD d e) := by
  unfold ltP
  rw [List.getElem?_map, (List.getElem?_zip_eq_some (z := (d, e))).mpr ⟨h1, by rw [List.getElem?_drop, Nat.add_comm]; exact h2⟩]
  rfl
theorem ltP_len (ds : List PyData) : (ltP ds).length = ds.length - 1 := by
  unfold ltP
  rw [List.length_map, List.length_zip, List.length_drop]
  omega
theorem bl_take {bs : List Bool} {m : Nat} {b : Bool} (h : bs[m]? = some b) : (bs.take (m + 1)).map V.bl = (bs.take m).map V.bl ++ [V.bl b] := by
  rw [List.take_add_one, h, List.map_append]
  rfl
theorem drop_one_same {xs : List V} (h : HT.sIx xs.length 0 (some 1) = 0) : xs.drop 1 = xs := by
  cases xs with
  | nil => rfl
  | cons x r =>
    have z : HT.sIx (x :: r).length 0 (some ((1 : Nat) : Int)) = 0 := h
    rw [HT.sIx_nat, List.length_cons] at z
    omega
theorem cutV_one (xs : List V) : cutV xs (some 1) none = xs.drop 1 := by
  show (xs.drop (HT.sIx xs.length 0 (some ((1 : Nat) : Int)))).take (HT.sIx xs.length xs.length none - HT.sIx xs.length 0 (some ((1 : Nat) : Int))) = _
  rw [HT.sIx_nat, HT.sIx_none]
  cases xs with
  | nil => rfl
  | cons x r =>
    rw [show min 1 (x :: r).length = 1 by rw [List.length_cons]; omega]
    exact List.take_of_length_le (by rw [List.length_drop]; exact Nat.le_refl _)
theorem scSigns : FnScope ["value", "sign", "following"] ["value"] (defScope (top iAreSigns)) := ⟨rfl, rfl, rfl, by decide +kernel, rfl, by decide +kernel, by decide +kernel⟩
section
variable {P : Program} {w : World} {K : PySem.W.Frag} {mg : Str → Option Value} {base : Heap} {f fS : Addr} {fd fdS : FuncData}
theorem ok_signs {k : Nat} (F : FnP K "are_signs" iAreSigns f fd) (misi : mg "isinstance" = none) (mtup : mg "tuple" = none) (mall : mg "all" = none) (mzip : mg "zip" = none)
    (FS : FnOk P w K mg base CX0 (k + 1) fS fdS ["value"] (spD K isSignD)) (gS : mg "is_sign" = some (.ref fS)) (kS : PySem.W.keepIn K (.ref fS) = true) (bS : Binds K fdS ["value"] []) : FnOk P w K mg base CX0 (k + 2) f fd ["value"] (spD K areSignsD) := by
  refine F.ok scSigns (fun vs H Q E h => ?_) (fun cdv A outer s H vs Q E hr h => ?_)
  · obtain ⟨v, d, rfl, _⟩ := h
    rfl
  · obtain ⟨v, d, rfl, hd, sz, q⟩ := h
    refine ⟨_, PSs.nox (pss_cons (ps_if (PW.pt (pw_or (pt_not (pt_val (pe_callB call_isi (by rfl) misi boot_isinstance (pa_cons (pv 0) (pa_cons (pe_bltn (v := .ty "tuple") (by rfl) mtup (by decide +kernel) rfl) pa_nil)))))
        (pw_or1 (pt_not (pt_val (pe_callB (cr_all rfl) (by rfl) mall (by decide +kernel) (pa_cons (pe_lc (own := [("sign", 1)]) (g := gName 1) (tt := tYes) rfl scSigns.nd (pi_tup (pv 0)) (blkOk_by (N := ["value", "sign", "following"]) (sc := defScope (top iAreSigns)) (by decide +kernel)) (fun _ _ _ _ _ => pg_name (i := 1) scSigns.nd rfl (Or.inl rfl))
        (fun _ _ _ _ _ => pts_nil) (fun _ _ _ _ _ => pe_call FS hr (by rfl) gS kS bS .nil pass0 (pa_cons (pv 1) pa_nil))) pa_nil))))))) (pss_one (ps_ret pe_bl)) pss_nil)
      (pss_one (ps_ret (pe_callB (cr_all rfl) (by rfl) mall (by decide +kernel) (pa_cons (pe_lc (own := [("sign", 1), ("following", 2)]) (g := gTup K 2 (gCons (gName 1) (gCons (gName 2) gNil))) (tt := tYes) rfl scSigns.nd (RZ.pi_zipA (by rfl) mzip (pa_cons (pv 0) (pa_cons (pe_slice sl_tupA (pv 0) (po_some pe_int) po_none) pa_nil))) (blkOk_by (N := ["value", "sign", "following"]) (sc := defScope (top iAreSigns)) (by decide +kernel))
        (fun _ _ _ _ _ => pg_tup rfl (pgs_cons (pg_name (i := 1) scSigns.nd rfl (Or.inl rfl)) (pgs_cons (pg_name (i := 2) scSigns.nd rfl (Or.inl rfl)) pgs_nil))) (fun _ _ _ _ _ => pts_nil) (fun _ _ _ _ _ => pe_cmpR op_lt_str (pv 1) (pv 2) (nomark _))) pa_nil))))), ?_⟩
    refine ⟨_, rfl, v, _, _, _, _, rfl, .ty _, hd.ty, kit_tup d, _, rfl, ite2 (fun e => ?_) (fun e => ?_)⟩
    · have q2 := q H (Same.refl H)
      rw [not_tup (fun z => by rw [z] at e; cases e)] at q2
      exact q2
    · have e2 : isTupD d = true := by
        cases z : isTupD d with
        | true => rfl
        | false => rw [z] at e; exact absurd rfl e
      obtain ⟨a, xs, ds, rfl, rfl, hT, hA⟩ := is_tup hd e2
      have sz2 : PyData.bulkAll ds ≤ 100000 := sz
      have dl := bulk_len ds
      have xl := hA.length
      refine ⟨_, rfl, a, rfl, ⟨xs, hT⟩, fun D nD => lc_it (walk_tup (xs := xs)) (fun m H' => Same H H' ∧ H' D = some (.lst (((ds.map isSignD).take m).map V.bl))) ⟨same_upd nD, upd_same⟩ (fun _ H' _ hP => same_tup hP.1 hT) (fun m x H' H'' hm hP hY => ?_) (fun H' hP => ?_)⟩
      · obtain ⟨s1, hD⟩ := hP
        obtain ⟨rfl, hx⟩ := hY
        obtain ⟨d1, h1, v1⟩ := hA.get hx
        refine ⟨rfl, _, rfl, x, d1, rfl, v1.same s1, Nat.le_trans (bulk_mem (List.mem_of_getElem? h1)) sz2, fun H3 s3 => ⟨_, s3 _ _ hD, by rw [List.length_map, List.length_take]; exact small5 (by omega), fun y o u => by rw [upd_ne (ne_of_none u nD)]; exact s3 _ _ (s1 _ _ u), ?_⟩⟩
        rw [upd_same, bl_take (by rw [List.getElem?_map, h1]; rfl)]
      · obtain ⟨s1, hD⟩ := hP
        have tk : (ds.map isSignD).take xs.length = ds.map isSignD := by rw [xl]; exact List.take_of_length_le (by rw [List.length_map]; exact Nat.le_refl _)
        rw [tk] at hD
        refine ⟨D, _, rfl, .of hD, _, rfl, ite2 (fun e3 => ?_) (fun e3 => ?_)⟩
        · have ar : areSignsD (.tuple ds) = false := by
            have z : (ds.map isSignD).all id = false := by
              cases y : (ds.map isSignD).all id with
              | false => rfl
              | true => rw [y] at e3; cases e3
            rw [List.all_map] at z
            show (ds.all isSignD && _) = false
            rw [show ds.all isSignD = false from z, Bool.false_and]
          have q2 := q H' s1
          rw [ar] at q2
          exact q2
        · have sg : ds.all isSignD = true := by
            have z : (ds.map isSignD).all id = true := by
              cases y : (ds.map isSignD).all id with
              | true => rfl
              | false => rw [y] at e3; exact absurd rfl e3
            rw [List.all_map] at z
            exact z
          have ar : areSignsD (.tuple ds) = (ltP ds).all id := by
            show (ds.all isSignD && _) = _
            rw [sg, Bool.true_and]
          have hT1 := same_tup s1 hT
          refine ⟨_, rfl, _, rfl, _, rfl, a, xs, rfl, hT1, fun hw => ?_, fun hw p np => ?_⟩
          · have e0 : xs.drop 1 = xs := drop_one_same hw.1
            have hB : SqT K H' a (xs.drop 1) := by rw [e0]; exact hT1
            refine ⟨a, a, xs, xs.drop 1, rfl, .inr ⟨hT1, hB, fun D2 nD2 => lc_it (walk_pairT (xs := xs) (ys := xs.drop 1) rfl) (fun m H5 => Same H' H5 ∧ H5 D2 = some (.lst (((ltP ds).take m).map V.bl))) ⟨same_upd nD2, upd_same⟩ (fun _ H5 _ hP => ⟨same_tup hP.1 hT1, same_tup hP.1 hB⟩) (fun m x H5 H6 hm hP hY => ?_) (fun H5 hP => ?_)⟩⟩
            · obtain ⟨s5, hD5⟩ := hP
              obtain ⟨T, x1, x2, rfl, nT, rfl, hx1, hx2⟩ := hY
              have hx2 : (xs.drop 1)[m]? = some x2 := hx2
              have hx2 : xs[m + 1]? = some x2 := by rw [List.getElem?_drop, Nat.add_comm] at hx2; exact hx2
              obtain ⟨d1, g1, v1⟩ := hA.get hx1
              obtain ⟨d2, g2, v2⟩ := hA.get hx2
              obtain ⟨z1, rfl⟩ := sign_str (List.all_eq_true.mp sg d1 (List.mem_of_getElem? g1))
              obtain ⟨z2, rfl⟩ := sign_str (List.all_eq_true.mp sg d2 (List.mem_of_getElem? g2))
              cases v1
              cases v2
              refine ⟨T, _, rfl, .of upd_same, rfl, _, _, rfl, _, _, rfl, rfl, rfl, _, rfl, _, rfl, z1, z2, rfl, rfl, _, same_upd nT _ _ hD5, by rw [List.length_map, List.length_take, ltP_len]; exact small5 (by omega), fun y o u => by rw [upd_ne (ne_of_none u nD2)]; exact same_upd nT _ _ (s5 _ _ u), ?_⟩
              rw [upd_same, bl_take (ltP_get g1 g2)]
              rfl
            · obtain ⟨s5, hD5⟩ := hP
              have tk2 : (ltP ds).take (min xs.length (xs.drop 1).length) = ltP ds := List.take_of_length_le (by rw [ltP_len, List.length_drop]; omega)
              rw [tk2] at hD5
              exact ⟨D2, _, rfl, .of hD5, by rw [← ar]; exact q H5 (s1.trans s5)⟩
          · have e0 : cutV xs (some 1) none = xs.drop 1 := cutV_one xs
            have hB : SqT K (upd H' p (.tup (cutV xs (some 1) none))) p (xs.drop 1) := by rw [← e0]; exact .of upd_same
            have sp := same_upd (o := .tup (cutV xs (some 1) none)) np
            refine ⟨a, p, xs, xs.drop 1, rfl, .inr ⟨same_tup sp hT1, hB, fun D2 nD2 => lc_it (walk_pairT (xs := xs) (ys := xs.drop 1) rfl) (fun m H5 => Same (upd H' p (.tup (cutV xs (some 1) none))) H5 ∧ H5 D2 = some (.lst (((ltP ds).take m).map V.bl))) ⟨same_upd nD2, upd_same⟩ (fun _ H5 _ hP => ⟨same_tup hP.1 (same_tup sp hT1), same_tup hP.1 hB⟩) (fun m x H5 H6 hm hP hY => ?_) (fun H5 hP => ?_)⟩⟩
            · obtain ⟨s5, hD5⟩ := hP
              obtain ⟨T, x1, x2, rfl, nT, rfl, hx1, hx2⟩ := hY
              have hx2 : (xs.drop 1)[m]? = some x2 := hx2
              have hx2 : xs[m + 1]? = some x2 := by rw [List.getElem?_drop, Nat.add_comm] at hx2; exact hx2
              obtain ⟨d1, g1, v1⟩ := hA.get hx1
              obtain ⟨d2, g2, v2⟩ := hA.get hx2
              obtain ⟨z1, rfl⟩ := sign_str (List.all_eq_true.mp sg d1 (List.mem_of_getElem? g1))
              obtain ⟨z2, rfl⟩ := sign_str (List.all_eq_true.mp sg d2 (List.mem_of_getElem? g2))
              cases v1
              cases v2
              refine ⟨T, _, rfl, .of upd_same, rfl, _, _, rfl, _, _, rfl, rfl, rfl, _, rfl, _, rfl, z1, z2, rfl, rfl, _, same_upd nT _ _ hD5, by rw [List.length_map, List.length_take, ltP_len]; exact small5 (by omega), fun y o u => by rw [upd_ne (ne_of_none u nD2)]; exact same_upd nT _ _ (s5 _ _ u), ?_⟩
              rw [upd_same, bl_take (ltP_get g1 g2)]
              rfl
            · obtain ⟨s5, hD5⟩ := hP
              have tk2 : (ltP ds).take (min xs.length (xs.drop 1).length) = ltP ds := List.take_of_length_le (by rw [ltP_len, List.length_drop]; omega)
              rw [tk2] at hD5
              exact ⟨D2, _, rfl, .of hD5, by rw [← ar]; exact q H5 ((s1.trans sp).trans s5)⟩
end
end K0
end
/-! ### IR -/
section
set_option Elab.async false
set_option linter.all false
set_option maxRecDepth 100000
set_option maxHeartbeats 4000000
/-! is_run. -/
namespace K0
open PySem PySem.Spec PyProof.Rows L2
def lowOf : PyData → Int
  | .int l => if 1 > l then 1 else l
  | _ => 1
def isHighD (l : Int) : PyData → Bool
  | .none => true
  | d => isNumD l 3 d
def noneIn : PyData → Bool
  | .tuple [] => true
  | _ => false
def isRunD : PyData → Bool
  | .tuple [s, l, h] => areSignsD s && !noneIn s && isNumD 0 3 l && isHighD (lowOf l) h
  | _ => false
theorem scIsRun : FnScope ["value", "signs", "low", "high"] ["value"] (defScope (top iIsRun)) := ⟨rfl, rfl, rfl, by decide +kernel, rfl, by decide +kernel, by decide +kernel⟩
theorem not_tup_run {d : PyData} (h : ¬ isTupD d = true) : isRunD d = false := by
  cases d <;> first | rfl | exact absurd rfl h
theorem not_three {ds : List PyData} (h : ds.length ≠ 3) : isRunD (.tuple ds) = false := by
  match ds, h with
  | [], _ => rfl
  | [_], _ => rfl
  | [_, _], _ => rfl
  | [_, _, _], h => exact absurd rfl h
  | _ :: _ :: _ :: _ :: _, _ => rfl
theorem three {ds : List PyData} (h : ds.length = 3) : ∃ s l e, ds = [s, l, e] := by
  match ds, h with
  | [s, l, e], _ => exact ⟨s, l, e, rfl⟩
section
variable {P : Program} {w : World} {K : PySem.W.Frag} {mg : Str → Option Value} {base : Heap} {f fS fN : Addr} {fd fdS fdN : FuncData}
theorem ok_isRun {k : Nat} (F : FnP K "is_run" iIsRun f fd) (misi : mg "isinstance" = none) (mtup : mg "tuple" = none) (mlen : mg "len" = none) (mmax : mg "max" = none) (mR : ∃ t, mg "MAX_REPEATS" = some (.int 3 t))
    (FS : FnOk P w K mg base CX0 (k + 2) fS fdS ["value"] (spD K areSignsD)) (gS : mg "are_signs" = some (.ref fS)) (kS : PySem.W.keepIn K (.ref fS) = true) (bS : Binds K fdS ["value"] [])
    (FN : FnOk P w K mg base CX0 (k + 2) fN fdN ["value", "low", "high"] (spNum K)) (gN : mg "is_number" = some (.ref fN)) (kN : PySem.W.keepIn K (.ref fN) = true) (bN : Binds K fdN ["value", "low", "high"] []) :
    FnOk P w K mg base CX0 (k + 3) f fd ["value"] (spD K isRunD) := by
  refine F.ok scIsRun (fun vs H Q E h => ?_) (fun cdv A outer s H vs Q E hr h => ?_)
  · obtain ⟨v, d, rfl, _⟩ := h
    rfl
  · obtain ⟨v, d, rfl, hd, sz, q⟩ := h
    obtain ⟨tR, mR⟩ := mR
    refine ⟨_, PSs.nox (pss_cons (ps_if (PW.pt (pw_or (pt_not (pt_val (pe_callB call_isi (by rfl) misi boot_isinstance (pa_cons (pv 0) (pa_cons (pe_bltn (v := .ty "tuple") (by rfl) mtup (by decide +kernel) rfl) pa_nil)))))
          (pw_or1 (pt_cmpR op_ne (pe_callB call_len_seq (by rfl) mlen PySem.boot_len (pa_cons (pv 0) pa_nil)) pe_int (nomark _))))) (pss_one (ps_ret pe_bl)) pss_nil)
      (pss_cons (ps_asg (pv 0) (pg_tup rfl (pgs_cons (pg_name (i := 1) scIsRun.nd rfl (.inl rfl)) (pgs_cons (pg_name (i := 2) scIsRun.nd rfl (.inl rfl)) (pgs_cons (pg_name (i := 3) scIsRun.nd rfl (.inl rfl)) pgs_nil)))))
      (pss_cons (ps_if (PW.pt (pw_or (pt_not (pt_val (pe_call FS hr (by rfl) gS kS bS .nil pass0 (pa_cons (pv 1) pa_nil))))
          (pw_or (pt_not (pt_truth (pv 1) (by intro _; rfl)))
          (pw_or1 (pt_not (pt_val (pe_call FN hr (by rfl) gN kN bN .nil pass0 (pa_cons (pv 2) (pa_cons pe_int (pa_cons (pe_glob (v := .int 3) (by rfl) mR ⟨tR, rfl⟩) pa_nil)))))))))) (pss_one (ps_ret pe_bl)) pss_nil)
      (pss_one (ps_ret (pe_or (pe_cmp (pc_isN (pv 3)) rfl) (pe_one (pe_call FN hr (by rfl) gN kN bN .nil pass0 (pa_cons (pv 3) (pa_cons (pe_callB (call_max2 rfl) (by rfl) mmax (by decide +kernel) (pa_cons (pv 2) (pa_cons pe_int pa_nil))) (pa_cons (pe_glob (v := .int 3) (by rfl) mR ⟨tR, rfl⟩) pa_nil)))))))))))
      , ?_⟩
    refine ⟨_, rfl, v, _, _, _, _, rfl, .ty _, hd.ty, kit_tup d, _, rfl, ite2 (fun e => ?_) (fun e => ?_)⟩
    · have q2 := q H (Same.refl H)
      rw [not_tup_run (fun z => by rw [z] at e; cases e)] at q2
      exact q2
    have e2 : isTupD d = true := by
      cases z : isTupD d with
      | true => rfl
      | false => rw [z] at e; exact absurd rfl e
    obtain ⟨a, xs, ds, rfl, rfl, hT, hA⟩ := is_tup hd e2
    have sz2 : PyData.bulkAll ds ≤ 100000 := sz
    have xl := hA.length
    refine ⟨_, rfl, a, xs, rfl, .inr hT, rfl, _, rfl, ite2 (fun e3 => ?_) (fun e3 => ?_)⟩
    · have q2 := q H (Same.refl H)
      rw [not_three (fun z => by
        rw [← xl] at z
        rw [z] at e3
        exact absurd e3 (by decide))] at q2
      exact q2
    have l3 : ds.length = 3 := by
      by_cases z : ds.length = 3
      · exact z
      · refine absurd ?_ e3
        have z2 : ¬ (V.int ((xs.length : Nat) : Int) = V.int 3) := fun y => by
          injection y with y
          omega
        rw [decide_eq_false z2]
        rfl
    obtain ⟨ds1, dl, dh, rfl⟩ := three l3
    cases hA with
    | cons h1 hA =>
    cases hA with
    | cons h2 hA =>
    cases hA with
    | cons h3 hA =>
    cases hA
    rename_i v1 v2 v3
    rw [PyData.bulkAll, PyData.bulkAll, PyData.bulkAll] at sz2
    refine ⟨_, rfl, a, _, rfl, hT, rfl, v1, _, rfl, v2, _, rfl, v3, _, rfl, rfl, ?_⟩
    refine ⟨_, rfl, v1, ds1, rfl, h1, by omega, fun H1 s1 => ⟨_, rfl, ?_⟩⟩
    have q2 := fun H' z => q H' z
    have qr : isRunD (.tuple [ds1, dl, dh]) = (areSignsD ds1 && !noneIn ds1 && isNumD 0 3 dl && isHighD (lowOf dl) dh) := rfl
    rw [qr] at q2
    refine ite2 (fun e4 => ?_) (fun e4 => ?_)
    · have z : areSignsD ds1 = false := by
        cases y : areSignsD ds1 with
        | false => rfl
        | true => rw [y] at e4; cases e4
      rw [z] at q2
      exact q2 H1 s1
    have sg : areSignsD ds1 = true := by
      cases y : areSignsD ds1 with
      | true => rfl
      | false => rw [y] at e4; exact absurd rfl e4
    have t1 : isTupD ds1 = true := by
      cases ds1 <;> first | rfl | cases sg
    obtain ⟨a1, xs1, es, rfl, rfl, hT1, hA1⟩ := is_tup h1 t1
    rw [sg] at q2
    refine ⟨_, rfl, _, .inr (.inl ⟨xs1, same_tup s1 hT1, rfl⟩), ite2 (fun e5 => ?_) (fun e5 => ?_)⟩
    · have z : noneIn (.tuple es) = true := by
        cases hA1 with
        | nil => rfl
        | cons _ _ => cases e5
      rw [z] at q2
      exact q2 H1 s1
    have z : noneIn (.tuple es) = false := by
      cases hA1 with
      | nil => exact absurd rfl e5
      | cons _ _ => rfl
    rw [z] at q2
    refine ⟨_, rfl, v2, dl, 0, 3, rfl, h2.same' s1, _, rfl, ite2 (fun e6 => ?_) (fun e6 => ?_)⟩
    · have z : isNumD 0 3 dl = false := by
        cases y : isNumD 0 3 dl with
        | false => rfl
        | true => rw [y] at e6; cases e6
      rw [z] at q2
      exact q2 H1 s1
    have n2 : isNumD 0 3 dl = true := by
      cases y : isNumD 0 3 dl with
      | true => rfl
      | false => rw [y] at e6; exact absurd rfl e6
    rw [n2] at q2
    cases h2 with
    | int i =>
      refine ⟨_, rfl, _, rfl, ite2 (fun e7 => ?_) (fun e7 => ?_)⟩
      · have e7 : v3 = .non := of_decide_eq_true e7
        subst e7
        cases h3
        exact q2 H1 s1
      · have e7 : v3 ≠ .non := fun y => e7 (decide_eq_true y)
        refine ⟨_, rfl, _, rfl, _, _, rfl, v3, dh, _, 3, rfl, h3.same' s1, ?_⟩
        have z : isHighD (lowOf (.int i)) dh = isNumD (if 1 > i then 1 else i) 3 dh := by
          cases h3 <;> first | rfl | exact absurd rfl e7
        rw [z] at q2
        exact q2 H1 s1
    | _ => cases n2
end
end K0
end
/-! ### HC -/
section
set_option Elab.async false
set_option linter.all false
set_option maxRecDepth 100000
set_option maxHeartbeats 4000000
/-! Hole.__init__. -/
namespace K0
open PySem PySem.Spec PyProof.Rows L2 Rd DN
def clsBody (s : Stmt) : List Stmt := match s with
  | .ClassDef (body := b) .. => b
  | _ => []
/-- the j-th row of the class Hole -/
def hrow (j : Nat) : Stmt := (clsBody (top iHoleC)).getD j (.Pass ⟨0, 0, 0, 0⟩)
abbrev HrP (K : PySem.W.Frag) (x q : Str) (j : Nat) (f : Addr) (fd : FuncData) : Prop := FunD K x q (defArgs (hrow j)) (defBody (hrow j)) (defScope (hrow j)) [] [] f fd
theorem scHInit : FnScope ["self", "runs", "run"] ["self", "runs"] (defScope (hrow 0)) := ⟨rfl, rfl, rfl, by decide +kernel, rfl, by decide +kernel, by decide +kernel⟩
/-- what the written part says of Hole and InvalidHole -/
structure HoleK (K : PySem.W.Frag) (CH CE : Addr) : Prop where
  cls : Cls K CH
  nr : NoAttr K CH "_runs"
  nd : NoAttr K CH "_reader"
  exc : PySem.W.excIn K CE He.veBase "ValueError.__new__" = true
  kp : PySem.W.keepIn K (.ref CE) = true
  sub : PySem.W.subIn K (.ref CE) (.type "BaseException") = some true
  ty : PySem.W.typeIn K (.ref CE) = some (.type "type")
/-- what Hole is made of -/
def holeD (ds : List PyData) : Bool := decide (1 ≤ ds.length) && decide (ds.length ≤ 4) && ds.all isRunD
/-- runs' data as plain runs -/
def sgD : PyData → Nat
  | .str z => codeS z
  | _ => 0
def sgsD : PyData → List Nat
  | .tuple ds => ds.map sgD
  | _ => []
def numD : PyData → Nat
  | .int i => i.toNat
  | _ => 0
def hiD : PyData → Option Nat
  | .int i => some i.toNat
  | _ => none
def runD : PyData → RunD
  | .tuple [s, l, h] => ⟨sgsD s, numD l, hiD h⟩
  | _ => ⟨[], 0, none⟩
theorem sign_one {d : PyData} (h : isSignD d = true) : d = .str (oneS (sgD d)) := by
  obtain ⟨z, rfl⟩ := sign_str h
  obtain ⟨h1, _⟩ := Bool.and_eq_true_iff.mp (show (decide (z.length = 1) && sgAll z) = true from h)
  obtain ⟨c, rfl⟩ := one_cp (of_decide_eq_true h1)
  rfl
theorem signs_at {K : PySem.W.Frag} {H : Hp} : ∀ {ds : List PyData} {xs : List V}, DvAll K H xs ds → ds.all isSignD = true → xs = (ds.map sgD).map oneV
  | [], _, h, _ => by cases h; rfl
  | d :: ds, _, h, a => by
    cases h with
    | cons h1 h2 =>
      rw [List.all_cons, Bool.and_eq_true] at a
      rw [List.map_cons, List.map_cons, ← signs_at h2 a.2]
      congr 1
      have e := sign_one a.1
      rw [e] at h1
      cases h1
      rfl
theorem run_at {K : PySem.W.Frag} {H : Hp} {v : V} {d : PyData} (h : Dv K H v d) (r : isRunD d = true) : RunAt K H v (runD d) ∧ GoodR (runD d) := by
  have t : isTupD d = true := by
    cases d <;> first | rfl | cases r
  obtain ⟨a, xs, ds, rfl, rfl, hT, hA⟩ := is_tup h t
  have l3 : ds.length = 3 := by
    by_cases z : ds.length = 3
    · exact z
    · rw [not_three z] at r; cases r
  obtain ⟨s, l, e, rfl⟩ := three l3
  have r : (areSignsD s && !noneIn s && isNumD 0 3 l && isHighD (lowOf l) e) = true := r
  rw [Bool.and_eq_true, Bool.and_eq_true, Bool.and_eq_true] at r
  obtain ⟨⟨⟨r1, _⟩, r2⟩, r3⟩ := r
  cases hA with
  | cons h1 hA =>
  cases hA with
  | cons h2 hA =>
  cases hA with
  | cons h3 hA =>
  cases hA
  have t1 : isTupD s = true := by
    cases s <;> first | rfl | cases r1
  obtain ⟨a1, xs1, es, rfl, rfl, hT1, hA1⟩ := is_tup h1 t1
  have r1 : (es.all isSignD && (ltP es).all id) = true := r1
  have sg := (Bool.and_eq_true_iff.mp r1).1
  have e1 := signs_at hA1 sg
  cases h2 with
  | int i =>
    have r2 : (decide (0 ≤ i) && decide (i ≤ 3)) = true := r2
    rw [Bool.and_eq_true, decide_eq_true_iff, decide_eq_true_iff] at r2
    have ei : (((i.toNat : Nat) : Int)) = i := Int.toNat_of_nonneg r2.1
    have low3 : i.toNat ≤ 3 := by omega
    cases h3 with
    | non =>
      refine ⟨⟨a, a1, rfl, ?_, by rw [e1] at hT1; exact hT1⟩, ⟨low3, low3⟩⟩
      show SqT K H a [.ref a1, .int ((i.toNat : Nat) : Int), .non]
      rw [ei]
      exact hT
    | int j =>
      have r3 : (decide ((if 1 > i then 1 else i) ≤ j) && decide (j ≤ 3)) = true := r3
      rw [Bool.and_eq_true, decide_eq_true_iff, decide_eq_true_iff] at r3
      have ej : (((j.toNat : Nat) : Int)) = j := Int.toNat_of_nonneg (by
        have := r3.1
        split at this <;> omega)
      refine ⟨⟨a, a1, rfl, ?_, by rw [e1] at hT1; exact hT1⟩, ⟨low3, ?_⟩⟩
      · show SqT K H a [.ref a1, .int ((i.toNat : Nat) : Int), .int ((j.toNat : Nat) : Int)]
        rw [ei, ej]
        exact hT
      · show j.toNat ≤ 3
        omega
    | _ => cases r3
  | _ => cases r2
theorem runs_at {K : PySem.W.Frag} {H : Hp} : ∀ {ds : List PyData} {xs : List V}, DvAll K H xs ds → ds.all isRunD = true → Paired (RunAt K H) xs (ds.map runD) ∧ ∀ r ∈ ds.map runD, GoodR r
  | [], _, h, _ => by cases h; exact ⟨.nil, fun r hr => by cases hr⟩
  | d :: ds, _, h, a => by
    cases h with
    | cons h1 h2 =>
      rw [List.all_cons, Bool.and_eq_true] at a
      obtain ⟨i1, i2⟩ := runs_at h2 a.2
      obtain ⟨j1, j2⟩ := run_at h1 a.1
      refine ⟨.cons j1 i1, fun r hr => ?_⟩
      rcases List.mem_cons.mp hr with rfl | hr
      · exact j2
      · exact i2 r hr
theorem hole_good {ds : List PyData} {K : PySem.W.Frag} {H : Hp} {xs : List V} (h : DvAll K H xs ds) (o : holeD ds = true) : Good (ds.map runD) := by
  unfold holeD at o
  rw [Bool.and_eq_true, Bool.and_eq_true, decide_eq_true_iff, decide_eq_true_iff] at o
  exact ⟨by rw [List.length_map]; exact o.1.2, (runs_at h o.2).2⟩
theorem ReaderAt.keep {H H' : Hp} {t : Addr} {rs : List RunD} (h : ReaderAt H t rs) (k : ∀ y o, H y = some o → ((∃ xs, o = .tup xs) ∨ ∃ kvs, o = .dK kvs) → H' y = some o) : ReaderAt H' t rs := by
  obtain ⟨tw, tm, sts, ra, h1, h2, h3, h4, h5⟩ := h
  exact ⟨tw, tm, sts, ra, k _ _ h1 (.inl ⟨_, rfl⟩), k _ _ h2 (.inl ⟨_, rfl⟩), k _ _ h3 (.inl ⟨_, rfl⟩), pairedI h4 fun _ _ z => k _ _ z (.inr ⟨_, rfl⟩), h5⟩
theorem sqT_put {K : PySem.W.Frag} {H : Hp} {x C dx a : Addr} {fs : List (Str × V)} {xs : List V} {o : HO} (e : H x = some (.ins C dx fs)) (h : SqT K H a xs) : SqT K (upd H x o) a xs := by
  rcases h with (h | ⟨ob, h⟩) | h
  · exact .inl (.inl (by rw [upd_ne (ne_of h e (fun z => nomatch z))]; exact h))
  · exact .inl (.inr ⟨ob, by rw [upd_ne (ne_of h e (fun z => nomatch z))]; exact h⟩)
  · exact .inr h
theorem RunAt.put {K : PySem.W.Frag} {H : Hp} {x C dx : Addr} {fs : List (Str × V)} {o : HO} {v : V} {r : RunD} (e : H x = some (.ins C dx fs)) (h : RunAt K H v r) : RunAt K (upd H x o) v r := by
  obtain ⟨a, b, e1, h1, h2⟩ := h
  exact ⟨a, b, e1, sqT_put e h1, sqT_put e h2⟩
theorem RunsAt.put {K : PySem.W.Frag} {H : Hp} {x C dx a : Addr} {fs : List (Str × V)} {o : HO} {rs : List RunD} (e : H x = some (.ins C dx fs)) (h : RunsAt K H a rs) : RunsAt K (upd H x o) a rs := by
  obtain ⟨vs, h1, h2⟩ := h
  exact ⟨vs, sqT_put e h1, pairedI h2 fun _ _ z => z.put e⟩
theorem len_false {n : Nat} {ds : List PyData} (h : ¬ (1 ≤ ds.length ∧ ds.length ≤ 4)) : holeD ds = false := by
  cases z : holeD ds with
  | false => rfl
  | true =>
    unfold holeD at z
    rw [Bool.and_eq_true, Bool.and_eq_true, decide_eq_true_iff, decide_eq_true_iff] at z
    exact absurd z.1 h
def spInit (K : PySem.W.Frag) (CH CE : Addr) : Sp := fun vs H Q E => ∃ (x dx p : Addr) (xs : List V) (ds : List PyData), vs = [.ref x, .ref p] ∧ H x = some (.ins CH dx []) ∧ SqT K H p xs ∧ DvAll K H xs ds ∧ PyData.bulkAll ds ≤ 100000 ∧
  (holeD ds = true → ∀ H' t, Same H H' → H t = none → ReaderAt H' t (ds.map runD) → Q .non (upd H' x (.ins CH dx [("_runs", .ref p), ("_reader", .ref t)]))) ∧ (holeD ds = false → ∀ H', Same H H' → E (.ref CE) none H')
section
variable {P : Program} {w : World} {K : PySem.W.Frag} {mg : Str → Option Value} {base : Heap} {f fR fI CH CE : Addr} {fd fdR fdI : FuncData}
theorem ok_hinit {k : Nat} (F : HrP K "__init__" "Hole.__init__" 0 f fd) (T : HoleK K CH CE) (mlen : mg "len" = none) (mall : mg "all" = none) (gE : mg "InvalidHole" = some (.ref CE)) (mM : ∃ t, mg "MAX_RUNS" = some (.int 4 t))
    (FI : FnOk P w K mg base CX0 (k + 3) fI fdI ["value"] (spD K isRunD)) (gI : mg "is_run" = some (.ref fI)) (kI : PySem.W.keepIn K (.ref fI) = true) (bI : Binds K fdI ["value"] [])
    (FR : FnOk P w K mg base CX0 (k + 3) fR fdR ["runs"] (spReader K)) (gR : mg "reader_of" = some (.ref fR)) (kR : PySem.W.keepIn K (.ref fR) = true) (bR : Binds K fdR ["runs"] []) :
    FnR P w K mg base (L2.CX P w) (k + 4) f (fun vs H Q E => ∃ ws rest, vs = ws ++ rest ∧ ws.length = 1 ∧ rest.length ≤ sizeLine ∧ ∀ p, H p = Option.none → spInit K CH CE (ws ++ [V.ref p]) (upd H p (.tup rest)) Q E) := by
  obtain ⟨oc, od, dV, kV, doc, pm, an, cdv, ct, osl, rfl, lk, hcd, hD, _⟩ := F.ex
  obtain rfl : dV = .none := by
    rcases hD with ⟨_, e⟩ | ⟨e, _⟩
    · exact e
    · exact absurd rfl e
  obtain ⟨tM, mM⟩ := mM
  refine StX.fn_star (ps := ["self"]) (pv := "runs") (N := ["self", "runs", "run"]) (sp := spInit K CH CE) lk hcd scHInit StX.cxUp (fun us rest hl => match us, rest, hl with
    | [_], [], _ => rfl
    | [_], _ :: _, _ => rfl) (fun A outer s H vs Q E hr h => ?_)
  obtain ⟨x, dx, p, xs, ds, rfl, hx, hT, hA, sz, good, bad⟩ := h
  refine ⟨_, pss_cons (ps_if (PW.pt (pw_or (pt_not (pt_chain op_le op_le pe_int (pe_callB call_len_seq (by rfl) mlen PySem.boot_len (pa_cons (pv 1) pa_nil)) (pe_glob (v := .int 4) (by rfl) mM ⟨tM, rfl⟩)))
      (pw_or1 (pt_not (pt_val (pe_callB (cr_all rfl) (by rfl) mall (by decide +kernel) (pa_cons (pe_lc (own := [("run", 2)]) (g := gName 2) (tt := tYes) rfl scHInit.nd (pi_tup (pv 1)) (blkOk_by (N := ["self", "runs", "run"]) (sc := defScope (hrow 0)) (by decide +kernel)) (fun _ _ _ _ _ => pg_name (i := 2) scHInit.nd rfl (Or.inl rfl))
        (fun _ _ _ _ _ => pts_nil) (fun _ _ _ _ _ => pe_call FI hr (by rfl) gI kI bI .nil pass0 (pa_cons (pv 2) pa_nil))) pa_nil)))))))
      (pss_one (ps_raise rfl (takes_of rfl rfl rfl rfl) (pmk_ownA PySem.F.excBase_ValueError T.exc gE T.kp (raises_own T.sub T.ty) (by rfl) (pa_cons pe_str pa_nil)))) pss_nil)
    (pss_cons (ps_fld (pv 0) (pv 1) rfl) (pss_one (ps_fld (pv 0) (pe_call FR hr (by rfl) gR kR bR .nil pass0 (pa_cons (pv 1) pa_nil)) rfl))), ?_⟩
  have dl : xs.length = ds.length := hA.length
  have sl : sizeLine = 16777216 := sizeLine_eq
  refine ⟨_, rfl, p, xs, rfl, .inr hT, _, _, rfl, rfl, _, rfl, ite2 (fun h1 => ⟨_, _, rfl, rfl, _, rfl, ite2 (fun h2 => ?_) (fun h2 => ?_)⟩) (fun h1 => ⟨_, rfl, ?_⟩)⟩
  · refine ⟨by show 1 ≤ sizeLine; omega, bad (len_false (n := 0) fun z => ?_) H (Same.refl H)⟩
    have y : decide (((xs.length : Nat) : Int) ≤ 4) = false := by
      cases y : decide (((xs.length : Nat) : Int) ≤ 4) with
      | false => rfl
      | true => rw [y] at h2; cases h2
    have y := of_decide_eq_false y
    omega
  · have h1 : 1 ≤ ds.length := by
      have y : (1 : Int) ≤ ((xs.length : Nat) : Int) := of_decide_eq_true h1
      omega
    have h2 : ds.length ≤ 4 := by
      cases y : decide (((xs.length : Nat) : Int) ≤ 4) with
      | false => rw [y] at h2; exact absurd rfl h2
      | true =>
        have y := of_decide_eq_true y
        omega
    refine ⟨_, rfl, p, rfl, ⟨xs, hT⟩, fun D nD => lc_it (walk_tup (xs := xs)) (fun m H' => Same H H' ∧ H' D = some (.lst (((ds.map isRunD).take m).map V.bl))) ⟨same_upd nD, upd_same⟩ (fun _ H' _ hP => same_tup hP.1 hT) (fun m y H' H'' hm hP hY => ?_) (fun H' hP => ?_)⟩
    · obtain ⟨s1, hD⟩ := hP
      obtain ⟨eH, hy⟩ := hY
      subst H''
      obtain ⟨d1, g1, v1⟩ := hA.get hy
      refine ⟨rfl, _, rfl, y, d1, rfl, v1.same s1, Nat.le_trans (bulk_mem (List.mem_of_getElem? g1)) sz, fun H3 s3 => ⟨_, s3 _ _ hD, by rw [List.length_map, List.length_take]; omega, fun z o u => by rw [upd_ne (ne_of_none u nD)]; exact s3 _ _ (s1 _ _ u), ?_⟩⟩
      rw [upd_same, bl_take (by rw [List.getElem?_map, g1]; rfl)]
    · obtain ⟨s1, hD⟩ := hP
      have tk : (ds.map isRunD).take xs.length = ds.map isRunD := by rw [dl]; exact List.take_of_length_le (by rw [List.length_map]; exact Nat.le_refl _)
      rw [tk] at hD
      have ea : (ds.map isRunD).all id = ds.all isRunD := by rw [List.all_map]; rfl
      refine ⟨D, _, rfl, .of hD, _, rfl, ite2 (fun e3 => ?_) (fun e3 => ?_)⟩
      · refine ⟨by show 1 ≤ sizeLine; omega, bad ?_ H' s1⟩
        have z : (ds.map isRunD).all id = false := by
          cases y : (ds.map isRunD).all id with
          | false => rfl
          | true => rw [y] at e3; cases e3
        unfold holeD
        rw [← ea, z, Bool.and_false]
      · have z : ds.all isRunD = true := by
          rw [← ea]
          cases y : (ds.map isRunD).all id with
          | true => rfl
          | false => rw [y] at e3; exact absurd rfl e3
        have ok : holeD ds = true := by
          unfold holeD
          rw [z, decide_eq_true h1, decide_eq_true h2]
          rfl
        have hx1 := s1 _ _ hx
        refine ⟨_, rfl, _, rfl, x, CH, dx, [], rfl, hx1, T.cls, T.nr, by decide, ?_⟩
        have hR : RunsAt K H' p (ds.map runD) := ⟨xs, same_tup s1 hT, pairedI (runs_at hA z).1 fun _ _ y => y.same s1⟩
        refine ⟨_, rfl, p, ds.map runD, rfl, hR.put hx1, hole_good hA ok, fun H2 t s2 nt rd => ?_⟩
        have hx2 : H2 x = some (.ins CH dx (putF "_runs" (.ref p) [])) := s2 _ _ upd_same
        refine ⟨_, rfl, x, CH, dx, _, rfl, hx2, T.cls, T.nd, by show 1 < 1000; decide, ?_⟩
        have q2 := good ok (upd H2 x (.ins CH dx [])) t (fun y o u => ?_) ?_ (rd.keep fun y o u ho => ?_)
        · rw [upd_upd] at q2
          exact q2
        · by_cases e : y = x
          · subst e
            rw [upd_same, ← hx]
            exact u
          · rw [upd_ne e]
            exact s2 _ _ (by rw [upd_ne e]; exact s1 _ _ u)
        · cases y : H t with
          | none => rfl
          | some o =>
            by_cases e : t = x
            · rw [e, upd_same] at nt
              cases nt
            · rw [upd_ne e, s1 _ _ y] at nt
              cases nt
        · rw [upd_ne (fun e => by
            rw [e, hx2] at u
            rcases ho with ⟨_, rfl⟩ | ⟨_, rfl⟩
            · cases u
            · cases u)]
          exact u
  · refine ⟨by show 1 ≤ sizeLine; omega, bad (len_false (n := 0) fun z => ?_) H (Same.refl H)⟩
    have y : ¬ (1 : Int) ≤ ((xs.length : Nat) : Int) := fun q => h1 (decide_eq_true q)
    omega
end
end K0
end
/-! ### HO1 -/
section
set_option Elab.async false
set_option linter.all false
set_option maxRecDepth 100000
set_option maxHeartbeats 4000000
/-! Hole.of: cls(*runs). -/
namespace K0
open PySem PySem.Spec PyProof.Rows L2 Rd DN StX
/-- f(*y), f an expression that gives the class at C -/
def tMakeLS (K : PySem.W.Frag) (C : Addr) (sp : Sp) (E : XK) (tf te : TE) : TE := fun σ H Q => tf σ H fun y H1 => y = V.ref C ∧ te σ H1 fun z H2 => ∃ a xs, z = V.ref a ∧ (SqT K H2 a xs ∨ SqL K H2 a xs) ∧
  ∀ x dx, H2 x = Option.none → H2 dx = Option.none → dx ≠ x → sp (V.ref x :: xs) (upd (upd H2 dx (.own x)) x (.ins C dx [])) (fun v H3 => v = .non ∧ Q (.ref x) H3) E
theorem pe_makeLS {X : Cx} {CX : CXT} {k : Nat} {f C : Addr} {sp : Sp} {E : XK} {e fe : Expr} {te tf : TE} {p pos : Pos} (hf : PE X fe tf) (M : Mk X.K C f) (F : FnR X.prog X.w X.K X.mg X.base CX k f sp) (hr : Room (k + 1) X.A) (hx : Passes CX X E) (he : PE X e te)
    (ht : eval (.Call fe [.Starred e p] [] pos) X.env = (do callWith pos (← eval fe X.env) [] (backTo pos (starEach [.Starred e p] X.env)) (backToKw pos (keywordEach [] X.env))) := by rfl)
    (hst : starEach [.Starred e p] X.env = [(true, eval e X.env)] := by rfl) : PE X (.Call fe [.Starred e p] [] pos) (tMakeLS X.K C sp E tf te) := by
  refine ⟨fun pins s σ H Q I h => ?_⟩
  refine Call_ (thn (hf.run pins s σ H _ I h) fun u s1 ⟨y, H1, I1, ry, ey, q⟩ => ?_) ht
  subst ey
  obtain rfl : u = Value.ref C := ry
  refine PySem.W.callWith_S (h₀ := X.base) I1.ok.mod.kin M.kp (thn (he.run pins s1 σ H1 _ I1 q) fun v s2 ⟨z, H2, I2, rz, a, xs, ez, hxs, q2⟩ => ?_) hst
  subst ez
  obtain rfl : v = Value.ref a := rz
  exact star_any I2 hxs fun us s3 I3 rv => ⟨I3.kIn, run_makeR M F hr hx I3 rv q2⟩
theorem scHOf : FnScope ["cls", "runs"] ["cls", "runs"] (defScope (hrow 1)) := ⟨rfl, rfl, rfl, by decide +kernel, rfl, by decide +kernel, by decide +kernel⟩
/-- a hole: an instance with its runs and its reader -/
def HoleAt (K : PySem.W.Frag) (CH : Addr) (H : Hp) (x : Addr) (ds : List PyData) : Prop := ∃ (dx p t : Addr) (xs : List V), H x = some (.ins CH dx [("_runs", .ref p), ("_reader", .ref t)]) ∧ SqT K H p xs ∧ DvAll K H xs ds ∧ ReaderAt H t (ds.map runD) ∧ holeD ds = true
def isHoleD : PyData → Bool
  | .tuple ds => holeD ds
  | _ => false
def itemsD : PyData → List PyData
  | .tuple ds => ds
  | _ => []
def spOf (K : PySem.W.Frag) (CH CE : Addr) : Sp := fun vs H Q E => ∃ (v : V) (d : PyData), vs = [.ref CH, v] ∧ Dv K H v d ∧ d.bulk ≤ 100000 ∧ (isHoleD d = true → ∀ H' x, Same H H' → H x = none → HoleAt K CH H' x (itemsD d) → Q (.ref x) H') ∧
  (isHoleD d = false → ∀ H', Same H H' → E (.ref CE) none H')
section
variable {P : Program} {w : World} {K : PySem.W.Frag} {mg : Str → Option Value} {base : Heap} {f fN CH CE : Addr} {fd : FuncData}
theorem ok_hof {k : Nat} (F : HrP K "of" "Hole.of" 1 f fd) (T : HoleK K CH CE) (M : Mk K CH fN) (misi : mg "isinstance" = none) (mtup : mg "tuple" = none) (gE : mg "InvalidHole" = some (.ref CE))
    (FN : FnR P w K mg base (L2.CX P w) (k + 4) fN (fun vs H Q E => ∃ ws rest, vs = ws ++ rest ∧ ws.length = 1 ∧ rest.length ≤ sizeLine ∧ ∀ p, H p = Option.none → spInit K CH CE (ws ++ [V.ref p]) (upd H p (.tup rest)) Q E)) :
    FnOk P w K mg base (L2.CX P w) (k + 6) f fd ["cls", "runs"] (spOf K CH CE) := by
  refine F.ok scHOf (fun vs H Q E h => ?_) (fun cdv A outer s H vs Q E hr h => ?_)
  · obtain ⟨v, d, rfl, _⟩ := h
    rfl
  · obtain ⟨v, d, rfl, hd, sz, good, bad⟩ := h
    refine ⟨_, pss_cons (ps_if (pt_not (pt_val (pe_callB call_isi (by rfl) misi boot_isinstance (pa_cons (pv 1) (pa_cons (pe_bltn (v := .ty "tuple") (by rfl) mtup (by decide +kernel) rfl) pa_nil)))))
        (pss_one (ps_raise rfl (takes_of rfl rfl rfl rfl) (pmk_ownA PySem.F.excBase_ValueError T.exc gE T.kp (raises_own T.sub T.ty) (by rfl) (pa_cons pe_str pa_nil)))) pss_nil)
      (pss_one (ps_ret (pe_makeLS (E := E) (pv 0) M FN hr (passes_call (takes_of rfl rfl rfl rfl) (fun _ _ _ _ z => z)) (pv 1)))), ?_⟩
    have sl : sizeLine = 16777216 := sizeLine_eq
    refine ⟨_, rfl, v, _, _, _, _, rfl, .ty _, hd.ty, kit_tup d, _, rfl, ite2 (fun e => ?_) (fun e => ?_)⟩
    · refine ⟨by show 1 ≤ sizeLine; omega, bad ?_ H (Same.refl H)⟩
      cases d <;> first | rfl | cases e
    have e2 : isTupD d = true := by
      cases z : isTupD d with
      | true => rfl
      | false => rw [z] at e; exact absurd rfl e
    obtain ⟨a, xs, ds, rfl, rfl, hT, hA⟩ := is_tup hd e2
    have sz2 : PyData.bulkAll ds ≤ 100000 := sz
    have dl := bulk_len ds
    have xl := hA.length
    refine ⟨_, rfl, rfl, _, rfl, a, xs, rfl, .inl hT, fun x dx nx ndx ne => ⟨[.ref x], xs, rfl, rfl, by omega, fun p np => ?_⟩⟩
    have s0 : Same H (upd (upd H dx (.own x)) x (.ins CH dx [])) := fun y o u => by
      rw [upd_ne (ne_of_none u nx), upd_ne (ne_of_none u ndx)]
      exact u
    have s1 := s0.trans (same_upd np (o := .tup xs))
    have xp : x ≠ p := ne_of_none upd_same np
    refine ⟨x, dx, p, xs, ds, rfl, by rw [upd_ne xp, upd_same], .of upd_same, DvAll.same s1 ds _ hA, sz2, fun ok H' t s2 nt rd => ⟨rfl, ?_⟩, fun no H' s2 => bad no H' (s1.trans s2)⟩
    have hx' : H' x = some (.ins CH dx []) := s2 _ _ (by rw [upd_ne xp, upd_same])
    have s3 : Same H (upd H' x (.ins CH dx [("_runs", .ref p), ("_reader", .ref t)])) := fun y o u => by
      rw [upd_ne (ne_of_none u nx)]
      exact s2 _ _ (s1 _ _ u)
    refine good ok _ x s3 nx ⟨dx, p, t, xs, upd_same, .of ?_, DvAll.same s3 ds _ hA, rd.keep fun y o u ho => ?_, ok⟩
    · rw [upd_ne xp.symm]
      exact s2 _ _ upd_same
    · rw [upd_ne (fun e => by
        rw [e, hx'] at u
        rcases ho with ⟨_, rfl⟩ | ⟨_, rfl⟩
        · cases u
        · cases u)]
      exact u
end
end K0
end
/-! ### EQ -/
section
set_option Elab.async false
set_option linter.all false
set_option maxRecDepth 100000
set_option maxHeartbeats 4000000
/-! == and != of an instance whose class has an __eq__ of its own and no __ne__, with any value. -/
namespace OE
open PySem PySem.Spec PyProof.Rows L2
section
variable {M : Model} {prog : Program} {w : World} {A : Around} {E : Value → Shared → Prop} {s : Shared} {K : PySem.W.Frag} {x C f : Addr} {ox : Obj} {od : Option Obj} {b tb : Value}
theorem ifBound_objNe {args : List Value} {Q : Option Value → Shared → Prop} (X : K.In s.heap) (I : PySem.W.InstAt s.heap x ox C od) (hs : PySem.W.findIn K (.ref C) "__ne__" = some (some (.builtin "object.__ne__")))
    (h : wpAny M A (call (.builtin "object.__ne__") (.ref x :: args)) (fun v => Q (some v)) E s) : wpAny M A (callSpecialIfBound? (.ref x) "__ne__" args) Q E s := by
  simp only [callSpecialIfBound?, bindSpecialIfBound?]
  refine wpAny_holding (wpAny_bind (wpAny_bind (wpAny_bind (I.type.here ((PySem.W.looks_findIn X hs).here ?_)))))
  refine wpAny_bind (wpAny_askSetting (wpAny_ite ?_))
  have fin : wpAny M A (call (.builtin "object.__ne__") ([.ref x] ++ args) >>= fun v => pure (some v)) Q E s := wpAny_bind (wpAny_mono h (fun v s' h' => wpAny_pure h') fun _ _ h' => h')
  split
  · exact wpAny_bind (wpAny_of_eq (F.cmp_object.ne.bind _) (wpAny_pure (by exact fin)))
  · exact wpAny_tryCatch (wpAny_bind (wpAny_of_eq (F.cmp_object.ne.bind _) (wpAny_pure (by exact fin))))
theorem entry_ne {Q : Fin → Shared → Prop} (hu : A.units < cLine) (X : K.In s.heap) (I : PySem.W.InstAt s.heap x ox C od) (he : PySem.W.findIn K (.ref C) "__eq__" = some (some (.ref f))) (hf : PySem.W.isFn K (.ref f) = true)
    (h : wpAny (model prog w) A (call (.ref f) [.ref x, b]) (fun v s' => ∃ c, v = .bool c ∧ Q (.done (.ret (.bool (!c)))) s') E s) : wpAny (model prog w) A (Builtin.«object.__ne__» ⟨[.ref x, b], []⟩) Q E s := by
  unfold Builtin.«object.__ne__»
  show wpAny _ _ (cRoomFor "comparison" [.ref x, b] >>= _) _ _ _
  refine wpAny_bind (wpAny_cRoomFor hu (wpAny_bind (PySem.W.ifBound_K X I he hf (wpAny_mono h (fun v s' z => ?_) fun _ _ e => e))))
  obtain ⟨c, rfl, q⟩ := z
  exact wpAny_bind (wpAny_truthy_bool (wpAny_pure q))
theorem ne_K {Q : Value → Shared → Prop} (hu : A.units + 1 < cLine) (X : K.In s.heap) (I : PySem.W.InstAt s.heap x ox C od) (hb : PySem.W.Looks (model prog w) s.heap (typeOf b) tb) (hn : PySem.W.notFirst K C tb = true)
    (hs : PySem.W.findIn K (.ref C) "__ne__" = some (some (.builtin "object.__ne__"))) (he : PySem.W.findIn K (.ref C) "__eq__" = some (some (.ref f))) (hf : PySem.W.isFn K (.ref f) = true) (hm : PySem.W.mroIn K C (.type "object") = some true)
    (h : wpAny (model prog w) A.in1 (call (.ref f) [.ref x, b]) (fun v s' => ∃ c, v = .bool c ∧ Q (.bool (!c)) s') E s) : wpAny (model prog w) A (richCompare .NotEq (.ref x) b) Q E s := by
  have one : wpAny (model prog w) A (tryCompare (.ref x) "__ne__" b) (fun r s' => ∃ v, r = some v ∧ Q v s') E s := by
    unfold tryCompare
    refine wpAny_bind (ifBound_objNe X I hs (wpAny_call (codeAny_call_builtin F.cmp_object.ne.plain F.cmpEntry_ne (PySem.W.check_slot F.cmpKind_ne F.cmpSplit_ne (I.type.andThen (PySem.W.looks_mroIn X hm)) (F.cmpArgs_ne _ _)
      (entry_ne (A := A.in1) hu X I he hf (wpAny_mono h (fun v s' z => ?_) fun _ _ e => e))))))
    obtain ⟨c, rfl, q⟩ := z
    exact ⟨c, rfl, wpAny_pure ⟨_, rfl, q⟩⟩
  unfold richCompare
  simp only [oneThing_ref, cmpInfo_NotEq]
  refine wpAny_holding (wpAny_bind (wpAny_cRoomFor (Nat.lt_of_succ_lt hu) ?_))
  refine wpAny_bind (I.type.here (wpAny_bind (hb.here ?_)))
  split
  · rename_i q
    have e : PySem.W.subIn K tb (.ref C) = some false := by
      rcases Bool.or_eq_true_iff.mp hn with e | e
      · rw [beq_iff_eq.mp e] at q; simp at q
      · exact beq_iff_eq.mp e
    refine wpAny_bind ((PySem.W.looks_subIn X e).here ?_)
    simp only [Bool.false_eq_true, if_false]
    refine wpAny_bind (wpAny_mono one (fun r s' z => ?_) fun _ _ e => e)
    obtain ⟨v, rfl, hq⟩ := z
    exact wpAny_pure hq
  · refine wpAny_bind (wpAny_pure ?_)
    simp only [Bool.false_eq_true, if_false]
    refine wpAny_bind (wpAny_mono one (fun r s' z => ?_) fun _ _ e => e)
    obtain ⟨v, rfl, hq⟩ := z
    exact wpAny_pure hq
end
/-- x == y, x != y: x an instance of the class at C, whose __eq__ gives a bool -/
def rOE (K : PySem.W.Frag) (C : Addr) (sp : Sp) (E : XK) (neg : Bool) : R2 := fun x y H Q => ∃ (a dx : Addr) (fs : List (Str × V)) (t : Value), x = .ref a ∧ H a = some (.ins C dx fs) ∧ TyX K H y t ∧ PySem.W.notFirst K C t = true ∧
  sp [x, y] H (fun v H' => ∃ c, v = .bl c ∧ Q (.bl (if neg then !c else c)) H') E
structure OEq (K : PySem.W.Frag) (C g : Addr) : Prop where
  eq : PySem.W.findIn K (.ref C) "__eq__" = some (some (.ref g))
  fn : PySem.W.isFn K (.ref g) = true
  ne : PySem.W.findIn K (.ref C) "__ne__" = some (some (.builtin "object.__ne__"))
  ob : PySem.W.mroIn K C (.type "object") = some true
section
variable {X : Cx} {CX : CXT} {n : Nat} {C g : Addr} {sp : Sp} {E : XK}
theorem op_oeq (T : OEq X.K C g) (F : FnR X.prog X.w X.K X.mg X.base CX n g sp) (hr : Room n X.A) (hx : Passes CX X E) : OpR X (compareOp .Eq) (rOE X.K C sp E false) := by
  intro pins s σ H x y v u Q I rx ry h
  obtain ⟨a, dx, fs, t, rfl, ha, hy, hn, q⟩ := h
  cases (show v = Value.ref a from rx)
  obtain ⟨mA, O, _⟩ := ins_get I.hok ha
  obtain ⟨od, J, _⟩ := O.look
  obtain ⟨Pk, kt, hp, _⟩ := kit_of I ry hy
  obtain ⟨m, hF⟩ := I.fr
  show wpAny (model X.prog X.w) X.A (richCompare .Eq (.ref a) u) (EP X pins σ Q) X.xe s
  refine PySem.W.cmp_K (op := .Eq) (tb := t) hr.units0 hF I.ok.mod.kin J (kt.ty _ _ I.kIn hp) hn T.eq T.fn ?_
  refine wpAny_mono (wpAny_call (run_fnR (us := [.ref a, u]) (vs := [.ref a, y]) F hr hx I (.cons rfl (.cons ry .nil)) q)) (fun w' s' z => ?_) fun _ _ x => x
  obtain ⟨z', H', I', rz, c, rfl, qz⟩ := z
  exact SlX.cmpback rz ⟨.bl c, H', I', rz, qz⟩
theorem op_one (T : OEq X.K C g) (F : FnR X.prog X.w X.K X.mg X.base CX n g sp) (hr : Room (n + 1) X.A) (hx : Passes CX X E) : OpR X (compareOp .NotEq) (rOE X.K C sp E true) := by
  intro pins s σ H x y v u Q I rx ry h
  obtain ⟨a, dx, fs, t, rfl, ha, hy, hn, q⟩ := h
  cases (show v = Value.ref a from rx)
  obtain ⟨mA, O, _⟩ := ins_get I.hok ha
  obtain ⟨od, J, _⟩ := O.look
  obtain ⟨Pk, kt, hp, _⟩ := kit_of I ry hy
  show wpAny (model X.prog X.w) X.A (richCompare .NotEq (.ref a) u) (EP X pins σ Q) X.xe s
  refine ne_K (by have := hr.units; omega) I.kIn J (kt.ty _ _ I.kIn hp) hn T.ne T.eq T.fn T.ob ?_
  refine wpAny_mono (wpAny_call (codeAny_mono (F X.A.in1 X.stack s H [.ref a, u] [.ref a, y] _ E hr.in1 I.env0.in1 (.cons rfl (.cons ry .nil)) q) fun r s' hq => ?_)) (fun w' s' z => z) fun _ _ x => x
  cases r with
  | error e => exact hx pins σ H s e s' I hq
  | ok fl =>
    cases fl with
    | ret u2 =>
      obtain ⟨v2, H', I2, rv, c, rfl, qz⟩ := I.after hq
      cases (show u2 = Value.bool c from rv)
      exact ⟨c, rfl, .bl (!c), H', I2, rfl, qz⟩
    | next => exact False.elim hq
    | brk => exact False.elim hq
    | cont => exact False.elim hq
end
end OE
end
/-! ### HM -/
section
set_option Elab.async false
set_option linter.all false
set_option maxRecDepth 100000
set_option maxHeartbeats 4000000
/-! Hole's runs and ==. -/
namespace K0
open PySem PySem.Spec PyProof.Rows L2 Rd DN StX OE
/-! ### runs as data -/
theorem dp_signs {K : PySem.W.Frag} {H : Hp} : ∀ {ds : List PyData} {xs : List V}, DvAll K H xs ds → ds.all isSignD = true → DpAll K H xs ds
  | [], _, h, _ => by cases h; exact .nil
  | d :: ds, _, h, a => by
    cases h with
    | cons h1 h2 =>
      rw [List.all_cons, Bool.and_eq_true] at a
      refine .cons ?_ (dp_signs h2 a.2)
      obtain ⟨z, rfl⟩ := sign_str a.1
      cases h1
      exact .str z
theorem run_parts {d : PyData} (h : isRunD d = true) : ∃ es l e, d = .tuple [.tuple es, l, e] ∧ es.all isSignD = true ∧ (∃ i, l = .int i) ∧ (e = .none ∨ ∃ j, e = .int j) := by
  have t : isTupD d = true := by
    cases d <;> first | rfl | cases h
  cases d with
  | tuple ds =>
    have l3 : ds.length = 3 := by
      by_cases z : ds.length = 3
      · exact z
      · rw [not_three z] at h; cases h
    obtain ⟨s, l, e, rfl⟩ := three l3
    have r : (areSignsD s && !noneIn s && isNumD 0 3 l && isHighD (lowOf l) e) = true := h
    rw [Bool.and_eq_true, Bool.and_eq_true, Bool.and_eq_true] at r
    obtain ⟨⟨⟨r1, _⟩, r2⟩, r3⟩ := r
    cases s with
    | tuple es =>
      refine ⟨es, l, e, rfl, (Bool.and_eq_true_iff.mp (show (es.all isSignD && (ltP es).all id) = true from r1)).1, ?_, ?_⟩
      · cases l <;> first | exact ⟨_, rfl⟩ | cases r2
      · cases e <;> first | exact .inl rfl | exact .inr ⟨_, rfl⟩ | cases r3
    | _ => cases r1
  | _ => cases t
theorem dp_run {K : PySem.W.Frag} {H : Hp} {v : V} {d : PyData} (h : Dv K H v d) (r : isRunD d = true) : Dp K H v d := by
  obtain ⟨es, l, e, rfl, h1, ⟨i, rfl⟩, h3⟩ := run_parts r
  cases h with
  | tup hT hA =>
    refine .tup hT ?_
    cases hA with
    | cons a1 hA =>
    cases hA with
    | cons a2 hA =>
    cases hA with
    | cons a3 hA =>
    cases hA
    cases a1 with
    | tup hT1 hA1 =>
      refine .cons (.tup hT1 (dp_signs hA1 h1)) (.cons ?_ (.cons ?_ .nil))
      · cases a2
        exact .int i
      · rcases h3 with rfl | ⟨j, rfl⟩
        · cases a3
          exact .non
        · cases a3
          exact .int j
theorem dp_runs {K : PySem.W.Frag} {H : Hp} : ∀ {ds : List PyData} {xs : List V}, DvAll K H xs ds → ds.all isRunD = true → DpAll K H xs ds
  | [], _, h, _ => by cases h; exact .nil
  | d :: ds, _, h, a => by
    cases h with
    | cons h1 h2 =>
      rw [List.all_cons, Bool.and_eq_true] at a
      exact .cons (dp_run h1 a.1) (dp_runs h2 a.2)
theorem ok_codes : (sgs.all fun c => SeqAt.shaped (.str (oneS c))) = true := by decide +kernel
theorem sign_shape {d : PyData} (h : isSignD d = true) : d.canLay0 = true ∧ d.depth = 0 := by
  obtain ⟨z, rfl⟩ := sign_str h
  obtain ⟨h1, h2⟩ := Bool.and_eq_true_iff.mp (show (decide (z.length = 1) && sgAll z) = true from h)
  obtain ⟨c, rfl⟩ := one_cp (of_decide_eq_true h1)
  have h2 : ([c].all fun c => allSigns.cps.contains c) = true := h2
  rw [List.all_cons, sg_mem] at h2
  have hc : c ∈ sgs := of_decide_eq_true (Bool.and_eq_true_iff.mp h2).1
  exact ⟨SeqAt.canLay_of_shaped (List.all_eq_true.mp ok_codes c hc), rfl⟩
theorem signs_shape : ∀ {es : List PyData}, es.all isSignD = true → PyData.canLayAll0 es = true ∧ PyData.depthAll es ≤ 0
  | [], _ => ⟨rfl, Nat.le_refl _⟩
  | d :: es, a => by
    rw [List.all_cons, Bool.and_eq_true] at a
    obtain ⟨h1, h2⟩ := signs_shape a.2
    obtain ⟨g1, g2⟩ := sign_shape a.1
    rw [PyData.canLayAll0, PyData.depthAll, h1, g1, g2]
    exact ⟨rfl, by omega⟩
theorem run_shape {d : PyData} (h : isRunD d = true) : d.canLay0 = true ∧ d.depth ≤ 2 := by
  obtain ⟨es, l, e, rfl, h1, ⟨i, rfl⟩, h3⟩ := run_parts h
  obtain ⟨g1, g2⟩ := signs_shape h1
  have e1 : e.canLay0 = true ∧ e.depth = 0 := by
    rcases h3 with rfl | ⟨j, rfl⟩ <;> exact ⟨rfl, rfl⟩
  simp only [PyData.canLay0, PyData.canLayAll0, PyData.depth, PyData.depthAll, g1, e1.1, e1.2]
  exact ⟨rfl, by omega⟩
theorem runs_shape : ∀ {ds : List PyData}, ds.all isRunD = true → PyData.canLayAll0 ds = true ∧ PyData.depthAll ds ≤ 2
  | [], _ => ⟨rfl, Nat.zero_le _⟩
  | d :: ds, a => by
    rw [List.all_cons, Bool.and_eq_true] at a
    obtain ⟨h1, h2⟩ := runs_shape a.2
    obtain ⟨g1, g2⟩ := run_shape a.1
    rw [PyData.canLayAll0, PyData.depthAll, h1, g1]
    exact ⟨rfl, by omega⟩
theorem hole_runs {ds : List PyData} (h : holeD ds = true) : ds.all isRunD = true := by
  unfold holeD at h
  exact (Bool.and_eq_true_iff.mp h).2
theorem hole_shape {ds : List PyData} (h : holeD ds = true) : SeqAt.shaped (.tuple ds) = true := by
  obtain ⟨h1, h2⟩ := runs_shape (hole_runs h)
  unfold SeqAt.shaped
  rw [Bool.and_eq_true]
  refine ⟨?_, decide_eq_true ?_⟩
  · rw [PyData.canLay0]
    exact h1
  · rw [PyData.depth]
    omega
theorem HoleAt.same {K : PySem.W.Frag} {CH x : Addr} {H H' : Hp} {ds : List PyData} (h : HoleAt K CH H x ds) (s : Same H H') : HoleAt K CH H' x ds := by
  obtain ⟨dx, p, t, xs, h1, h2, h3, h4, h5⟩ := h
  exact ⟨dx, p, t, xs, s _ _ h1, same_tup s h2, DvAll.same s ds _ h3, h4.same s, h5⟩
/-! ### the methods -/
/-- more of what the written part says of Hole -/
structure HoleM (K : PySem.W.Frag) (CH : Addr) : Prop where
  cl : Cls K CH
  nr : NoAttr K CH "_runs"
  ca : PySem.W.findIn K (.ref CH) "__class__" = some (some (.builtin "object.__class__"))
  cg : PySem.W.specialIn K (.builtin "object.__class__") "__get__" = some (some (.builtin "getset_descriptor.__get__"))
  ct : PySem.W.takesIn K (.builtin "object.__class__") = some true
  ob : PySem.W.mroIn K CH (.type "object") = some true
  me : PySem.W.kitOne K (.ref CH) (.ref CH) = some true
  no : ∀ d : PyData, PySem.W.kitOne K (.type (dty d)) (.ref CH) = some false
  kp : PySem.W.keepIn K (.ref CH) = true
theorem HoleAt.ty {K : PySem.W.Frag} {CH x : Addr} {H : Hp} {ds : List PyData} (M : HoleM K CH) (h : HoleAt K CH H x ds) : TyX K H (.ref x) (.ref CH) := by
  obtain ⟨dx, p, t, xs, h1, _⟩ := h
  exact .base (.ins h1 M.cl M.ca M.cg M.ct M.ob)
theorem scHRuns : FnScope ["self"] ["self"] (defScope (hrow 2)) := ⟨rfl, rfl, rfl, by decide +kernel, rfl, by decide +kernel, by decide +kernel⟩
theorem scHEq : FnScope ["self", "other"] ["self", "other"] (defScope (hrow 8)) := ⟨rfl, rfl, rfl, by decide +kernel, rfl, by decide +kernel, by decide +kernel⟩
def spHRuns (K : PySem.W.Frag) (CH : Addr) : Sp := fun vs H Q _ => ∃ (x : Addr) (ds : List PyData), vs = [.ref x] ∧ HoleAt K CH H x ds ∧ ∀ p xs, SqT K H p xs → DvAll K H xs ds → Q (.ref p) H
/-- the other is a hole, or data -/
inductive OtherV (K : PySem.W.Frag) (CH : Addr) (H : Hp) : V → Option (List PyData) → Prop
  | hole {x : Addr} {ds : List PyData} (h : HoleAt K CH H x ds) : OtherV K CH H (.ref x) (some ds)
  | data {v : V} {d : PyData} (h : Dv K H v d) : OtherV K CH H v none
def eqH (ds : List PyData) : Option (List PyData) → Bool
  | some es => PyData.eqv (.tuple ds) (.tuple es)
  | none => false
def spHEq (K : PySem.W.Frag) (CH : Addr) : Sp := fun vs H Q _ => ∃ (x : Addr) (y : V) (ds : List PyData) (o : Option (List PyData)), vs = [.ref x, y] ∧ HoleAt K CH H x ds ∧ OtherV K CH H y o ∧ Q (.bl (eqH ds o)) H
section
variable {P : Program} {w : World} {K : PySem.W.Frag} {mg : Str → Option Value} {base : Heap} {f CH : Addr} {fd : FuncData}
theorem ok_hruns {k : Nat} (F : HrP K "runs" "Hole.runs" 2 f fd) (T : HoleM K CH) : FnOk P w K mg base CX0 (k + 1) f fd ["self"] (spHRuns K CH) := by
  refine F.ok scHRuns (fun vs H Q E h => ?_) (fun cdv A outer s H vs Q E hr h => ?_)
  · obtain ⟨x, ds, rfl, _⟩ := h
    rfl
  · obtain ⟨x, ds, rfl, ⟨dx, p, t, xs, h1, h2, h3, h4, h5⟩, q⟩ := h
    refine ⟨_, PSs.nox (pss_one (ps_ret (pe_fld (pv 0) rfl))), ?_⟩
    exact ⟨_, rfl, x, CH, dx, _, _, rfl, h1, T.cl, T.nr, rfl, q p xs h2 h3⟩
theorem ok_heq {k : Nat} (F : HrP K "__eq__" "Hole.__eq__" 8 f fd) (T : HoleM K CH) (misi : mg "isinstance" = none) (gH : mg "Hole" = some (.ref CH)) : FnOk P w K mg base CX0 (k + 1) f fd ["self", "other"] (spHEq K CH) := by
  refine F.ok scHEq (fun vs H Q E h => ?_) (fun cdv A outer s H vs Q E hr h => ?_)
  · obtain ⟨x, y, ds, o, rfl, _⟩ := h
    rfl
  · obtain ⟨x, y, ds, o, rfl, hx, hy, q⟩ := h
    refine ⟨_, PSs.nox (pss_one (ps_ret (pe_and (pe_callB call_isi (by rfl) misi boot_isinstance (pa_cons (pv 1) (pa_cons (pe_glob (v := .ref CH) (by rfl) gH rfl) pa_nil)))
      (pe_one (pe_cmpR (op_eqD hr.units) (pe_fld (pv 0) rfl) (pe_fld (pv 1) rfl) (nomark _)))))), ?_⟩
    cases hy with
    | data hd =>
      rename_i d
      exact ⟨_, rfl, y, .ref CH, _, _, false, rfl, .own CH, hd.ty, T.no d, _, rfl, q⟩
    | hole hy =>
      rename_i x2 es
      refine ⟨_, rfl, _, .ref CH, _, _, true, rfl, .own CH, hy.ty T, T.me, _, rfl, ?_⟩
      obtain ⟨dx, p, t, xs, h1, h2, h3, h4, h5⟩ := hx
      obtain ⟨dy, p2, t2, ys, g1, g2, g3, g4, g5⟩ := hy
      exact ⟨_, rfl, x, CH, dx, _, _, rfl, h1, T.cl, T.nr, rfl, _, rfl, x2, CH, dy, _, _, rfl, g1, T.cl, T.nr, rfl, .tuple ds, .tuple es, .tup h2 (dp_runs h3 (hole_runs h5)), .tup g2 (dp_runs g3 (hole_runs g5)), hole_shape h5, hole_shape g5, q⟩
end
end K0
end
/-! ### A3 -/
section
set_option Elab.async false
set_option linter.all false
set_option maxRecDepth 100000
set_option maxHeartbeats 4000000
/-! A list of anything, held against the empty one; a text told sign by sign. -/
namespace K0
open PySem PySem.Spec PyProof.Rows L2
section
variable {X : Cx}
def rNil (K : PySem.W.Frag) (f : Bool → Bool) : R2 := fun x y H Q => ∃ a b xs, x = .ref a ∧ y = .ref b ∧ SqL K H a xs ∧ SqL K H b [] ∧ Q (.bl (f xs.isEmpty)) H
theorem op_eqNil (hu : X.A.units + 64 < cLine) : OpR X (compareOp .Eq) (rNil X.K id) := by
  intro pins s σ H x y v u Q I rx ry h
  obtain ⟨a, b, xs, rfl, rfl, h1, h2, q⟩ := h
  cases rx
  cases ry
  obtain ⟨its, r1, p1, _⟩ := I.list h1
  obtain ⟨its2, r2, p2, _⟩ := I.list h2
  cases r2
  show wpAny _ _ (richCompare .Eq (.ref a) (.ref b)) _ _ s
  cases r1 with
  | nil => exact SeqAt.RcAt.lists (e := fun _ => true) p1.isList p2.isList rfl (by omega) (fun j h1 _ => absurd h1 (Nat.not_lt_zero _)) X.prog X.w _ _ ⟨.bl true, H, I, rfl, q⟩
  | cons r rr => exact SeqAt.RcAt.lists_lengths p1.isList p2.isList (by simp) (by omega) X.prog X.w _ _ ⟨.bl false, H, I, rfl, q⟩
theorem op_neNil (hu : X.A.units + 64 < cLine) : OpR X (compareOp .NotEq) (rNil X.K not) := by
  intro pins s σ H x y v u Q I rx ry h
  obtain ⟨a, b, xs, rfl, rfl, h1, h2, q⟩ := h
  cases rx
  cases ry
  obtain ⟨its, r1, p1, _⟩ := I.list h1
  obtain ⟨its2, r2, p2, _⟩ := I.list h2
  cases r2
  show wpAny _ _ (richCompare .NotEq (.ref a) (.ref b)) _ _ s
  cases r1 with
  | nil => exact SeqAt.RcNeAt.lists (e := fun _ => true) p1.isList p2.isList rfl (by omega) (fun j h1 _ => absurd h1 (Nat.not_lt_zero _)) X.prog X.w _ _ ⟨.bl false, H, I, rfl, q⟩
  | cons r rr => exact SeqAt.RcNeAt.lists_lengths p1.isList p2.isList (by simp) (by omega) X.prog X.w _ _ ⟨.bl true, H, I, rfl, q⟩
end
/-- what of a text's first m signs is none of the signs -/
def badP (l : List Nat) (m : Nat) : List V := ((l.take m).filter fun c => !decide (c ∈ allSigns.cps.toList)).map fun c => V.str ⟨#[c]⟩
theorem badP_succ {l : List Nat} {m c : Nat} (h : l[m]? = some c) : badP l (m + 1) = badP l m ++ if (!decide (c ∈ allSigns.cps.toList)) = true then [V.str ⟨#[c]⟩] else [] := by
  unfold badP
  rw [List.take_add_one, h, List.filter_append, List.map_append]
  congr 1
  rw [show (some c).toList = [c] from rfl, List.filter_cons, List.filter_nil]
  split <;> rfl
theorem badP_len (l : List Nat) (m : Nat) : (badP l m).length ≤ l.length := by
  unfold badP
  rw [List.length_map]
  exact Nat.le_trans (List.length_filter_le _ _) (by rw [List.length_take]; omega)
theorem badP_end (z : Str) : (badP z.cps.toList z.cps.size).isEmpty = isTextD (.str z) := by
  unfold badP
  rw [show z.cps.size = z.cps.toList.length by simp, List.take_length]
  show _ = z.cps.toList.all fun c => allSigns.cps.contains c
  induction z.cps.toList with
  | nil => rfl
  | cons c l ih =>
    rw [List.all_cons, sg_mem, List.filter_cons]
    cases decide (c ∈ allSigns.cps.toList) with
    | true => rw [Bool.true_and, ← ih]; rfl
    | false => rfl
section
variable {P : Program} {w : World} {K : PySem.W.Frag} {mg : Str → Option Value} {base : Heap} {f : Addr} {fd : FuncData}
end
end K0
end
/-! ### SetTx -/
section
set_option Elab.async false
set_option linter.all false
set_option maxRecDepth 100000
set_option maxHeartbeats 4000000
/-! Sets of texts that can be walked: what they hold, in no order; one more text, new or not. -/
namespace SetTx
open PySem PySem.Spec PyProof.Rows L2 PySem.Froz
/-- the set at a holds the texts l, each once; its table can be walked -/
def Holds (P : Program) (w : World) (h : Heap) (a : Addr) (l : List Str) : Prop := ∃ D : SD, h.get? a = some (sObj "set" D) ∧ TxOk P w D l ∧ Ris D.2.2.place.toList ∧ (w.params.followText "set-order" = true ∨ D.2.2.led = true)
theorem tail_walk {ep : Nat} {es : Array (Int × Value)} {t : SetTable} {b : Bool} (r : Ris t.place.toList) : Ris (tailTx ep es t b).2.2.place.toList ∧ (tailTx ep es t b).2.2.led = t.led := by
  unfold tailTx
  by_cases c : (!b && t.tooFull) = true
  · rw [if_pos c]
    exact ⟨relayAll_ris _ _ _, relayAll_led _ _ _⟩
  · rw [if_neg c]
    exact ⟨r, rfl⟩
theorem add_walk {h : Int} {v : Value} {D : SD} (r : Ris D.2.2.place.toList) : Ris (addTx h v D).2.2.place.toList ∧ (addTx h v D).2.2.led = D.2.2.led := by
  have r1 := layNew_ris D.2.2 D.1 h v r
  have e1 := layNew_led D.2.2 D.1 h v
  unfold addTx
  generalize layNew D.2.2 D.1 h v = L at r1 e1 ⊢
  by_cases c : L.2.1.plain = true
  · rw [if_pos c]
    obtain ⟨z1, z2⟩ := tail_walk (ep := D.2.1) (es := L.1) (t := { L.2.1 with plain := false }) (b := L.2.2.1) r1
    exact ⟨z1, z2.trans e1⟩
  · rw [if_neg c]
    obtain ⟨z1, z2⟩ := tail_walk (ep := D.2.1) (es := L.1) (t := L.2.1) (b := L.2.2.1) r1
    exact ⟨z1, z2.trans e1⟩
section
variable {P : Program} {w : World} {A : Around} {E : Value → Shared → Prop} {s : Shared}
theorem Holds.new {h : Heap} {a : Addr} (ho : h.get? a = some { cls := .type "set", dict := none, data := .set #[] 0 (.fresh 0 0 (!w.params.followText "set-order")) }) : Holds P w h a [] := by
  refine ⟨(#[], 0, .fresh 0 0 (!w.params.followText "set-order")), ho, .nil rfl, List.Pairwise.nil, ?_⟩
  show _ ∨ (!w.params.followText "set-order") = true
  cases w.params.followText "set-order" with
  | true => exact .inl rfl
  | false => exact .inr rfl
/-- a text that is there is not put in again -/
theorem add_old {a : Addr} {D : SD} {l : List Str} {k : Str} {u : Tok} {Q : Bool → Shared → Prop} (ho : s.heap.get? a = some (sObj "set" D)) (F : TxOk P w D l) (old : k ∈ l) (room : l.length + 1 < scanBound) (q : Q false s) :
    wpAny (model P w) A (setAddHashed a (.str k u) (hashStr w k)) Q E s := by
  obtain ⟨es, ep, t⟩ := D
  have few : es.size < scanBound := by
    have := F.sz
    show es.size < _
    have e : es.size = l.length := F.sz
    omega
  obtain ⟨e, he, ek⟩ := (F.mem k).mp old
  unfold setAddHashed setAddHashedIn
  refine wpAny_holding (wpAny_bind (wpAny_setState_of ho rfl F.fit ?_))
  dsimp only
  rw [byScan_of rfl few F.el]
  simp only [↓reduceIte]
  unfold setAddByScan
  refine wpAny_bind (wpAny_bind (wpAny_rule (wpAny_bind (wpAny_setScan_of (knd := strKind P w) (k := k) (is_str k u) ho rfl F.fit F.el ?_))))
  cases f : List.findIdx? (fun e => (strKind P w).is k e.2) es.toList with
  | none =>
    have z := List.findIdx?_eq_none_iff.mp f e he
    rw [ek] at z
    cases z
  | some j => exact wpAny_pure (wpAny_pure q)
theorem Holds.add {a : Addr} {l : List Str} {k : Str} {u : Tok} {Q : Bool → Shared → Prop} (R : Holds P w s.heap a l) (room : l.length + 1 < scanBound)
    (q : ∀ (b : Bool) (h' : Heap), (∀ x o, x ≠ a → s.heap.get? x = some o → h'.get? x = some o) → Holds P w h' a (if k ∈ l then l else k :: l) → Q b { s with heap := h' }) : wpAny (model P w) A (setAddHashed a (.str k u) (hashStr w k)) Q E s := by
  obtain ⟨D, ho, F, r, d⟩ := R
  by_cases old : k ∈ l
  · exact add_old ho F old room (q false s.heap (fun _ _ _ z => z) (by rw [if_pos old]; exact ⟨D, ho, F, r, d⟩))
  · refine add_x ho F old room (q true _ (fun x o n z => (Heap.get?_update_other _ _ (Ne.symm n)).trans z) ?_)
    rw [if_neg old]
    refine ⟨_, get_upd _ ho rfl, add_ok u F, (add_walk r).1, ?_⟩
    rw [(add_walk r).2]
    exact d
end
end SetTx
end
/-! ### SetTx2 -/
section
set_option Elab.async false
set_option linter.all false
set_option maxRecDepth 100000
set_option maxHeartbeats 4000000
/-! set(t) of a tuple of texts. -/
namespace SetTx
open PySem PySem.Spec PyProof.Rows L2 PySem.Froz
section
variable {P : Program} {w : World} {A : Around} {E : Value → Shared → Prop} {s : Shared}
theorem Holds.stay {h h' : Heap} {a : Addr} {l : List Str} (R : Holds P w h a l) (k : ∀ o, h.get? a = some o → h'.get? a = some o) : Holds P w h' a l := let ⟨D, ho, z⟩ := R; ⟨D, k _ ho, z⟩
theorem fill {I S : Addr} {fp wr : List Addr} {G : Array GenState → Array GenState → Prop} {n : Nat} {Pv : Nat → Value → Prop} {St : Nat → Shared → Prop} {R : Result → Shared → Prop} (W : WalksS P w A.in1 I fp wr G n Pv St) (far : S ∉ fp) {zs : List Str} (size : n = zs.length) (room : zs.length + 1 < scanBound)
    (val : ∀ i v, Pv i v → ∃ z t, zs[i]? = some z ∧ v = .str z t) (i : Nat) (s : Shared) (l : List Str) (le : i ≤ n) (st : St i s) (few : l.length ≤ i) (nd : l.Nodup) (mem : ∀ z, z ∈ l ↔ z ∈ zs.take i) (H : Holds P w s.heap S l)
    (fin : ∀ s' l', Moved (S :: wr) G s s' → l'.length ≤ n → l'.Nodup → (∀ z, z ∈ l' ↔ z ∈ zs) → Holds P w s'.heap S l' → R (.ok (.ret .none)) s') : codeAny (model P w) A (.builtin "set.update.loop" ⟨[.ref S, .ref I], []⟩) R s := by
  have out : S ∉ wr := fun z => far (W.sub _ z)
  have more : ∀ b ∈ wr, b ∈ S :: wr := fun b z => List.mem_cons_of_mem _ z
  refine codeAny_builtin F.entry_set_update_loop ?_
  rw [Around.under_plainId F.plain_set_update_loop _]
  show wpAny _ A.in1 (pyNext (.ref I) >>= _) _ _ s
  by_cases lt : i < n
  · refine wpAny_bind (W.item i s _ _ lt st fun v s1 hv st1 mv => ?_)
    obtain ⟨z, t, hz, rfl⟩ := val i v hv
    show wpAny _ A.in1 (holding [Value.str z t] (setAdd S (.str z t)) >>= _) _ _ s1
    refine wpAny_bind (wpAny_holding ?_)
    unfold setAdd
    refine wpAny_holding (wpAny_bind ((strKind P w).pyHash (k := z) (is_str z t) ?_))
    refine Holds.add (s := { s1 with toks := s1.toks + 1 }) (H.stay fun o e => mv.heap S o out e) (by omega) fun b h2 kp H2 => ?_
    have mem2 : ∀ y, y ∈ (if z ∈ l then l else z :: l) ↔ y ∈ zs.take (i + 1) := fun y => by
      rw [List.take_add_one, hz]
      split
      · rename_i old
        rw [mem y, List.mem_append]
        exact ⟨.inl, fun q => q.elim id fun q => by rw [List.mem_singleton.mp q]; exact (mem z).mp old⟩
      · rw [List.mem_cons, List.mem_append, mem y]
        exact ⟨fun q => q.elim (fun q => .inr (List.mem_singleton.mpr q)) .inl, fun q => q.elim .inr fun q => .inl (List.mem_singleton.mp q)⟩
    have nd2 : (if z ∈ l then l else z :: l).Nodup := by
      split
      · exact nd
      · rename_i new
        exact List.nodup_cons.mpr ⟨new, nd⟩
    have few2 : (if z ∈ l then l else z :: l).length ≤ i + 1 := by
      split
      · omega
      · rw [List.length_cons]
        omega
    refine wpAny_pure ⟨plainId_quiet F.plain_set_update_loop _, fill W far size room val (i + 1) _ _ lt (W.frame _ s1 _ _ st1 (Nat.le_succ _) fun b hb o e => kp b o (fun z => far (z ▸ hb)) e) few2 nd2 mem2 H2 fun s3 l3 mv3 a1 a2 a3 a4 => fin s3 l3 (Moved.trans W.gtrans ((mv.mono more).then_heap (Nat.le_succ _) fun b o hb e => kp b o (fun z => hb (z ▸ List.mem_cons_self)) e) mv3) a1 a2 a3 a4⟩
  · refine wpAny_bind (m := pyNext (.ref I)) ?_
    have e : i = n := by omega
    subst e
    refine W.done s _ _ st fun s1 mv => ?_
    show wpAny _ A.in1 (ret Value.none) _ _ s1
    rw [List.take_of_length_le (by omega)] at mem
    exact wpAny_pure (fin s1 l (mv.mono more) few nd mem (H.stay fun o e => mv.heap S o out e))
  termination_by n - i
theorem L2S.strs_get : ∀ {us : List Value} {zs : List Str}, StrsAre us zs → ∀ (i : Nat) (v : Value), us[i]? = some v → ∃ t, ∀ lt : i < zs.length, v = .str zs[i] t
  | _, _, .nil, i, v, h => by cases h
  | _, _, .cons z t r, 0, v, h => ⟨t, fun _ => (Option.some.inj h).symm⟩
  | _, _, .cons z t r, i + 1, v, h => by
    obtain ⟨t', e⟩ := L2S.strs_get r i v (by simpa using h)
    exact ⟨t', fun lt => e (Nat.lt_of_succ_lt_succ lt)⟩
abbrev freshSet (w : World) : Obj := { cls := .type "set", dict := none, data := .set #[] 0 (.fresh 0 0 (!w.params.followText "set-order")) }
theorem call_set_txt {a : Addr} {items : Array Value} {zs : List Str} {Q : Value → Shared → Prop} (hh : A.handled = none) (ht : s.heap.IsTuple a items) (its : StrsAre items.toList zs) (room : zs.length + 1 < scanBound)
    (q : ∀ (h' : Heap) (tk : Nat) (l : List Str), (∀ b o, s.heap.get? b = some o → h'.get? b = some o) → Holds P w h' s.heap.objs.size l → l.Nodup → (∀ z, z ∈ l ↔ z ∈ zs) → l.length ≤ zs.length → Q (.ref s.heap.objs.size) { s with heap := h', toks := tk }) :
    wpAny (model P w) A (call (.type "set") [.ref a]) Q E s := by
  have size : items.size = zs.length := by
    have z := StrsAre.length its
    rw [Array.length_toList] at z
    exact z
  obtain ⟨c0, tl0, mro0⟩ := F.called_set.mro
  have mk0 := F.called_set.made
  have sb0 := F.called_set.sub
  have nt0 := F.called_set.notType
  have cc0 := F.called_set.canCreate
  have tc0 := F.typeCall_set_1 (.ref a)
  refine wpAny_call (codeAny_of_tree (show wpAny _ _ (callAny (.type "set") _) _ _ _ from wpAny_pure ⟨Code.quiet_builtin _ (by decide +kernel), codeAny_builtin F.entry_type_call ?_⟩))
  rw [Around.under_plain (weight_type_call_type "set" [.ref a] []) rfl]
  repeat (any_goals (first | assumption | wp_step))
  refine codeAny_mono (code_set_led1 (.ref a) (E := E) (Q₁ := fun obj s₁ => obj = .ref s.heap.objs.size ∧ s₁ = { s with heap := s.heap.push (freshSet w) }) ⟨rfl, rfl⟩) fun r s₁ hr => ?_
  match r, hr with
  | .error e, hr => exact hr
  | .ok (.ret obj), hr =>
    obtain ⟨rfl, rfl⟩ := hr
    have hS : (s.heap.push (freshSet w)).get? s.heap.objs.size = some (freshSet w) := Heap.get?_push_size _ rfl
    have ty : Shared.TypeIs { s with heap := s.heap.push (freshSet w) } (.ref s.heap.objs.size) "set" := ⟨_, hS, rfl⟩
    have lk0 := F.called_set.init.lookup
    have bd0 := F.called_set.init.bind (.ref s.heap.objs.size)
    repeat (any_goals (first | assumption | wp_step))
    let Got : Shared → Prop := fun s₂ => ∃ (h' : Heap) (tk : Nat) (l : List Str), s₂ = { s with heap := h', toks := tk } ∧ (∀ b o, s.heap.get? b = some o → h'.get? b = some o) ∧ Holds P w h' s.heap.objs.size l ∧ l.Nodup ∧ (∀ z, z ∈ l ↔ z ∈ zs) ∧ l.length ≤ zs.length
    refine codeAny_mono (codeAny_call_builtin (R := wants (fun r s₂ => r = .none ∧ Got s₂) E) F.called_set.init.plain F.entry_set_init (check_set_init_1 ty ?_)) fun r₂ s₂ h₂ => ?_
    · obtain ⟨⟨oc, od, odt, osl⟩, hot, ct, nt, dt⟩ := ht
      simp only at ct dt
      subst ct dt
      have hot1 : (s.heap.push (freshSet w)).get? a = some { cls := .type "tuple", dict := od, data := .seq items nt, slots := osl } := Heap.get?_push_of_some _ hot
      have u1 := F.sub_tuple_set
      have u2 := F.sub_tuple_frozenset
      have u3 : (Value.type "tuple" == Value.type "dict") = false := by decide
      have isT : (s.heap.push (freshSet w)).IsTuple a items := ⟨_, hot1, rfl, nt, rfl⟩
      have aS : a < s.heap.objs.size := Heap.lt_size hot
      unfold Builtin.«set.__init__» noKeywords Builtin.Frozenset.updateFrom
      generalize held : pyIter = PI
      wp_walk
      subst held
      refine wpAny_pyIter_tuple isT (wpAny_bind (wpAny_runValue ?_))
      have sz1 : (s.heap.push (freshSet w)).objs.size = s.heap.objs.size + 1 := Heap.size_push ..
      have apart : a ≠ (s.heap.push (freshSet w)).objs.size := by
        rw [sz1]
        exact Nat.ne_of_lt (Nat.lt_succ_of_lt aS)
      have far : s.heap.objs.size ∉ [(s.heap.push (freshSet w)).objs.size, a] := fun z => by
        rw [sz1] at z
        rcases List.mem_cons.mp z with z | z
        · exact absurd z (Nat.ne_of_lt (Nat.lt_succ_self _))
        · exact absurd (List.mem_singleton.mp z) (Nat.ne_of_gt aS)
      have h3 : A.in1.in1.in1.handled = none := by simp [hh]
      refine fill (Walks.toS (Walks.tuple h3 (s.heap.push (freshSet w)).objs.size a apart items)) far size room (fun i v hv => ?_) 0 _ [] (Nat.zero_le _) ⟨⟨_, Heap.get?_push_size _ rfl, rfl, rfl⟩, isT.push _⟩ (Nat.le_refl _) List.nodup_nil (fun z => by simp) (Holds.new (Heap.get?_push_of_some _ hS)) fun s' l' mv a1 a2 a3 a4 => ?_
      · have lt : i < zs.length := by
          rw [← size]
          exact (Array.getElem?_eq_some_iff.mp hv).1
        obtain ⟨t, e⟩ := L2S.strs_get its i v (by rw [Array.getElem?_toList]; exact hv)
        exact ⟨_, t, List.getElem?_eq_getElem lt, e lt⟩
      · obtain ⟨h', g2, d', tk', os'⟩ := s'
        obtain rfl : g2 = s.gens := mv.gens
        obtain rfl : d' = s.drawn := mv.drawn
        obtain rfl : os' = s.os := mv.os
        show wpAny _ _ _ _ _ _
        refine wpAny_pure ?_
        show wpAny _ _ (ret Value.none) _ _ _
        refine wpAny_pure ⟨rfl, h', tk', l', rfl, fun b o e => ?_, a4, a2, a3, by rw [← size]; exact a1⟩
        have b1 : b < s.heap.objs.size := Heap.lt_size e
        refine mv.heap b o (fun z => ?_) (Heap.get?_push_of_some _ (Heap.get?_push_of_some _ e))
        rcases List.mem_cons.mp z with z | z
        · exact absurd z (Nat.ne_of_lt b1)
        · have z2 := List.mem_singleton.mp z
          rw [sz1] at z2
          exact absurd z2 (Nat.ne_of_lt (Nat.lt_succ_of_lt b1))
    · match r₂, h₂ with
      | .error e, h₂ => exact h₂
      | .ok (.ret r), h₂ =>
        obtain ⟨rfl, h', tk, l, rfl, k1, k2, k3, k4, k5⟩ := h₂
        repeat (any_goals (first | assumption | wp_step))
        exact q _ _ _ k1 k2 k3 k4 k5
end
end SetTx
end
/-! ### SetTx3 -/
section
set_option Elab.async false
set_option linter.all false
set_option maxRecDepth 100000
set_option maxHeartbeats 4000000
/-! sorted(s) of a set of texts. -/
namespace SetTx
open PySem PySem.Spec PyProof.Rows L2 PySem.Froz
section
variable {P : Program} {w : World} {A : Around} {E : Value → Shared → Prop} {s : Shared}
theorem perm_of_sub : ∀ (l ks : List Str), l.Nodup → l ⊆ ks → l.length = ks.length → l.Perm ks
  | [], ks, _, _, e => by
    have z : ks = [] := List.eq_nil_of_length_eq_zero e.symm
    rw [z]
  | a :: l, ks, nd, sub, e => by
    have m : a ∈ ks := sub (List.mem_cons_self ..)
    have n := List.nodup_cons.mp nd
    refine List.Perm.trans (List.Perm.cons a (perm_of_sub l (ks.erase a) n.2 (fun x hx => ?_) ?_)) (List.perm_cons_erase m).symm
    · have ne : x ≠ a := fun q => n.1 (q ▸ hx)
      exact (List.mem_erase_of_ne ne).mpr (sub (List.mem_cons_of_mem _ hx))
    · rw [List.length_erase_of_mem m, ← e]
      rfl
theorem elem_str {D : SD} {l : List Str} (F : TxOk P w D l) : ∀ e ∈ D.1.toList, ∃ k t, e.2 = .str k t := fun e he => by
  obtain ⟨⟨k, hk, _⟩, _⟩ := F.el e he
  have z : Value.isStrOf k e.2 = true := hk
  cases q : e.2 with
  | str y t => exact ⟨y, t, rfl⟩
  | _ => rw [q] at z; cases z
theorem keys_perm {D : SD} {l : List Str} (F : TxOk P w D l) (nd : l.Nodup) : (D.1.toList.map fun e => PyProof.Rows.strOf e.2).Perm l := by
  have sub : l ⊆ D.1.toList.map fun e => PyProof.Rows.strOf e.2 := fun k hk => by
    obtain ⟨e, he, ek⟩ := (F.mem k).mp hk
    obtain ⟨y, t, e2⟩ := elem_str F e he
    have z : Value.isStrOf k e.2 = true := ek
    rw [e2] at z
    refine List.mem_map.mpr ⟨e, he, ?_⟩
    rw [e2]
    show y = k
    simp [Value.isStrOf] at z
    exact z
  refine (perm_of_sub l _ nd sub ?_).symm
  rw [List.length_map]
  exact F.sz.symm
theorem sorted_txt {a : Addr} {l : List Str} {Q : Value → Shared → Prop} (R : Holds P w s.heap a l) (nd : l.Nodup) (hh : A.handled = none) (few : l.length < 1000)
    (q : ∀ s' p (out : Array Value) (c : Nat) (ys : List Str), (∀ b o, s.heap.get? b = some o → s'.heap.get? b = some o) → s'.gens = s.gens → s'.os = s.os → s.heap.objs.size ≤ p → s'.heap.get? p = some (seqObj "list" out c) → StrsAre out.toList ys → ys.Perm l → sortedS ys = true → Q (.ref p) s') :
    wpAny (model P w) A (call (.builtin "sorted") [.ref a]) Q E s := by
  obtain ⟨D, ho, F, r, d⟩ := R
  have big : D.1.size < scanBound := by
    rw [F.sz]
    exact Nat.lt_of_lt_of_le few (by decide)
  refine Calls.call_function_entry kind_sorted plain_sorted entry_sorted (args_sorted1 _) ?_
  unfold Builtin.«sorted»
  refine wpAny_bind (m := checkCount "sorted" 1 1 _) (wpAny_pure (wpAny_bind (collect_set (A := A.in1) (es := D.1) (ep := D.2.1) (t := D.2.2) hh ⟨_, ho, rfl, rfl⟩ F.fit big r d fun s1 vs k1 sz g1 o1 pm => ?_)))
  have vl : vs.length = l.length := by rw [pm.length_eq, List.length_map, Array.length_toList]; exact F.sz
  have all : ∀ v, v ∈ vs → ∃ x t, v = .str x t := fun v hv => by
    obtain ⟨e, he, e2⟩ := List.mem_map.mp (pm.mem_iff.mp hv)
    obtain ⟨y, t, e3⟩ := elem_str F e he
    exact ⟨y, t, by rw [← e2]; exact e3⟩
  have are := strsAre_map vs all
  have pk : (vs.map PyProof.Rows.strOf).Perm l := by
    have z := pm.map PyProof.Rows.strOf
    rw [List.map_map] at z
    exact z.trans (keys_perm F nd)
  have line : vs.length ≤ sizeLine := by rw [vl, sizeLine_eq]; omega
  refine wpAny_bind (wpAny_newList ?_ line)
  have hoL : (s1.heap.push (seqObj "list" vs.toArray 0)).get? s1.heap.objs.size = some (seqObj "list" vs.toArray 0) := Heap.get?_push_size _ rfl
  refine wpAny_bind (wpAny_holding (wpAny_call_entry slot_list_sort ⟨_, hoL, rfl⟩ entry_list_sort (list_sort_treeKAny strKind_oneLt hoL are.keysOf (fun v₁ v₂ rest e => keyKind_strs (by rw [← e]; exact are)) line fun st' hp hs => ⟨_, rfl, ?_⟩) (args_list_sort _)))
  obtain ⟨ys, b1, b2, b3⟩ := sorted_out_str are hp hs
  obtain ⟨c, hc⟩ := sortedHeap_at (vs := vs) (out := (arrOf st').map (·.2)) hoL
  refine wpAny_pure ⟨_, rfl, q _ s1.heap.objs.size _ c ys (fun b u e => ?_) g1 o1 sz hc b1 (b2.trans pk) b3⟩
  have z := k1 b u e
  have lt := Heap.lt_size z
  show (sortedHeap (s1.heap.push (seqObj "list" vs.toArray 0)) s1.heap.objs.size vs _).get? b = some u
  rw [sortedHeap_old (Nat.ne_of_lt lt) (by rw [size_push']; exact Nat.lt_succ_of_lt lt)]
  exact Heap.get?_push_of_some _ z
end
end SetTx
end
/-! ### SetTx4 -/
section
set_option Elab.async false
set_option linter.all false
set_option maxRecDepth 100000
set_option maxHeartbeats 4000000
/-! set(t), sorted(s) of texts as calls over the abstract heap. -/
namespace SetTx
open PySem PySem.Spec PyProof.Rows L2
def TxO (P : Program) (w : World) (a : Addr) (l : List Str) : HO := .ext fun h => Holds P w h a l
theorem txO_new {P : Program} {w : World} {H : Hp} {h : Heap} {a : Addr} {l : List Str} (R : Holds P w h a l) : ObjOk P w H h a (TxO P w a l) := by
  have ⟨D, ho, _⟩ := R
  exact ⟨R, ⟨_, ho⟩, fun h1 h2 p k => p.stay k⟩
section
variable {X : Cx}
def rSetTx (K : PySem.W.Frag) (P : Program) (w : World) : List V → Hp → VK → Prop := fun xs H Q => ∃ (t : Addr) (zs : List Str), xs = [V.ref t] ∧ SqT K H t (zs.map V.str) ∧ zs.length < 1000 ∧
  ∀ a l, H a = none → l.Nodup → (∀ z, z ∈ l ↔ z ∈ zs) → l.length ≤ zs.length → Q (.ref a) (upd H a (TxO P w a l))
theorem cr_setTx (hc : X.calm = true) : CallR X (.type "set") (rSetTx X.K X.prog X.w) := by
  intro pins s σ H xs us Q I r h
  obtain ⟨t, zs, rfl, ht, hl, q⟩ := h
  rw [Vals.ref1 r]
  obtain ⟨its, rv, pl, hz⟩ := I.tuple ht
  have hn : H s.heap.objs.size = none := I.hok.fresh (Nat.le_refl _)
  refine call_set_txt (P := X.prog) (w := X.w) (zs := zs) (I.ok.hd hc) pl (by simpa using rv.strs) (by show _ < 4096; omega) fun h' tk l k R nd mem le => ?_
  exact ⟨.ref s.heap.objs.size, upd H s.heap.objs.size (TxO X.prog X.w s.heap.objs.size l), I.laid (t' := tk) k (Nat.le_refl _) (txO_new R), rfl, q _ l hn nd mem le⟩
def rSortedTx (P : Program) (w : World) : List V → Hp → VK → Prop := fun vs H Q => ∃ (a : Addr) (l : List Str), vs = [V.ref a] ∧ H a = some (TxO P w a l) ∧ l.Nodup ∧ l.length < 1000 ∧
  ∀ (ys : List Str) (p : Addr), ys.Perm l → sortedS ys = true → H p = none → Q (.ref p) (upd H p (.lst (ys.map V.str)))
theorem cr_sortedTx (hc : X.calm = true) : CallR X (.builtin "sorted") (rSortedTx X.prog X.w) := by
  intro pins s σ H vs us Q I r h
  obtain ⟨a, l, rfl, ha, nd, few, q⟩ := h
  have R : Holds X.prog X.w s.heap a l := (I.hok a _ ha).1
  rw [Vals.ref1 r]
  refine sorted_txt R nd (I.ok.hd hc) few fun s' p out c ys k g o hp hg hs pm so => ?_
  have hlen : (ys.map V.str).length ≤ sizeLine := by rw [List.length_map, pm.length_eq, sizeLine_eq]; omega
  have hn : H p = none := I.hok.fresh hp
  have J : Inv X pins σ (upd H p (.lst (ys.map V.str))) { s with heap := s'.heap, gens := s'.gens, drawn := s'.drawn, toks := s'.toks } :=
    I.call (ch := []) (Un.laid k hp hn) (I.hok.laid k hp ⟨hlen, out.toList, c, vals_of_strs hs, hg⟩) (by rw [g]; exact I.bare) (fun _ z => nomatch z)
  have e : s' = { s with heap := s'.heap, gens := s'.gens, drawn := s'.drawn, toks := s'.toks } := by
    cases s'
    cases s
    cases o
    rfl
  rw [e]
  exact ⟨.ref p, _, J, rfl, q ys p pm so hn⟩
end
end SetTx
end
/-! ### LA1 -/
section
set_option Elab.async false
set_option linter.all false
set_option maxRecDepth 100000
set_option maxHeartbeats 4000000
/-! _law_is_integer, _law_are_signs. -/
namespace K0
open PySem PySem.Spec PyProof.Rows L2 SetTx
def isLIntD : PyData → Bool
  | .int i => decide (-(10 ^ Int.toNat 40) < i) && decide (i < 10 ^ Int.toNat 40)
  | _ => false
section
variable {P : Program} {w : World} {K : PySem.W.Frag} {mg : Str → Option Value} {base : Heap} {f fT : Addr} {fd fdT : FuncData}
end
end K0
end
/-! ### LA2 -/
section
set_option Elab.async false
set_option linter.all false
set_option maxRecDepth 100000
set_option maxHeartbeats 4000000
/-! _law_are_signs. -/
namespace K0
open PySem PySem.Spec PyProof.Rows L2 SetTx
theorem nat_ext : ∀ {l m : List Nat}, l.Pairwise (· < ·) → m.Pairwise (· < ·) → (∀ x, x ∈ l ↔ x ∈ m) → l = m
  | [], [], _, _, _ => rfl
  | [], y :: m, _, _, h => by have := (h y).mpr List.mem_cons_self; cases this
  | x :: l, [], _, _, h => by have := (h x).mp List.mem_cons_self; cases this
  | x :: l, y :: m, hl, hm, h => by
    obtain ⟨a1, a2⟩ := List.pairwise_cons.mp hl
    obtain ⟨b1, b2⟩ := List.pairwise_cons.mp hm
    have e : x = y := by
      rcases List.mem_cons.mp ((h x).mp List.mem_cons_self) with e | e
      · exact e
      · rcases List.mem_cons.mp ((h y).mpr List.mem_cons_self) with f | f
        · exact f.symm
        · have z1 := b1 x e
          have z2 := a1 y f
          omega
    subst e
    have t : l = m := nat_ext a2 b2 fun z => by
      constructor
      · intro hz
        rcases List.mem_cons.mp ((h z).mp (List.mem_cons_of_mem _ hz)) with e | e
        · subst e; have := a1 z hz; omega
        · exact e
      · intro hz
        rcases List.mem_cons.mp ((h z).mpr (List.mem_cons_of_mem _ hz)) with e | e
        · subst e; have := b1 z hz; omega
        · exact e
    rw [t]
theorem one_lt {c d : Nat} : decide ((oneS c).cps.toList < (oneS d).cps.toList) = decide (c < d) := by
  refine decide_eq_decide.mpr ?_
  show [c] < [d] ↔ c < d
  constructor
  · intro h
    cases h with
    | rel h => exact h
    | cons h => cases h
  · intro h
    exact List.Lex.rel h
theorem ltP_cons (d e : PyData) (ds : List PyData) : ltP (d :: e :: ds) = ltD d e :: ltP (e :: ds) := rfl
theorem ltP_asc : ∀ (cs : List Nat), (ltP (cs.map fun c => PyData.str (oneS c))).all id = decide (cs.Pairwise (· < ·))
  | [] => rfl
  | [c] => by simp [ltP]
  | c :: d :: cs => by
    have ih := ltP_asc (d :: cs)
    rw [List.map_cons, List.map_cons] at *
    rw [ltP_cons, List.all_cons, ih]
    show (decide ((oneS c).cps.toList < (oneS d).cps.toList) && _) = _
    rw [one_lt]
    by_cases h1 : c < d
    · by_cases h2 : (d :: cs).Pairwise (· < ·)
      · have h3 : (c :: d :: cs).Pairwise (· < ·) := List.pairwise_cons.mpr ⟨fun x hx => by
          rcases List.mem_cons.mp hx with rfl | hx
          · exact h1
          · exact Nat.lt_trans h1 ((List.pairwise_cons.mp h2).1 x hx), h2⟩
        rw [decide_eq_true h1, decide_eq_true h2, decide_eq_true h3]
        rfl
      · have h3 : ¬ (c :: d :: cs).Pairwise (· < ·) := fun z => h2 (List.pairwise_cons.mp z).2
        rw [decide_eq_true h1, decide_eq_false h2, decide_eq_false h3]
        rfl
    · have h3 : ¬ (c :: d :: cs).Pairwise (· < ·) := fun z => h1 ((List.pairwise_cons.mp z).1 d List.mem_cons_self)
      rw [decide_eq_false h1, decide_eq_false h3, Bool.false_and]
theorem strs_of {ds : List PyData} (h : ds.all isSignD = true) : ds = (ds.map sgD).map fun c => PyData.str (oneS c) := by
  induction ds with
  | nil => rfl
  | cons d ds ih =>
    rw [List.all_cons, Bool.and_eq_true] at h
    rw [List.map_cons, List.map_cons, ← ih h.2, ← sign_one h.1]
theorem are_asc {ds : List PyData} (h : ds.all isSignD = true) : areSignsD (.tuple ds) = decide ((ds.map sgD).Pairwise (· < ·)) := by
  show (ds.all isSignD && (ltP ds).all id) = _
  rw [h, Bool.true_and]
  conv => lhs; rw [strs_of h]
  exact ltP_asc _
theorem oneS_inj {c d : Nat} (h : oneS c = oneS d) : c = d := by
  injection h with h
  injection h with h
  injection h
theorem set_same {cs : List Nat} {l ys : List Str} (nd : l.Nodup) (mem : ∀ z, z ∈ l ↔ z ∈ cs.map oneS) (pm : ys.Perm l) (so : sortedS ys = true) : (cs.map oneS = ys) ↔ cs.Pairwise (· < ·) := by
  have ynd : ys.Nodup := pm.nodup_iff.mpr nd
  obtain ⟨cy, rfl⟩ : ∃ cy : List Nat, ys = cy.map oneS := by
    have all : ∀ z ∈ ys, ∃ c, z = oneS c := fun z hz => by
      obtain ⟨c, _, e⟩ := List.mem_map.mp ((mem z).mp (pm.mem_iff.mp hz))
      exact ⟨c, e.symm⟩
    clear pm so ynd
    induction ys with
    | nil => exact ⟨[], rfl⟩
    | cons y ys ih =>
      obtain ⟨c, e⟩ := all y List.mem_cons_self
      obtain ⟨cy, e2⟩ := ih fun z hz => all z (List.mem_cons_of_mem _ hz)
      exact ⟨c :: cy, by rw [e, e2]; rfl⟩
  have cnd : cy.Nodup := List.Pairwise.of_map oneS (fun a b hne e => hne (by rw [e])) ynd
  have casc := sorted_pw so cnd
  have cm : ∀ c, c ∈ cs ↔ c ∈ cy := fun c => by
    have e1 : c ∈ cy ↔ oneS c ∈ cy.map oneS := ⟨fun h => List.mem_map.mpr ⟨c, h, rfl⟩, fun h => by
      obtain ⟨d, hd, e⟩ := List.mem_map.mp h
      rw [← oneS_inj e]
      exact hd⟩
    have e2 : c ∈ cs ↔ oneS c ∈ cs.map oneS := ⟨fun h => List.mem_map.mpr ⟨c, h, rfl⟩, fun h => by
      obtain ⟨d, hd, e⟩ := List.mem_map.mp h
      rw [← oneS_inj e]
      exact hd⟩
    rw [e1, e2, ← mem, pm.mem_iff]
  constructor
  · intro h
    have e : cs = cy := by
      have inj : ∀ {a b : List Nat}, a.map oneS = b.map oneS → a = b := by
        intro a
        induction a with
        | nil => intro b h; cases b with
          | nil => rfl
          | cons _ _ => cases h
        | cons x a ih => intro b h; cases b with
          | nil => cases h
          | cons y b =>
            rw [List.map_cons, List.map_cons] at h
            injection h with h1 h2
            rw [oneS_inj h1, ih h2]
      exact inj h
    rw [e]
    exact casc
  · intro h
    rw [nat_ext h casc cm]
/-- tuples are short -/
def shortT : PyData → Bool
  | .tuple ds => decide (ds.length < 1000)
  | _ => true
def spDS (K : PySem.W.Frag) (f : PyData → Bool) : Sp := fun vs H Q _ => ∃ (v : V) (d : PyData), vs = [v] ∧ Dv K H v d ∧ d.bulk ≤ 100000 ∧ shortT d = true ∧ ∀ H', Same H H' → Q (.bl (f d)) H'
theorem eqv_strs : ∀ (a b : List Str), PyData.eqvAll (a.map .str) (b.map .str) = decide (a = b)
  | [], [] => rfl
  | [], _ :: _ => rfl
  | _ :: _, [] => rfl
  | x :: a, y :: b => by
    rw [List.map_cons, List.map_cons]
    show (PyData.eqv (.str x) (.str y) && PyData.eqvAll (a.map .str) (b.map .str)) = _
    rw [eqv_strs a b]
    show ((x == y) && _) = _
    by_cases h1 : x = y
    · subst h1
      simp
    · simp [h1]
end K0
end
/-! ### LA3 -/
section
set_option Elab.async false
set_option linter.all false
set_option maxRecDepth 100000
set_option maxHeartbeats 4000000
/-! _law_are_signs, the def. -/
namespace K0
open PySem PySem.Spec PyProof.Rows L2 SetTx
abbrev sgs' : List Nat := allSigns.cps.toList
theorem ok_codes' : (sgs'.all fun c => SeqAt.shaped (.str (oneS c))) = true := by decide +kernel
theorem sign_mem {d : PyData} (h : isSignD d = true) : sgD d ∈ sgs' := by
  obtain ⟨z, rfl⟩ := sign_str h
  obtain ⟨h1, h2⟩ := Bool.and_eq_true_iff.mp (show (decide (z.length = 1) && sgAll z) = true from h)
  obtain ⟨c, rfl⟩ := one_cp (of_decide_eq_true h1)
  have h2 : ([c].all fun c => allSigns.cps.contains c) = true := h2
  rw [List.all_cons, sg_mem] at h2
  exact of_decide_eq_true (Bool.and_eq_true_iff.mp h2).1
theorem dp_strs {K : PySem.W.Frag} {H : Hp} : ∀ l : List Str, DpAll K H (l.map V.str) (l.map .str)
  | [] => .nil
  | z :: l => .cons (.str z) (dp_strs l)
theorem ones_map (cs : List Nat) : cs.map oneV = (cs.map oneS).map V.str := by rw [List.map_map]; rfl
theorem ones_shape : ∀ {l : List Str}, (∀ z ∈ l, ∃ c ∈ sgs', z = oneS c) → PyData.canLayAll0 (l.map .str) = true ∧ PyData.depthAll (l.map .str) ≤ 0
  | [], _ => ⟨rfl, Nat.le_refl _⟩
  | z :: l, h => by
    obtain ⟨h1, h2⟩ := ones_shape fun y hy => h y (List.mem_cons_of_mem _ hy)
    obtain ⟨c, hc, rfl⟩ := h z List.mem_cons_self
    have g : (PyData.str (oneS c)).canLay0 = true := SeqAt.canLay_of_shaped (List.all_eq_true.mp ok_codes' c hc)
    rw [List.map_cons, PyData.canLayAll0, PyData.depthAll, h1, g]
    exact ⟨rfl, by show max 0 _ ≤ 0; omega⟩
theorem ones_shaped {l : List Str} (h : ∀ z ∈ l, ∃ c ∈ sgs', z = oneS c) : SeqAt.shaped (.list (l.map .str)) = true := by
  obtain ⟨h1, h2⟩ := ones_shape h
  unfold SeqAt.shaped
  rw [Bool.and_eq_true]
  refine ⟨?_, decide_eq_true ?_⟩
  · rw [PyData.canLay0]
    exact h1
  · rw [PyData.depth]
    omega
section
variable {P : Program} {w : World} {K : PySem.W.Frag} {mg : Str → Option Value} {base : Heap} {f fT : Addr} {fd fdT : FuncData}
end
end K0
end
/-! ### LR1 -/
section
set_option Elab.async false
set_option linter.all false
set_option maxRecDepth 100000
set_option maxHeartbeats 4000000
/-! _law_run. -/
namespace K0
open PySem PySem.Spec PyProof.Rows L2 Rd
theorem scLRun : FnScope ["dice", "signs", "some", "bounds", "low", "high"] ["dice", "signs"] (defScope (top iLRun)) := ⟨rfl, rfl, rfl, by decide +kernel, rfl, by decide +kernel, by decide +kernel⟩
def bnds : List PyData := [.tuple [.int 0, .none], .tuple [.int 0, .none], .tuple [.int 1, .int 1], .tuple [.int 0, .int 1], .tuple [.int 1, .int 2], .tuple [.int 1, .none], .tuple [.int 2, .int 3], .tuple [.int 0, .int 3], .tuple [.int 3, .none]]
def bndB : PyData → Bool
  | .tuple [l, h] => isNumD 0 3 l && isHighD (lowOf l) h
  | _ => false
theorem bnds_ok : (bnds.all bndB) = true := by decide +kernel
theorem bnd_parts {d : PyData} (h : bndB d = true) : ∃ l e, d = .tuple [l, e] ∧ isNumD 0 3 l = true ∧ isHighD (lowOf l) e = true := by
  match d, h with
  | .tuple [l, e], h => exact ⟨l, e, rfl, (Bool.and_eq_true_iff.mp h).1, (Bool.and_eq_true_iff.mp h).2⟩
/-- data of a drawn run -/
def runData (cs : List Nat) (l e : PyData) : PyData := .tuple [.tuple (cs.map fun c => .str (oneS c)), l, e]
theorem sign_of {c : Nat} (h : c ∈ sgs') : isSignD (.str (oneS c)) = true := by
  have : (sgs'.all fun c => isSignD (.str (oneS c))) = true := by decide +kernel
  exact List.all_eq_true.mp this c h
theorem signs_of {cs : List Nat} (h : ∀ c ∈ cs, c ∈ sgs') : (cs.map fun c => PyData.str (oneS c)).all isSignD = true := by
  rw [List.all_eq_true]
  intro d hd
  obtain ⟨c, hc, rfl⟩ := List.mem_map.mp hd
  exact sign_of (h c hc)
theorem runData_ok {cs : List Nat} {l e : PyData} (h : ∀ c ∈ cs, c ∈ sgs') (a : cs.Pairwise (· < ·)) (ne : cs ≠ []) (hl : isNumD 0 3 l = true) (he : isHighD (lowOf l) e = true) : isRunD (runData cs l e) = true := by
  have sg := signs_of h
  have ar : areSignsD (.tuple (cs.map fun c => .str (oneS c))) = true := by
    rw [are_asc sg, List.map_map, show ((sgD ∘ fun c => PyData.str (oneS c)) : Nat → Nat) = id from rfl, List.map_id]
    exact decide_eq_true a
  show (areSignsD (.tuple (cs.map fun c => .str (oneS c))) && !noneIn (.tuple (cs.map fun c => .str (oneS c))) && isNumD 0 3 l && isHighD (lowOf l) e) = true
  rw [ar, hl, he]
  cases cs with
  | nil => exact absurd rfl ne
  | cons _ _ => rfl
theorem dv_ones {K : PySem.W.Frag} {H : Hp} : ∀ cs : List Nat, DvAll K H (cs.map oneV) (cs.map fun c => .str (oneS c))
  | [] => .nil
  | c :: cs => .cons (.str _) (dv_ones cs)
theorem sq_hid {K : PySem.W.Frag} {H : Hp} {p t : Addr} {xs : List V} (h : SqT K (hid p H) t xs) : SqT K H t xs := same_tup hid_out h
theorem sq_keep {K : PySem.W.Frag} {H H' : Hp} {p t : Addr} {xs : List V} (h : SqT K (hid p H) t xs) (k : Keep p H H') : SqT K (hid p H') t xs := same_tup (hid_same k.1) h
def spLRun (K : PySem.W.Frag) : Sp := fun vs H Q _ => ∃ (p : Addr) (a b c : Int) (t : Addr) (cs : List Nat), vs = [.ref p, .ref t] ∧ H p = some (dk a b c) ∧ SqT K (hid p H) t (cs.map oneV) ∧ cs ≠ [] ∧ cs.length ≤ 15 ∧ cs.Nodup ∧ (∀ c ∈ cs, c ∈ sgs') ∧
  ∀ H' v d, Keep p H H' → Dv K (hid p H') v d → isRunD d = true → Q v H'
section
variable {P : Program} {w : World} {K : PySem.W.Frag} {mg : Str → Option Value} {base : Heap} {f fR fM fO : Addr} {fd fdR fdM fdO : FuncData}
theorem ok_lrun {k : Nat} (F : FnP K "_law_run" iLRun f fd) (mlist : mg "list" = none) (mtuple : mg "tuple" = none) (msorted : mg "sorted" = none) (mlen : mg "len" = none)
    (FR : FnOk P w K mg base CX0 (k + 2) fR fdR ["dice", "total"] spRoll) (gR : mg "_law_roll" = some (.ref fR)) (kR : PySem.W.keepIn K (.ref fR) = true) (bR : Binds K fdR ["dice", "total"] [])
    (FM : FnOk P w K mg base CX0 (k + 2) fM fdM ["dice", "items"] (spMixed K)) (gM : mg "_law_mixed" = some (.ref fM)) (kM : PySem.W.keepIn K (.ref fM) = true) (bM : Binds K fdM ["dice", "items"] [])
    (FO : FnOk P w K mg base CX0 (k + 2) fO fdO ["dice", "items"] (spOne K)) (gO : mg "_law_one_of" = some (.ref fO)) (kO : PySem.W.keepIn K (.ref fO) = true) (bO : Binds K fdO ["dice", "items"] []) :
    FnOk P w K mg base CX0 (k + 3) f fd ["dice", "signs"] (spLRun K) := by
  refine F.ok scLRun (fun vs H Q E h => ?_) (fun cdv A outer s H vs Q E hr h => ?_)
  · obtain ⟨p, a, b, c, t, cs, rfl, _⟩ := h
    rfl
  · obtain ⟨p, a, b, c, t, cs, rfl, hp, hT, cne, cl, cnd, cmem, q⟩ := h
    refine ⟨_, PSs.nox (C8.pss_cut (ps_set (i := 2) scLRun.nd rfl (.inl rfl) (pe_slice sl_list (pe_call FM hr (by rfl) gM kM bM .nil pass0 (pa_cons (pv 0) (pa_cons (pe_callTy call_list_of (by rfl) mlist (by decide +kernel) (pa_cons (pv 1) pa_nil)) pa_nil))) po_none
          (po_some (pe_op op_add pe_int (pe_call FR hr (by rfl) gR kR bR .nil pass0 (pa_cons (pv 0) (pa_cons (pe_callB call_len_seq (by rfl) mlen PySem.boot_len (pa_cons (pv 1) pa_nil)) pa_nil)))))))
      (C8.pss_cut (ps_set (i := 3) scLRun.nd rfl (.inl rfl) (pe_lst (pa_cons (pe_tup (pa_cons pe_int (pa_cons pe_non pa_nil))) (pa_cons (pe_tup (pa_cons pe_int (pa_cons pe_non pa_nil))) (pa_cons (pe_tup (pa_cons pe_int (pa_cons pe_int pa_nil))) (pa_cons (pe_tup (pa_cons pe_int (pa_cons pe_int pa_nil))) (pa_cons (pe_tup (pa_cons pe_int (pa_cons pe_int pa_nil)))
          (pa_cons (pe_tup (pa_cons pe_int (pa_cons pe_non pa_nil))) (pa_cons (pe_tup (pa_cons pe_int (pa_cons pe_int pa_nil))) (pa_cons (pe_tup (pa_cons pe_int (pa_cons pe_int pa_nil))) (pa_cons (pe_tup (pa_cons pe_int (pa_cons pe_non pa_nil))) pa_nil)))))))))))
      (pss_cons (ps_asg (pe_call FO hr (by rfl) gO kO bO .nil pass0 (pa_cons (pv 0) (pa_cons (pv 3) pa_nil))) (pg_tup rfl (pgs_cons (pg_name (i := 4) scLRun.nd rfl (.inl rfl)) (pgs_cons (pg_name (i := 5) scLRun.nd rfl (.inl rfl)) pgs_nil))))
      (pss_one (ps_ret (pe_tup (pa_cons (pe_callTy call_tuple_of (by rfl) mtuple (by decide +kernel) (pa_cons (pe_callB cr_sortedS (by rfl) msorted (by decide +kernel) (pa_cons (pv 2) pa_nil)) pa_nil)) (pa_cons (pv 4) (pa_cons (pv 5) pa_nil))))))))), ?_⟩
    have sl : sizeLine = 16777216 := sizeLine_eq
    refine ⟨fun σ' H' => ∃ (l : Addr) (ds : List Nat), σ' = [some (.ref p), some (.ref t), some (.ref l), none, none, none] ∧ Keep p H H' ∧ H' l = some (.lst (ds.map oneV)) ∧ ds ≠ [] ∧ ds.length ≤ 15 ∧ ds.Nodup ∧ (∀ c ∈ ds, c ∈ sgs'), ?_, ?_⟩
    · refine ⟨_, rfl, _, rfl, t, _, rfl, .inr (sq_hid hT), fun l nl => ?_⟩
      have kl : Keep p H (upd H l (.lst (cs.map oneV))) := .new hp nl
      obtain ⟨a1, b1, c1, hp1⟩ := kl.2
      refine ⟨p, a1, b1, c1, l, _, rfl, hp1, .of upd_same, by rw [List.length_map]; omega, fun H2 l2 ys k2 pm e2 ne => ?_⟩
      obtain ⟨ms, pc, rfl⟩ := perm_codes (f := oneV) (g := codeV) (fun c => rfl) (l := cs) pm
      have ml := pc.length_eq
      obtain ⟨a2, b2, c2, hp2⟩ := k2.2
      have kk := kl.trans k2
      have c0 : 0 < cs.length := List.length_pos_iff.mpr cne
      refine ⟨_, rfl, _, rfl, t, _, rfl, .inr (sq_hid (sq_keep hT kk)), p, a2, b2, c2, _, rfl, hp2, wide_div (b := 4) (by rw [List.length_map]; omega) (by rw [List.length_map]; omega) (by decide) (by decide), fun a' b' c' r r0 r1 => ⟨_, _, rfl, rfl, _, rfl, l2, _, rfl, .of (by rw [upd_ne ne]; exact e2), fun l3 n3 => ?_⟩⟩
      have kn : ∀ n : Nat, HT.sIx n n (some (1 + r)) = min (1 + r).toNat n := fun n => by
        show (if (1 + r) < 0 then ((1 + r) + (n : Int)).toNat else min (1 + r).toNat n) = min (1 + r).toNat n
        rw [if_neg (by omega)]
      refine ⟨l3, ms.take (min (1 + r).toNat ms.length), rfl, (kk.trans (.dice a' b' c')).new2 n3, ?_, fun e => ?_, ?_, ?_, fun c hc => cmem c (pc.mem_iff.mp (List.mem_of_mem_take hc))⟩
      · rw [upd_same, cutV_take, kn, List.length_map, ← List.map_take]
      · have z := congrArg List.length e
        rw [List.length_take, List.length_nil] at z
        omega
      · rw [List.length_take]; omega
      · exact (pc.nodup_iff.mpr cnd).sublist (List.take_sublist _ _)
    rintro σ1 H1 ⟨l, ds, rfl, k1, e1, dne, dl, dnd, dmem⟩
    obtain ⟨a1, b1, c1, hp1⟩ := k1.2
    have D1 : Dice p H1 := ⟨a1, b1, c1, hp1⟩
    refine ⟨fun σ' H' => ∃ lb xs, σ' = [some (.ref p), some (.ref t), some (.ref l), some (.ref lb), none, none] ∧ Same H1 H' ∧ H' lb = some (.lst xs) ∧ lb ≠ p ∧ DvAll K (hid p H') xs bnds, ?_, ?_⟩
    · refine rd_lst (ds := bnds) (p := p) (K := K) (ev_cons (ev_tup (ev_cons ev_int (ev_cons ev_non ev_nil)) (by decide)) (ev_cons (ev_tup (ev_cons ev_int (ev_cons ev_non ev_nil)) (by decide)) (ev_cons (ev_tup (ev_cons ev_int (ev_cons ev_int ev_nil)) (by decide)) (ev_cons (ev_tup (ev_cons ev_int (ev_cons ev_int ev_nil)) (by decide)) (ev_cons (ev_tup (ev_cons ev_int (ev_cons ev_int ev_nil)) (by decide))
        (ev_cons (ev_tup (ev_cons ev_int (ev_cons ev_non ev_nil)) (by decide)) (ev_cons (ev_tup (ev_cons ev_int (ev_cons ev_int ev_nil)) (by decide)) (ev_cons (ev_tup (ev_cons ev_int (ev_cons ev_int ev_nil)) (by decide)) (ev_cons (ev_tup (ev_cons ev_int (ev_cons ev_non ev_nil)) (by decide)) ev_nil))))))))) D1 (by decide) fun xs H2 lb s2 v2 n2 => ?_
      exact ⟨lb, xs, rfl, s2.trans (same_upd n2), upd_same, (D1.same s2).ne n2, v2.same (hid_same fun b o _ z => same_upd n2 b o z)⟩
    rintro σ2 H2 ⟨lb, xs, rfl, s2, e2, lbp, v2⟩
    have k2 : Keep p H1 H2 := ⟨fun b o _ z => s2 b o z, a1, b1, c1, s2 _ _ hp1⟩
    have hp2 := s2 _ _ hp1
    have xl := v2.length
    refine ⟨_, rfl, _, rfl, p, a1, b1, c1, _, xs, rfl, hp2, .inl ⟨lb, rfl, .inl (.of e2)⟩, (fun e => by rw [e] at xl; cases xl), (by rw [xl, sl]; decide), fun a' b' c' => .inl ⟨lb, rfl, .inl (.of (by rw [upd_ne lbp]; exact e2))⟩, fun a' b' c' i x hx => ?_⟩
    obtain ⟨d, hd, vd⟩ := v2.get hx
    have bd := List.all_eq_true.mp bnds_ok d (List.mem_of_getElem? hd)
    obtain ⟨lo, hi, rfl, hlo, hhi⟩ := bnd_parts bd
    have vd3 : Dv K (hid p (upd H2 p (dk a' b' c'))) x (.tuple [lo, hi]) := vd.same' (hid_same (Keep.dice a' b' c').1)
    cases vd3 with
    | tup hTb hAb =>
      cases hAb with
      | cons w1 hAb =>
      cases hAb with
      | cons w2 hAb =>
      cases hAb
      rename_i vlo vhi
      refine ⟨_, _, rfl, sq_hid hTb, rfl, vlo, _, rfl, vhi, _, rfl, rfl, ?_⟩
      have e3 : upd H2 p (dk a' b' c') l = some (.lst (ds.map oneV)) := by
        rw [upd_ne (fun q => by
          obtain ⟨a0, b0, c0, z⟩ := k1.2
          have e1' := e1
          rw [q, z] at e1'
          injection e1' with e1'
          injection e1' with e1'
          cases ds with
          | nil => exact dne rfl
          | cons x ds => cases e1')]
        exact s2 _ _ e1
      refine ⟨_, rfl, l, ds.map oneS, rfl, .of (by rw [e3, ones_map]), by rw [List.length_map]; omega, fun ys l4 pm so n4 => ?_⟩
      obtain ⟨es, pe, rfl⟩ := perm_codes (f := oneS) (g := codeS) (fun c => rfl) pm
      have esl := pe.length_eq
      have asc := sorted_pw so (pe.nodup_iff.mpr dnd)
      refine ⟨l4, _, rfl, .inl ⟨.of upd_same, fun t1 n5 => ⟨_, rfl, _, rfl, by show 3 ≤ sizeLine; omega, fun t2 n6 => ?_⟩⟩⟩
      have kA : Keep p H (upd H2 p (dk a' b' c')) := (k1.trans k2).trans (.dice a' b' c')
      have kB := ((kA.new2 n4 (o := .lst ((es.map oneS).map V.str))).new2 n5 (o := .tup ((es.map oneS).map V.str))).new2 n6 (o := .tup [.ref t1, vlo, vhi])
      obtain ⟨aA, bA, cA, hpA⟩ := kA.2
      have n1p : t1 ≠ p := by
        obtain ⟨aB, bB, cB, hpB⟩ := (kA.new2 n4 (o := .lst ((es.map oneS).map V.str))).2
        exact (ne_of_none hpB n5).symm
      have n2p : t2 ≠ p := by
        obtain ⟨aB, bB, cB, hpB⟩ := ((kA.new2 n4 (o := .lst ((es.map oneS).map V.str))).new2 n5 (o := .tup ((es.map oneS).map V.str))).2
        exact (ne_of_none hpB n6).symm
      have kC : Same (hid p (upd H2 p (dk a' b' c'))) (hid p (upd (upd (upd (upd H2 p (dk a' b' c')) l4 (.lst ((es.map oneS).map V.str))) t1 (.tup ((es.map oneS).map V.str))) t2 (.tup [.ref t1, vlo, vhi]))) := hid_same fun b o _ z => same_upd n6 _ _ (same_upd n5 _ _ (same_upd n4 _ _ z))
      refine q _ (.ref t2) (runData es lo hi) kB (.tup (.of (by rw [hid_ne n2p, upd_same])) (.cons (.tup (.of (by rw [hid_ne n1p, same_upd n6 _ _ upd_same])) (by rw [← ones_map]; exact dv_ones es)) (.cons (w1.same' kC) (.cons (w2.same' kC) .nil)))) (runData_ok (fun c hc => dmem c (pe.mem_iff.mp hc)) asc (fun e => ?_) hlo hhi)
      rw [e] at esl
      cases ds with
      | nil => exact dne rfl
      | cons _ _ => cases esl
end
end K0
end
/-! ### E0 -/
section
set_option Elab.async false
set_option linter.all false
set_option maxRecDepth 100000
set_option maxHeartbeats 4000000
/-! except (A, B, ..): how a tuple of any length is matched. -/
namespace K0
open PySem PySem.Spec PyProof.Rows PySem.W
section
variable {M : Model} {A : Around} {E : Value → Shared → Prop} {s : Shared}
theorem loopY {β : Type} {f : Value → β → Sem (ForInStep β)} {b : β} {Q : β → Shared → Prop} : ∀ (cs : List Value), (∀ c ∈ cs, ∀ Q' : ForInStep β → Shared → Prop, Q' (.yield b) s → wpAny M A (f c b) Q' E s) → Q b s → wpAny M A (forIn cs b f) Q E s
  | [], _, q => by
    rw [List.forIn_nil]
    exact wpAny_pure q
  | c :: cs, h, q => by
    rw [List.forIn_cons]
    exact wpAny_bind (h c List.mem_cons_self _ (loopY cs (fun d hd => h d (List.mem_cons_of_mem _ hd)) q))
theorem loopR {β : Type} {f : Value → β → Sem (ForInStep β)} {b dv : β} {Q : β → Shared → Prop} : ∀ (cs : List Value) (bs : List Bool), Paired (fun c i => ∀ Q' : ForInStep β → Shared → Prop, Q' (if i = true then .done dv else .yield b) s → wpAny M A (f c b) Q' E s) cs bs →
    Q (if bs.any id = true then dv else b) s → wpAny M A (forIn cs b f) Q E s
  | [], _, h, q => by
    cases h
    rw [List.forIn_nil]
    exact wpAny_pure q
  | c :: cs, i :: bs, .cons h t, q => by
    rw [List.forIn_cons]
    refine wpAny_bind (h _ ?_)
    cases i with
    | true =>
      rw [if_pos rfl]
      exact wpAny_pure (by simpa using q)
    | false =>
      rw [if_neg Bool.false_ne_true]
      exact loopR cs bs t (by simpa using q)
end
def anyB : List (Option Bool) → Option Bool
  | [] => some false
  | some b :: r => (anyB r).map (b || ·)
  | none :: _ => none
theorem exmAny_bs {K : Frag} {cls : Value} : ∀ {cs : List Value} {b : Bool}, exmAny K cls cs = some b → ∃ bs : List Bool, Paired (fun c i => exmOne K cls c = some i) cs bs ∧ bs.any id = b
  | [], b, h => ⟨[], .nil, by cases h; rfl⟩
  | c :: cs, b, h => by
    obtain ⟨b1, d1, h1, h2, rfl⟩ := exmAny_cons h
    obtain ⟨bs, p, q⟩ := exmAny_bs h2
    exact ⟨b1 :: bs, .cons h1 p, by rw [List.any_cons, q]; rfl⟩
theorem paired_mem {α β : Type} {F : α → β → Prop} : ∀ {l : List α} {m : List β}, Paired F l m → ∀ x ∈ l, ∃ y, F x y
  | _, _, .nil, _, h => nomatch h
  | _, _, .cons r t, x, h => by
    rcases List.mem_cons.mp h with rfl | h
    · exact ⟨_, r⟩
    · exact paired_mem t x h
theorem paired_map {α β : Type} {F G : α → β → Prop} : ∀ {l : List α} {m : List β}, Paired F l m → (∀ a b, F a b → G a b) → Paired G l m
  | _, _, .nil, _ => .nil
  | _, _, .cons r t, f => .cons (f _ _ r) (paired_map t f)
theorem exm_any {M : Model} {K : Frag} {cs : List Value} {cls : Value} {tp e : Addr} {b : Bool} {h : Heap} (X : K.In h) (LT : Looks M h (typeOf (.ref e)) cls) (hp : h.get? tp = some { cls := .type "tuple", data := .seq cs.toArray }) (hx : exmAny K cls cs = some b) :
    Looks M h (excMatches (.ref e) (.ref tp)) b := by
  intro A Q E s k₀ q
  obtain ⟨hh, g, d, tk, os⟩ := s
  have k : ∀ b o, h.get? b = some o → hh.get? b = some o := k₀
  have LT0 : Looks M h (isInstance (.ref tp) (.type "tuple")) true := ((Looks.ld hp).andThen .now).andThen (Looks.of_pure isSubtype_tuple_tuple)
  obtain ⟨bs, pr, eb⟩ := exmAny_bs hx
  have hp' := k _ _ hp
  unfold excMatches
  refine wpAny_bind ((LT0.keeps k).at ?_)
  dsimp only
  rw [if_pos rfl]
  first
    | refine wpAny_bind (wpAny_seqItems hp' rfl ?_)
    | refine wpAny_bind (wpAny_bind (wpAny_seqItems hp' rfl (wpAny_pure ?_)))
  dsimp only [Option.getD_some, Option.getD]
  refine wpAny_bind (wpAny_pure ?_)
  refine wpAny_bind (loopY _ (fun c hc Q' q' => ?_) ?_)
  · obtain ⟨i, hi⟩ := paired_mem pr c hc
    obtain ⟨e1, _⟩ := exm_cls (M := M) X hi
    refine wpAny_bind ((e1.keeps k).at ?_)
    simp only [Bool.not_true, Bool.false_eq_true, if_false]
    exact wpAny_pure q'
  · refine wpAny_bind ((LT.keeps k).at ?_)
    refine wpAny_bind (loopR (dv := (some true, ())) cs bs (paired_map pr fun c i hi Q' q' => ?_) ?_)
    · obtain ⟨_, e2⟩ := exm_cls (M := M) X hi
      refine wpAny_bind ((e2.keeps k).at ?_)
      cases i with
      | true => simp only [if_true] at q' ⊢; exact wpAny_pure q'
      | false => simp only [Bool.false_eq_true, if_false] at q' ⊢; exact wpAny_pure q'
    · rw [eb]
      cases b with
      | true => simp only [if_true]; exact wpAny_pure q
      | false => simp only [Bool.false_eq_true, if_false]; exact wpAny_pure q
end K0
end
/-! ### E1 -/
section
set_option Elab.async false
set_option linter.all false
set_option maxRecDepth 100000
set_option maxHeartbeats 4000000
/-! try with several clauses; a clause names a class or a tuple of classes, and may name the exception. -/
namespace K0
open PySem PySem.Spec PyProof.Rows L2
theorem flying_push {B h : Heap} {l : List Env} {a : Addr} {Z : Obj → Prop} {o : Obj} (x : HandSPX.FlyingZ B l a Z h) : HandSPX.FlyingZ B l a Z (h.push o) := by
  have k : ∀ b u, h.get? b = some u → (h.push o).get? b = some u := fun b u e => Heap.get?_push_of_some _ e
  obtain ⟨x1, x2, x3, oe, vs, T, oT, ts, y1, y2, y3, y4, y5, y6, y7, y8, y9⟩ := x
  exact ⟨fun b u e => k b u (x1 b u e), x2, Heap.FunFrames.of_keeps (fun b u e _ => ⟨u, k b u e, rfl⟩) x3, oe, vs, T, oT, ts, k _ _ y1, y2, y3, y4, y5, y6, k _ _ y7, y8, y9⟩
inductive NamesAll (X : Cx) : List Expr → List Value → Prop
  | nil : NamesAll X [] []
  | cons {x : Str} {np : Pos} {c : Value} {es : List Expr} {cs : List Value} : Names X x c → NamesAll X es cs → NamesAll X (.Name x np :: es) (c :: cs)
/-- the test of a clause -/
inductive Cls (X : Cx) : Expr → List Value → Prop
  | one {x : Str} {np : Pos} {c : Value} : Names X x c → Cls X (.Name x np) [c]
  | tup {es : List Expr} {cs : List Value} {k : Nat} {pos : Pos} : NamesAll X es cs → cs.length ≤ 1000 → Cls X (.Tuple es k pos) cs
structure HC where
  cs : List Value
  slot : Option Nat
  ts : Addr → Value → Option Addr → TS
def endsW (D : Ends) : Option Nat → Ends
  | none => D
  | some i => { nx := fun σ' H' => D.nx (σ'.set i none) H', rt := D.rt, bk := fun σ' H' => D.bk (σ'.set i none) H', ct := fun σ' H' => D.ct (σ'.set i none) H' }
def slotW (σ : L2.St) (a : Addr) : Option Nat → L2.St
  | none => σ
  | some i => σ.set i (some (.ref a))
def wAny (K : PySem.W.Frag) (Wout : WX) (D : Ends) : List HC → WX
  | [] => Wout
  | c :: r => fun cls d σ H => ∃ b, PySem.W.exmAny K cls c.cs = some b ∧ (b = true → ∀ a, H a = none → c.ts a cls d (endsW D c.slot) (slotW σ a c.slot) H) ∧ (b = false → wAny K Wout D r cls d σ H)
inductive Hds (X : Cx) : List ExceptHandler → List HC → Prop
  | nil : Hds X [] []
  | cons {t : Expr} {cs : List Value} {nm : Option Str} {sl : Option Nat} {ts : Addr → Value → Option Addr → TS} {b₀ : Stmt} {suite : List Stmt} {pos' : Pos} {hds : List ExceptHandler} {l : List HC} (ht : Cls X t cs)
      (hn : (nm = none ∧ sl = none) ∨ ∃ n i, nm = some n ∧ sl = some i ∧ X.N[i]? = some n ∧ X.env.kindOf n = some .local)
      (hs : ∀ (a : Addr) (oe : Obj) (cls : Value) (d : Option Addr) (pn : List (Addr × Obj)), Zc cls d oe → (∃ vs, oe.data = .fields vs) → PSs (X.suite a ((a, oe) :: pn)) (b₀ :: suite) (ts a cls d)) (r : Hds X hds l) :
      Hds X (.ExceptHandler (some t) nm (b₀ :: suite) pos' :: hds) (⟨cs, sl, ts⟩ :: l)
section
variable {X : Cx}
theorem names_run {pins : List (Addr × Obj)} {σ : L2.St} {H : Hp} {s : Shared} (I : Inv X pins σ H s) {pos : Pos} {E : Value → Shared → Prop} : ∀ {es : List Expr} {cs : List Value} {Q : List Value → Shared → Prop}, NamesAll X es cs → Q cs s → wpAny (model X.prog X.w) X.A (spliced (backTo pos (starEach es X.env))) Q E s
  | _, _, _, .nil, q => Calls.spliced_nil q
  | _, _, _, .cons (x := x) (np := np) (es := es) nm r, q => by
    show wpAny _ _ (spliced ((false, eval (.Name x np) X.env) :: backTo pos (starEach es X.env))) _ _ s
    refine Calls.spliced_cons ?_
    obtain ⟨g, db, z | ⟨z, bv, nn⟩⟩ := nm
    · exact ld_glob I g z (names_run I r q) db
    · exact ld_blt I g z bv (names_run I r q) nn db
/-- a clause's test: it leaves the heap but for a tuple -/
theorem cls_run {pins : List (Addr × Obj)} {σ : L2.St} {H : Hp} {s : Shared} (I : Inv X pins σ H s) {cls : Value} {e : Addr} {cs : List Value} {t : Expr} {b : Bool} {Q : Bool → Shared → Prop} {E1 E2 : Value → Shared → Prop} (LT : PySem.W.Looks (model X.prog X.w) s.heap (typeOf (.ref e)) cls)
    (c : Cls X t cs) (hb : PySem.W.exmAny X.K cls cs = some b) (q1 : Q b s) (q2 : ∀ o, Q b { s with heap := s.heap.push o }) : wpAny (model X.prog X.w) X.A (eval t X.env) (fun v s₁ => wpAny (model X.prog X.w) X.A (excMatches (.ref e) v) Q E2 s₁) E1 s := by
  cases c with
  | one nm =>
    obtain ⟨b1, d1, h1, h2, rfl⟩ := PySem.W.exmAny_cons hb
    have h3 : some false = some d1 := h2
    cases h3
    have L := PySem.W.exm_one (M := model X.prog X.w) I.kIn LT h1
    rw [Bool.or_false] at q1
    obtain ⟨g, db, z | ⟨z, bv, nn⟩⟩ := nm
    · exact ld_glob I g z (L.here q1) db
    · exact ld_blt I g z bv (L.here q1) nn db
  | tup nms hl =>
    refine wpAny_Tuple_spliced (names_run I nms ⟨Nat.le_of_lt (small1000 hl), ?_⟩)
    obtain ⟨hp, g, d, tk, os⟩ := s
    have k : ∀ b u, hp.get? b = some u → (hp.push { cls := .type "tuple", data := .seq cs.toArray }).get? b = some u := fun b u z => Heap.get?_push_of_some _ z
    have L := exm_any (M := model X.prog X.w) (I.kIn.keeps k) (LT.keeps k) (Heap.get?_push_size hp rfl) hb
    exact L.here (q2 _)
variable {body : List Stmt} {h₀ : ExceptHandler} {hds : List ExceptHandler} {l : List HC} {pos : Pos} {tb : WX → TS} {Wout : WX}
theorem ps_tryA (hs : X.stack = X.env :: X.outer) (hf : X.env.frame = some X.env.locals) (hN : X.N.Nodup) (tk : Takes X Wout)
    (hb : ∀ (W : WX) (pn : List (Addr × Obj)) (xe : Value → Shared → Prop), Takes (X.tr pn xe) W → PassesOwn (model X.prog X.w) X.A X.env xe → PSs (X.tr pn xe) body (tb W)) (hh : Hds X (h₀ :: hds) l) : PS X (.Try body (h₀ :: hds) [] [] pos) (fun D σ H => tb (wAny X.K Wout D l) D σ H) := by
  refine ⟨fun pins s σ H D I h => wpAny_Try_except ?_⟩
  have ok := I.ok
  have frames : X.A.frames = some (X.env :: X.outer) := by rw [ok.frames, hs]
  refine wpAny_mono ((hb (wAny X.K Wout D l) (X.pn ++ pins) _ (fun u s' air => ?_) PassesOwn.looking).run [] s σ H D (I.toTry _) h) (fun f s1 z => ?_) (fun e s1 z => z)
  · obtain ⟨a, B, sI, pins', σ', H', cls, d, rfl, J', gr, up, sky, na, os, ag, w⟩ := air
    have J : Inv X pins σ' H' sI := J'.ofTry ok
    have sky2 : Sky B (X.env :: X.outer) a (Zc cls d) X.env.locals s'.heap := by rw [← hs]; exact sky
    show wpAny _ _ (noteFrame (.ref a) X.env) _ _ _
    refine Sky.land Zc.steady frames hf sky2 fun h3 fl3 up3 => ?_
    have suiteAt : ∀ {h : Heap} {tk' : Nat}, HandSPX.FlyingZ B (X.env :: X.outer) a (Zc cls d) h → sI.heap.UpToSlots h → ∃ oe, (∃ vs, oe.data = .fields vs) ∧ Zc cls d oe ∧ h.get? a = some oe ∧ Inv (X.suite a ((a, oe) :: (X.pn ++ pins))) [] σ' H' { s' with heap := h } := by
      intro h tk' fl upS
      obtain ⟨oe, vs, e1, e2, e3⟩ := fl.there
      have nfr : a ∉ frs (X.env :: X.outer) := fun m => by
        obtain ⟨_, o, e4, nf⟩ := fl.2.2.1.mem m
        rw [e1] at e4
        cases e4
        exact nf vs e3
      have nL : a ≠ X.env.locals := fun z => nfr (List.mem_filterMap.mpr ⟨X.env, List.mem_cons_self, by rw [hf, z]⟩)
      have nF : a ∉ X.fs := fun m => (List.mem_filterMap.mp m).elim fun e z => nfr (List.mem_filterMap.mpr ⟨e, List.mem_cons_of_mem _ z.1, z.2⟩)
      exact ⟨oe, ⟨vs, e3⟩, e2, e1, (J.landed (s' := { s' with heap := h }) gr fl.1 upS os ag).suite e1 e3 na nL nF⟩
    have go : ∀ {hs2 : List ExceptHandler} {l2 : List HC}, Hds X hs2 l2 → wAny X.K Wout D l2 cls d σ' H' → ∀ h, HandSPX.FlyingZ B (X.env :: X.outer) a (Zc cls d) h → sI.heap.UpToSlots h → wpAny (model X.prog X.w) X.A (handleBy (.ref a) X.env hs2) (SP X pins D) X.xe { s' with heap := h } := by
      intro hs2 l2 hk
      induction hk with
      | nil =>
        intro w h fl upS
        refine wpAny_handleBy_nil ?_
        obtain ⟨k1, k2, k3, oe, vs, T, oT, ts', he, hz, hd, h1, hr⟩ := id fl
        unfold PySem.passOn
        refine wpAny_bind (wpAny_field he hd h1 ?_)
        rw [if_neg (show ¬ ((Value.ref T == Value.none) = true) by simp)]
        have out : wpAny (model X.prog X.w) X.A (setFlight (.ref a) X.env.frame) (fun _ s4 => wpAny (model X.prog X.w) X.A (throw (.ref a) : Sem Flow) (SP X pins D) X.xe s4) X.xe { s' with heap := h } := by
          rw [hf]
          exact HandSPX.setFlight_upZ fl fun h4 hh4 up4 => wpAny_throw (tk _ _ ⟨a, B, sI, pins, σ', H', cls, d, rfl, J, gr, upS.trans up4, .inr (.inr (by rw [hs]; exact hh4)), na, os, ag, w⟩)
        first
          | exact wpAny_bind (wpAny_pure (wpAny_bind out))
          | exact wpAny_bind out
      | @cons t cs nm sl ts b₀ suite pos' hds2 l3 ht hn hsu r ih =>
        intro w h fl upS
        obtain ⟨b, hb1, yes, no⟩ := w
        obtain ⟨oe, hfl, hz, he, S⟩ := suiteAt (tk' := 0) fl upS
        have LT : PySem.W.Looks (model X.prog X.w) h (typeOf (.ref a)) cls := fun A Q E s k q => wpAny_typeOf_ref (k _ _ he) (by rw [hz.1]; exact q)
        have htS : Cls (X.suite a ((a, oe) :: (X.pn ++ pins))) t cs := by
          have nmS : ∀ {es : List Expr} {cs : List Value}, NamesAll X es cs → NamesAll (X.suite a ((a, oe) :: (X.pn ++ pins))) es cs := by
            intro es cs z
            induction z with
            | nil => exact .nil
            | cons n r ih => exact .cons n ih
          cases ht with
          | one n => exact .one n
          | tup n z => exact .tup (nmS n) z
        refine wpAny_handleBy_cons (codeAny_handlers_test ?_) (by intro q; cases q)
        have next : ∀ h2, HandSPX.FlyingZ B (X.env :: X.outer) a (Zc cls d) h2 → sI.heap.UpToSlots h2 →
            (match (Except.ok (if b then Flow.brk else Flow.next) : Result) with
              | .ok .brk => codeAny (model X.prog X.w) (X.A.mark (some (.ref a))) (.handlers (.ref a) [.ExceptHandler none nm (b₀ :: suite) pos'] X.env) (fun r s₂ => match (generalizing := false) r with
                  | .ok f => (match (generalizing := false) nm with
                    | none => SP X pins D f s₂
                    | some n => wpAny (model X.prog X.w) X.A (do bindName X.env n .none; unbindBehindTheSuite X.env n pos') (fun _ s₃ => SP X pins D f s₃) X.xe s₂)
                  | .error x => cameBackBy (model X.prog X.w) X.A X.env X.xe x s₂) { s' with heap := h2 }
              | .ok _ => wpAny (model X.prog X.w) X.A (handleBy (.ref a) X.env hds2) (SP X pins D) X.xe { s' with heap := h2 }
              | .error x => cameBackBy (model X.prog X.w) X.A X.env X.xe x { s' with heap := h2 }) := by
          intro h2 fl2 up2
          cases b with
          | false => exact ih (no rfl) h2 fl2 up2
          | true =>
            rcases hn with ⟨rfl, rfl⟩ | ⟨n, i, rfl, rfl, hi, hl⟩
            · refine codeAny_handlers_suite (HandSPX.lands_againZ fl2 fun h4 fl4 up4 => ?_)
              obtain ⟨oe4, f4, z4, e4, S4⟩ := suiteAt (tk' := 0) fl4 (up2.trans up4)
              refine wpAny_mono ((hsu a oe4 cls d (X.pn ++ pins) z4 f4).run [] _ _ H' _ S4 (yes rfl a na)) (fun f s6 z => ?_) (fun _ _ z => z.elim)
              cases f with
              | next => exact z.elim fun σ6 z => z.elim fun H6 z => ⟨σ6, H6, z.1.unsuite ok, z.2⟩
              | brk => exact z.elim fun σ6 z => z.elim fun H6 z => ⟨σ6, H6, z.1.unsuite ok, z.2⟩
              | cont => exact z.elim fun σ6 z => z.elim fun H6 z => ⟨σ6, H6, z.1.unsuite ok, z.2⟩
              | ret u => obtain ⟨v6, σ6, H6, S6, r6, q6⟩ := z; exact ⟨v6, σ6, H6, S6.unsuite ok, r6, q6⟩
            · refine codeAny_handlers_suite_as (HandSPX.lands_againZ fl2 fun h4 fl4 up4 => ?_)
              obtain ⟨oe4, f4, z4, e4, S4⟩ := suiteAt (tk' := 0) fl4 (up2.trans up4)
              refine store_ok (X := X.suite a ((a, oe4) :: (X.pn ++ pins))) (v := .ref a) S4 hN hi (.inl hl) rfl (fun s5 S5 => ?_) (.inr hl)
              refine wpAny_mono ((hsu a oe4 cls d (X.pn ++ pins) z4 f4).run [] s5 _ H' _ S5 (yes rfl a na)) (fun f s6 z => ?_) (fun _ _ z => z.elim)
              cases f with
              | next => obtain ⟨σ6, H6, S6, q6⟩ := z; exact gone_ok (S6.unsuite ok) hN hi hl fun s7 J7 => ⟨_, _, J7, q6⟩
              | brk => obtain ⟨σ6, H6, S6, q6⟩ := z; exact gone_ok (S6.unsuite ok) hN hi hl fun s7 J7 => ⟨_, _, J7, q6⟩
              | cont => obtain ⟨σ6, H6, S6, q6⟩ := z; exact gone_ok (S6.unsuite ok) hN hi hl fun s7 J7 => ⟨_, _, J7, q6⟩
              | ret u => obtain ⟨v6, σ6, H6, S6, r6, q6⟩ := z; exact gone_ok (S6.unsuite ok) hN hi hl fun s7 J7 => ⟨_, _, _, J7, r6, q6⟩
        exact cls_run S LT htS hb1 (next h fl upS) fun o => next _ (flying_push fl) (upS.trans (Heap.UpToSlots.of_keeps fun b u z => Heap.get?_push_of_some _ z))
    exact go hh w h3 fl3 (up.trans up3)
  · cases f with
    | next => exact z.elim fun σ' z => z.elim fun H' z => wpAny_execs_nil ⟨σ', H', z.1.ofTry ok, z.2⟩
    | brk => exact z.elim fun σ' z => z.elim fun H' z => ⟨σ', H', z.1.ofTry ok, z.2⟩
    | cont => exact z.elim fun σ' z => z.elim fun H' z => ⟨σ', H', z.1.ofTry ok, z.2⟩
    | ret u => obtain ⟨v, σ', H', J', r, q⟩ := z; exact ⟨v, σ', H', J'.ofTry ok, r, q⟩
end
end K0
end
/-! ### E2 -/
section
set_option Elab.async false
set_option linter.all false
set_option maxRecDepth 100000
set_option maxHeartbeats 4000000
/-! Exceptions of own classes as values: at e an instance of the class at C, its dict at d; isinstance of it, tracked or pinned. -/
namespace K0
open PySem PySem.Spec PyProof.Rows L2
structure XF (K : PySem.W.Frag) (C : Addr) : Prop where
  hcl : (PySem.W.clsIn K C).isSome = true
  hga : PySem.W.findIn K (.ref C) "__getattribute__" = some (some (.builtin "BaseException.__getattribute__"))
  hgt : PySem.W.findIn K (.ref C) "__getattr__" = some none
  hsub : PySem.W.subIn K (.ref C) (.type "BaseException") = some true
  ha : PySem.W.findIn K (.ref C) "__class__" = some (some (.builtin "object.__class__"))
  hm : PySem.W.mroIn K C (.type "object") = some true
  hd : PySem.W.hasDictIn K C = true
  ty : PySem.W.typeIn K (.ref C) = some (.type "type")
  kp : PySem.W.keepIn K (.ref C) = true
  hn : PySem.W.specialIn K (.builtin "object.__class__") "__get__" = some (some (.builtin "getset_descriptor.__get__"))
  htk : PySem.W.takesIn K (.builtin "object.__class__") = some true
def xfB (K : PySem.W.Frag) (C : Addr) : Bool :=
  (PySem.W.clsIn K C).isSome && (decide (PySem.W.findIn K (.ref C) "__getattribute__" = some (some (.builtin "BaseException.__getattribute__"))) && (decide (PySem.W.findIn K (.ref C) "__getattr__" = some none) &&
  (decide (PySem.W.subIn K (.ref C) (.type "BaseException") = some true) && (decide (PySem.W.findIn K (.ref C) "__class__" = some (some (.builtin "object.__class__"))) && (decide (PySem.W.mroIn K C (.type "object") = some true) &&
  (PySem.W.hasDictIn K C && (decide (PySem.W.typeIn K (.ref C) = some (.type "type")) && (PySem.W.keepIn K (.ref C) && (decide (PySem.W.specialIn K (.builtin "object.__class__") "__get__" = some (some (.builtin "getset_descriptor.__get__"))) &&
  decide (PySem.W.takesIn K (.builtin "object.__class__") = some true))))))))))
theorem xfB_ok {K : PySem.W.Frag} {C : Addr} (h : xfB K C = true) : XF K C := by
  unfold xfB at h
  simp only [Bool.and_eq_true, decide_eq_true_eq] at h
  obtain ⟨h1, h2, h3, h4, h5, h6, h7, h8, h9, h10, h11⟩ := h
  exact ⟨h1, h2, h3, h4, h5, h6, h7, h8, h9, h10, h11⟩
/-- the exception's dict stands tracked -/
def DictAt (H : Hp) (d : Option Addr) : Prop := ∀ dd, d = some dd → ∃ fs, H dd = some (exd dd fs)
def ExAt (H : Hp) (e C : Addr) (d : Option Addr) : Prop := H e = some (exo e C d) ∧ DictAt H d
theorem DictAt.same {H H' : Hp} {d : Option Addr} (h : DictAt H d) (s : Same H H') : DictAt H' d := fun dd z => (h dd z).elim fun fs y => ⟨fs, s _ _ y⟩
theorem ExAt.same {H H' : Hp} {e C : Addr} {d : Option Addr} (h : ExAt H e C d) (s : Same H H') : ExAt H' e C d := ⟨s _ _ h.1, h.2.same s⟩
section
variable {X : Cx} {pins : List (Addr × Obj)} {σ : L2.St} {H : Hp} {s : Shared}
theorem inst_at (I : Inv X pins σ H s) {e C : Addr} {d : Option Addr} {vs : Array Value} (he : s.heap.get? e = some ({ cls := .ref C, dict := d, data := .fields vs } : Obj)) (hd : DictAt H d) : ∃ od, PySem.W.InstAt s.heap e { cls := .ref C, dict := d, data := .fields vs } C od := by
  cases d with
  | none => exact ⟨none, he, rfl, rfl, trivial⟩
  | some dd =>
    obtain ⟨fs, z⟩ := hd dd rfl
    obtain ⟨mA, ⟨o, es, ep, ho, hr⟩, _⟩ := exd_at I.hok z
    exact ⟨some o, he, rfl, rfl, ho⟩
theorem kit_at {K : PySem.W.Frag} {C x : Addr} {ox : Obj} {od : Option Obj} (f : XF K C) : PySem.W.KitX K (.ref x) (.ref C) (fun h => PySem.W.InstAt h x ox C od) := PySem.W.kitx_exc f.hcl f.hga f.hgt f.hsub f.ha f.hn f.htk f.hm
/-- isinstance(e, c), e tracked -/
def rIsX (K : PySem.W.Frag) : List V → Hp → VK → Prop := fun xs H Q => ∃ (e C : Addr) (d : Option Addr) (c : V) (cv : Value) (b : Bool), xs = [.ref e, c] ∧ ExAt H e C d ∧ XF K C ∧ (∀ u, RelV c u → u = cv) ∧ PySem.W.kitOne K (.ref C) cv = some b ∧ Q (.bl b) H
theorem call_isX : CallR X (.builtin "isinstance") (rIsX X.K) := by
  intro pins s σ H xs us Q I r h
  obtain ⟨e, C, d, c, cv, b, rfl, hE, f, uc, hk, q⟩ := h
  obtain ⟨u, w', rfl, ru, rw'⟩ := vals2 r
  cases ru
  have ec := uc _ rw'
  subst ec
  obtain ⟨t1, ho⟩ := exo_at I.hok hE.1
  obtain ⟨od, J⟩ := inst_at I ho hE.2
  exact PySem.W.kia_one (kit_at f) I.kIn J hk (fun z => nomatch z) fun tk => ⟨.bl b, H, I.kept (t' := tk) fun _ _ z => z, rfl, q⟩
/-- .. e pinned -/
def rIsP (K : PySem.W.Frag) (p : Addr × Obj) : List V → Hp → VK → Prop := fun xs H Q => ∃ (C : Addr) (d : Option Addr) (c : V) (cv : Value) (b : Bool), xs = [.ref p.1, c] ∧ Zc (.ref C) d p.2 ∧ (∃ vs, p.2.data = .fields vs) ∧ DictAt H d ∧ XF K C ∧ (∀ u, RelV c u → u = cv) ∧ PySem.W.kitOne K (.ref C) cv = some b ∧ Q (.bl b) H
theorem call_isP {p : Addr × Obj} (hp : p ∈ X.pn) : CallR X (.builtin "isinstance") (rIsP X.K p) := by
  intro pins s σ H xs us Q I r h
  obtain ⟨C, d, c, cv, b, rfl, hz, ⟨vs, hv⟩, hD, f, uc, hk, q⟩ := h
  obtain ⟨u, w', rfl, ru, rw'⟩ := vals2 r
  cases ru
  have ec := uc _ rw'
  subst ec
  obtain ⟨ho, _⟩ := I.pin p (List.mem_append_left _ hp)
  obtain ⟨a, oe⟩ := p
  have J : ∃ od, PySem.W.InstAt s.heap a oe C od := by
    obtain ⟨h1, h2⟩ := hz
    dsimp only at h1 h2 hv ho
    cases d with
    | none => exact ⟨none, ho, h1, by unfold PySem.W.notCls; rw [hv] <;> rfl, by rw [h2] <;> trivial⟩
    | some dd =>
      obtain ⟨fs, z⟩ := hD dd rfl
      obtain ⟨mA, ⟨o, es, ep, hod, hr⟩, _⟩ := exd_at I.hok z
      exact ⟨some o, ho, h1, by unfold PySem.W.notCls; rw [hv] <;> rfl, by rw [h2]; exact hod⟩
  obtain ⟨od, J⟩ := J
  exact PySem.W.kia_one (kit_at f) I.kIn J hk (fun z => nomatch z) fun tk => ⟨.bl b, H, I.kept (t' := tk) fun _ _ z => z, rfl, q⟩
end
/-- bools in a row, while PH holds -/
def EBs (PH : Hp → Prop) (σ : L2.St) (ta : TA) (bs : List Bool) : Prop := ∀ H Q, PH H → Q (bs.map V.bl) H → ta σ H Q
def EB (PH : Hp → Prop) (σ : L2.St) (te : TE) (b : Bool) : Prop := ∀ H Q, PH H → Q (.bl b) H → te σ H Q
theorem ebs_nil {PH : Hp → Prop} {σ : L2.St} : EBs PH σ tNil [] := fun H Q _ q => q
theorem ebs_cons {PH : Hp → Prop} {σ : L2.St} {te : TE} {ta : TA} {b : Bool} {bs : List Bool} (h : EB PH σ te b) (g : EBs PH σ ta bs) : EBs PH σ (tCons te ta) (b :: bs) := fun H Q p q => h H _ p (g H _ p q)
theorem rd_bl {PH : Hp → Prop} {σ : L2.St} {ta : TA} {bs : List Bool} {H : Hp} {Q : VK} (g : EBs PH σ ta bs) (p : PH H) (hl : bs.length ≤ 1000) (k : ∀ l, H l = none → Q (.ref l) (upd H l (.lst (bs.map V.bl)))) : tLst ta σ H Q :=
  g H _ p ⟨by rw [List.length_map]; exact Nat.le_of_lt (small1000 hl), k⟩
end K0
end
/-! ### E4 -/
section
set_option Elab.async false
set_option linter.all false
set_option maxRecDepth 100000
set_option maxHeartbeats 4000000
/-! Exceptions of own classes over any built-in one of them: made with and without an __init__ of their own, as values and raised; their fields. -/
namespace K0
open PySem PySem.Spec PyProof.Rows L2
section
open Builtin Builtin.ObjectAttr PySem.HandSPX
variable {prog : Program} {w : World} {A : Around} {R : Result → Shared → Prop} {hp : Heap} {g : Array GenState} {d : Drawn} {t : Nat} {os : OsState}
/-- the first store into an exception, whatever built-in class it is over -/
theorem first_store {K : W.Frag} {name : Str} {tk : Tok} {v : Value} {x C : Addr} {fv : Array Value} {cd : ClassData} (X : K.In hp) (hx : hp.get? x = some { cls := .ref C, data := .fields fv }) (hcd : W.clsIn K C = some cd) (pass : ∀ self : Value, refuseLoop self "__setattr__" cd.mro = pure ()) (ne : cd.mro.isEmpty = false)
    (hob : cd.mro.contains (.type "object") = true) (hh : cd.hasDict = true) (ha : W.findIn K (.ref C) name = some none)
    (hq : ∀ h' tk' dx, (∀ b o, b ≠ x → hp.get? b = some o → h'.get? b = some o) → hp.objs.size ≤ dx → dx ≠ x → h'.get? x = some { cls := .ref C, dict := some dx, data := .fields fv } → h'.Ns1 dx (fun y => if y = name then some v else none) → R (.ok (.ret .none)) ⟨h', g, d, tk', os⟩) :
    codeAny (model prog w) A (.call (.builtin "object.__setattr__") ⟨[.ref x, .str name tk, v], []⟩) R ⟨hp, g, d, t, os⟩ := by
  have I : W.InstAt hp x { cls := .ref C, data := .fields fv } C none := ⟨hx, rfl, rfl, trivial⟩
  have SF := PySem.F.store_object
  have far : x ≠ hp.objs.size := Nat.ne_of_lt (Heap.lt_size hx)
  have sub : W.Looks (model prog w) hp (isInstance (.ref x) (.type "object")) true := I.type.andThen (W.looks_mroIn X (by unfold W.mroIn; rw [hcd, Option.bind_some, if_neg (by rw [ne]; decide), hob]))
  refine codeAny_call_builtin SF.slot.plain SF.entry (@W.check_slot (model prog w) _ _ ⟨hp, g, d, t, os⟩ "object.__setattr__" "object" "__setattr__" (.ref x) [.str name tk, v] [] _ SF.kind SF.split sub (SF.args (.ref x) (.str name tk) v) ?_)
  have lk1 : W.Looks (model prog w) hp (mroOf (.ref C)) cd.mro := (W.looks_clsIn X hcd).andThen .now
  have lk2 : W.Looks (model prog w) hp (storeTaker? none) none := .now
  have lk3 : W.Looks (model prog w) hp (classData C) cd := W.looks_clsIn X hcd
  rw [W.osa_eq, refuse_eq]
  refine wpAny_bind (wpAny_bind (I.type.at (wpAny_bind (lk1.at ?_))))
  rw [pass]
  refine wpAny_pure (wpAny_bind (I.type.at (wpAny_bind ((W.looks_findIn X ha).at (wpAny_bind (lk2.at ?_))))))
  show wpAny _ _ (storeInOwnDict (.ref x) (.ref C) (.str name tk) name v false) _ _ _
  obtain ⟨nm, bs, mro, ns, qn, hd, sn, sb, ab, col, del⟩ := cd
  have hh : hd = true := hh
  subst hh
  unfold storeInOwnDict ownDictForStores
  repeat (first | with_reducible refine store_in_new ?_ ?_ | with_reducible refine wpAny_loadPart_at hx ?_ | with_reducible refine lk3.at ?_ | wp_step)
  · exact ⟨_, #[], _, (Heap.get?_update_ne _ _ _ _ far.symm).trans (Heap.get?_push_at rfl rfl), rfl, fun e he => absurd he (by simp), fun _ => rfl⟩
  · intro h' tk' hn' hs
    refine hq h' tk' hp.objs.size (fun b o hb ho => (hs.2 b (Nat.ne_of_lt (Heap.lt_size ho))).trans ((Heap.get?_update_ne _ _ _ _ hb).trans (Heap.get?_push_of_some _ ho))) (Nat.le_refl _) far.symm ?_ hn'
    exact (hs.2 x far).trans (Heap.get?_update_self _ (show (hp.push { cls := .type "dict", data := .dict #[] }).get? x = some { cls := .ref C, data := .fields fv } from Heap.get?_push_of_some _ hx) rfl)
end
section
open PySem.HandSPX PySem.Calls
/-- a built-in one's maker serves a class whose own mro behind it, tail, has the maker's class and is neither an AttributeError's nor a NameError's (the library's rule asks that it have just the built-in's classes, which a class over KeyError does not) -/
structure Over (B newId initId : String) (tail : List Value) : Prop where
  facts : ∃ bB, PySem.ExcBaseFacts B newId initId bB
  has : tail.contains (.type B) = true
  noA : tail.contains (.type "AttributeError") = false
  noN : tail.contains (.type "NameError") = false
theorem Over.cons {B newId initId : String} {tail : List Value} (O : Over B newId initId tail) (C : Addr) : (Value.ref C :: tail).contains (.type B) = true ∧ (Value.ref C :: tail).contains (.type "AttributeError") = false ∧ (Value.ref C :: tail).contains (.type "NameError") = false := by
  refine ⟨?_, ?_, ?_⟩ <;> rw [List.contains_cons]
  · rw [O.has, Bool.or_true]
  · rw [O.noA]; rfl
  · rw [O.noN]; rfl
variable {prog : Program} {w : World} {A : Around} {R : Result → Shared → Prop} {hp : Heap} {gn : Array GenState} {dr : Drawn} {tk : Nat} {os : OsState}
variable {nm q : Str} {C N fI : Addr} {bs tail us : List Value} {hdt : Bool} {sn : List Str} {sub : List Value} {ab : Bool} {col : Option Bool} {dd : Option Addr} {k0 k1 k2 k3 k5 : Option Value} {B newId initId : String}
theorem Over.check {M : Model} {E : Value → Shared → Prop} {Q : Unit → Shared → Prop} (O : Over B newId initId tail) (cl : hp.get? C = some (excClassObj nm q C N bs tail hdt sn sub ab col dd k0 k1 k2 k3 k5 newId)) (z : Q () ⟨hp, gn, dr, tk, os⟩) : wpAny M A (checkBuiltinCall newId ⟨.ref C :: us, []⟩) Q E ⟨hp, gn, dr, tk, os⟩ := by
  obtain ⟨bB, G⟩ := O.facts
  have a1 := (O.cons C).1
  have a2 := G.noStar
  simp only [checkBuiltinCall, G.newKind, G.newSplit, G.newRow]
  repeat (first | refine wpAny_loadPart_at cl ?_ | refine wpAny_staticBase_exc cl ?_ | refine wpAny_madeBy_exc cl ?_ | (refine wpAny_isSubtype_exc cl ?_; rw [a1]) | simp only [bne_self_eq_false, Bool.false_eq_true, if_false] | wp_step)
  exact z
theorem Over.new (O : Over B newId initId tail) (cl : hp.get? C = some (excClassObj nm q C N bs tail hdt sn sub ab col dd k0 k1 k2 k3 k5 newId)) (few : us.length ≤ sizeLine) (z : R (.ok (.ret (.ref (hp.objs.size + 1)))) ⟨(hp.push (W.kdv_tup us)).push (excO C hp.objs.size), gn, dr, tk, os⟩) :
    codeAny (model prog w) A (.builtin newId ⟨.ref C :: us, []⟩) R ⟨hp, gn, dr, tk, os⟩ := by
  obtain ⟨bB, G⟩ := O.facts
  obtain ⟨a1, a2, a3⟩ := O.cons C
  have a4 := G.ends
  refine codeAny_builtinAt G.entry ?_
  unfold Builtin.«BaseException.__new__»
  refine PySem.wpAt_bind (show PySem.wpAt _ _ _ (stack >>= _) _ _ _ from PySem.wpAt_bind (PySem.wpAt_stack fun p below => PySem.wpAt_of_wpAny ?_))
  wp_walk
  refine PySem.wpAt_of_wpAny ?_
  rw [G.owner]
  repeat (first | with_reducible refine wpAny_loadPart_at cl ?_ | with_reducible refine wpAny_madeHere_exc G.canon cl ?_ | (with_reducible refine wpAny_isSubtype_exc cl ?_; first | rw [a1] | rw [a2] | rw [a3]) | wp_step)
  show R _ _
  rw [Heap.size_push]
  exact z
theorem Over.made {E : Value → Shared → Prop} {Q : Fin → Shared → Prop} (O : Over B newId initId tail) (cl : hp.get? C = some (excClassObj nm q C N bs tail hdt sn sub ab col dd k0 k1 k2 k3 k5 newId)) (ini : W.Looks (model prog w) hp (typeLookup (.ref C) "__init__") (some (.ref fI))) (bnd : ∀ self, W.Looks (model prog w) hp (bindSpecial (.ref fI) self) (.ref fI, [self])) (few : us.length ≤ sizeLine)
    (z : codeAny (model prog w) A (.call (.ref fI) ⟨.ref (hp.objs.size + 1) :: us, []⟩) (fun r s' => match r with | .ok (.ret v) => v = .none ∧ Q (.done (.ret (.ref (hp.objs.size + 1)))) s' | .ok _ => False | .error e => E e s') ⟨(hp.push (W.kdv_tup us)).push (excO C hp.objs.size), gn, dr, tk, os⟩) : wpAny (model prog w) A (Builtin.«type.__call__» ⟨.ref C :: us, []⟩) Q E ⟨hp, gn, dr, tk, os⟩ := by
  obtain ⟨bB, G⟩ := O.facts
  repeat (first | with_reducible refine wpAny_loadPart_at cl ?_ | with_reducible refine wpAny_madeBy_exc cl ?_ | wp_step)
  refine codeAny_call_builtin_code (Code.quiet_builtin _ G.quiet) (O.check cl (O.new cl few ?_))
  show wpAny _ _ _ _ _ _
  have up : ∀ b o, hp.get? b = some o → ((hp.push (W.kdv_tup us)).push (excO C hp.objs.size)).get? b = some o := fun b o e => Heap.get?_push_of_some _ (Heap.get?_push_of_some _ e)
  have cl2 := up _ _ cl
  have new : ((hp.push (W.kdv_tup us)).push (excO C hp.objs.size)).get? (hp.objs.size + 1) = some (excO C hp.objs.size) := by heap_get
  have self : (Value.ref C :: tail).contains (.ref C) = true := by simp
  have ini2 := ini.keeps up
  have bnd2 := (bnd (.ref (hp.objs.size + 1))).keeps up
  unfold isInstance
  repeat (first | with_reducible refine wpAny_loadPart_at new ?_ | (with_reducible refine wpAny_isSubtype_exc cl2 ?_; rw [self]) | wp_step)
  show wpAny _ _ (typeLookup (.ref C) _) _ _ _
  refine ini2.at (wpAny_holding (wpAny_bind (bnd2.at (wpAny_bind (wpAny_call (codeAny_mono z fun r s' y => ?_))))))
  rcases r with e | (v | _ | _ | _) <;> first | exact y | exact y.elim | skip
  obtain ⟨rfl, y⟩ := y
  first
    | exact wpAny_pure (wpAny_pure y)
    | (wp_walk; exact y)
theorem Over.call (O : Over B newId initId tail) (cl : hp.get? C = some (excClassObj nm q C N bs tail hdt sn sub ab col dd k0 k1 k2 k3 k5 newId)) (ini : W.Looks (model prog w) hp (typeLookup (.ref C) "__init__") (some (.ref fI))) (bnd : ∀ self, W.Looks (model prog w) hp (bindSpecial (.ref fI) self) (.ref fI, [self])) (few : us.length ≤ sizeLine)
    (z : codeAny (model prog w) (A.under (.builtin "type.__call__" ⟨.ref C :: us, []⟩)) (.call (.ref fI) ⟨.ref (hp.objs.size + 1) :: us, []⟩) (W.InitBack (hp.objs.size + 1) R) ⟨(hp.push (W.kdv_tup us)).push (excO C hp.objs.size), gn, dr, tk, os⟩) : codeAny (model prog w) A (.call (.ref C) ⟨us, []⟩) R ⟨hp, gn, dr, tk, os⟩ := by
  have l1 := tc_lookup
  have l2 := tc_bind (.ref C)
  have ty : (⟨hp, gn, dr, tk, os⟩ : Shared).TypeIs (.ref C) "type" := ⟨_, cl, rfl⟩
  refine codeAny_of_tree (show wpAny _ _ (callAny (.ref C) _) _ _ _ from ?_)
  repeat (any_goals (first | assumption | with_reducible refine wpAny_loadPart_at cl ?_ | wp_step))
  refine ⟨rfl, codeAny_call_builtin_at (Code.quiet_builtin _ (by decide +kernel)) entry_typeCall (wpAny_check_type_call_sub cl (O.made cl ini bnd few (codeAny_mono z fun r s' y => ?_)))⟩
  rcases r with e | (v | _ | _ | _) <;> exact y
end
end K0
end
/-! ### E5 -/
section
set_option Elab.async false
set_option linter.all false
set_option maxRecDepth 100000
set_option maxHeartbeats 4000000
namespace K0
open PySem PySem.Spec PyProof.Rows L2
/-- what the written part says of a class with an __init__ of its own that stores its one argument as f; bmB: its mro from the first built-in one on -/
structure XI (K : PySem.W.Frag) (C fI : Addr) (B newId initId : String) (bmB : List Value) (f : Str) : Prop where
  FB : ∃ bB, PySem.ExcBaseFacts B newId initId bB
  has : bmB.contains (.type B) = true
  noA : bmB.contains (.type "AttributeError") = false
  noN : bmB.contains (.type "NameError") = false
  obj : bmB.contains (.type "object") = true
  pass : ∀ self : Value, refuseLoop self "__setattr__" bmB = pure ()
  ini : PySem.W.excInitIn K C bmB newId = true
  over : PySem.W.excOver K C bmB = true
  sa : PySem.W.findIn K (.ref C) "__setattr__" = some (some (.builtin "object.__setattr__"))
  iC : PySem.W.findIn K (.ref C) "__init__" = some (some (.ref fI))
  tI : PySem.W.typeIn K (.ref fI) = some (.type "function")
  no : PySem.W.findIn K (.ref C) f = some none
theorem over_cls {K : PySem.W.Frag} {C : Addr} {bmB : List Value} (h : PySem.W.excOver K C bmB = true) : ∃ cd tail, PySem.W.clsIn K C = some cd ∧ cd.mro = .ref C :: tail ∧ PySem.W.excTail bmB tail = true := by
  unfold PySem.W.excOver at h
  cases e : PySem.W.clsIn K C with
  | none => rw [e] at h; cases h
  | some cd =>
    rw [e] at h
    have h2 : (match cd.mro with | .ref C' :: bm => C' == C && PySem.W.excTail bmB bm | _ => false) = true := h
    split at h2
    · rename_i C' bm em
      obtain ⟨h3, h4⟩ := Bool.and_eq_true_iff.mp h2
      have e3 : C' = C := beq_iff_eq.mp h3
      subst e3
      exact ⟨cd, bm, rfl, em, h4⟩
    · cases h2
section
variable {X : Cx} {pins : List (Addr × Obj)} {σ : L2.St} {H : Hp} {s : Shared} {a C fI : Addr} {f : Str} {y : V} {u : Value} {B newId initId : String} {bmB : List Value}
theorem store_first {Q : Unit → Shared → Prop} {E : Value → Shared → Prop} {A : Around} (T : XI X.K C fI B newId initId bmB f) (F : XF X.K C) (I : Inv X pins σ H s) (e : H a = some (exo a C none)) (ry : RelV y u)
    (h : ∀ dx s', H dx = none → dx ≠ a → Inv X pins σ (upd (upd H dx (exd dx [(f, y)])) a (exo a C (some dx))) s' → Q () s') : wpAny (model X.prog X.w) A (setAttr (.ref a) f u) Q E s := by
  obtain ⟨cd, tail, hcd, hmro, htl⟩ := over_cls T.over
  have hdict : cd.hasDict = true := by
    obtain ⟨cd2, h1, h2⟩ := PySem.W.any_some F.hd
    rw [hcd] at h1
    cases h1
    exact h2
  have hps : ∀ self : Value, refuseLoop self "__setattr__" cd.mro = pure () := fun self => by
    rw [hmro]
    rw [PySem.refuseLoop_ref]
    exact PySem.W.excTail_pass self (T.pass self) tail htl
  have hob : cd.mro.contains (.type "object") = true := by
    rw [hmro, List.contains_cons, PySem.W.excTail_contains "object" tail htl, T.obj, Bool.or_true]
  obtain ⟨t1, ho⟩ := exo_at I.hok e
  obtain ⟨hp, g, d, t, os⟩ := s
  refine PySem.W.set_plain I.kIn (ox := { cls := .ref C, dict := none, data := .fields #[.ref t1, .none, .none, .none, .bool false, .none] }) (od := none) ⟨ho, rfl, rfl, trivial⟩ T.sa ?_
  refine first_store I.kIn ho hcd hps (by rw [hmro]; rfl) hob hdict T.no fun h' tk' dx k dn dne hx hn => ?_
  have free : H dx = none := I.hok.fresh dn
  have old : ∀ {b : Addr} {o : Obj}, hp.get? b = some o → b ≠ dx := fun q => Nat.ne_of_lt (Nat.lt_of_lt_of_le (Heap.lt_size q) dn)
  have not_a : ∀ {b : Addr}, H b = none → b ≠ a := fun n => ne_of_none e n |>.symm
  have look : ∀ {b : Addr} {o : HO}, H b = some o → exo a C none ≠ o → upd (upd H dx (exd dx [(f, y)])) a (exo a C (some dx)) b = some o := fun {b o} q n => by rw [upd_ne (at_ne e q n), upd_ne (ne_of_none q free)]; exact q
  have un : Un X.fs [] H (upd (upd H dx (exd dx [(f, y)])) a (exo a C (some dx))) hp h' :=
    ⟨fun b o q n _ _ => k b o (not_a n) q, fun b o q n _ _ => ⟨o.slots, k b o (not_a n) q⟩, fun b o q n _ => by rw [upd_ne (not_a n), upd_ne (old q)]; exact n, fun b o q _ => (Classical.em (b = a)).elim (fun z => z.symm ▸ ⟨_, hx⟩) fun z => ⟨o, k b o z q⟩,
      fun b xs q => look q exo_tup, fun b o v q => look q exo_frz, fun b ps q => ⟨#[], by rw [look q exo_tbl]; simp⟩⟩
  refine h dx _ free dne (I.un (t' := tk') un fun b o q => ?_)
  by_cases hb : b = a
  · subst hb
    rw [upd_same] at q
    cases q
    exact exo_ok hx
  · rw [upd_ne hb] at q
    by_cases hd : b = dx
    · subst hd
      rw [upd_same] at q
      cases q
      exact exd_ok hn (relO_put (fs := []) ry fun g => True.intro)
    · rw [upd_ne hd] at q
      exact (I.hok b o q).stay (fun c v hc z => k c v (hc.elim (fun z => by rw [z]; exact hb) fun z => at_ne e z exo_own) z) (fun c hc => look hc exo_own) fun c xs hc => look hc exo_tup
/-- self.f = v -/
def tSt (C : Addr) (f : Str) (to te : TE) : TS := fun D σ H => te σ H fun y H1 => to σ H1 fun x H2 => ∃ a, x = .ref a ∧ H2 a = some (exo a C none) ∧ ∀ dx, H2 dx = none → dx ≠ a → D.nx σ (upd (upd H2 dx (exd dx [(f, y)])) a (exo a C (some dx)))
theorem ps_st {o e : Expr} {to te : TE} {p' pos : Pos} (T : XI X.K C fI B newId initId bmB f) (F : XF X.K C) (ho : PE X o to) (he : PE X e te) (hs : swapsWith e (some (.Attribute o f p')) pos.line X.env = pure false := by rfl) : PS X (.Assign [.Attribute o f p'] e pos) (tSt C f to te) :=
  ⟨fun pins s σ H D I h => plainObj_wpAny_Assign_Attribute (thn (he.run pins s σ H _ I h) fun v s1 ⟨y, H1, I1, r1, q1⟩ => thn (ho.run pins s1 σ H1 _ I1 q1) fun u s2 ⟨x, H2, I2, r2, a, ex, ea, q⟩ => by
    subst ex
    obtain rfl : u = Value.ref a := r2
    exact store_first T F I2 ea r1 fun dx s' n ne J => ⟨σ, _, J, q dx n ne⟩) hs⟩
end
def spIniX (C : Addr) (f : Str) : Sp := fun vs H Q _ => ∃ (a : Addr) (v : V), vs = [.ref a, v] ∧ H a = some (exo a C none) ∧ ∀ dx, H dx = none → dx ≠ a → Q .non (upd (upd H dx (exd dx [(f, v)])) a (exo a C (some dx)))
section
variable {X : Cx} {C fI : Addr} {f x : Str} {B newId initId : String} {bmB : List Value} {k : Nat} {fd : FuncData} {ps : List Str} {e : Expr} {te : TE} {p pos : Pos}
def tMkI (C : Addr) (f : Str) (te : TE) : TE := fun σ H Q => te σ H fun v H1 => ∀ H' a dx, Same H1 H' → H1 a = none → H1 dx = none → dx ≠ a → H' a = some (exo a C (some dx)) → H' dx = some (exd dx [(f, v)]) → Q (.ref a) H'
theorem pe_mkI (T : XI X.K C fI B newId initId bmB f) (F : XF X.K C) (F1 : FnOk X.prog X.w X.K X.mg X.base CX0 k fI fd ps (spIniX C f)) (hr : Room (k + 1) X.A) (hb : Binds X.K fd ps []) (hg : Gl X x) (hm : X.mg x = some (.ref C)) (he : PE X e te)
    (hdb : (x == ("__debug__" : Str)) = false := by decide) (hs : starEach [e] X.env = (false, eval e X.env) :: starEach [] X.env := by rfl) (hpl : (backTo pos (starEach [] X.env)).any (·.1) = false := by rfl) : PE X (.Call (.Name x p) [e] [] pos) (tMkI C f te) := by
  refine ⟨fun pins s σ H Q I h => wpAny_Call_Name_kw (ld_glob I hg hm (PySem.W.callWith_K (h₀ := X.base) I.ok.mod.kin F.kp ?_ hs hpl) hdb)⟩
  rw [hs]
  show wpAny _ _ (spliced ((false, eval e X.env) :: backTo pos (starEach [] X.env))) _ _ s
  refine Calls.spliced_cons (thn (he.run pins s σ H _ I h) fun u s1 ⟨v, H1, I1, r1, q1⟩ => Calls.spliced_nil ⟨I1.kIn, ?_⟩)
  show wpAny _ _ (call (.ref C) [u]) _ _ _
  obtain ⟨hp, g, dr, tk, os⟩ := s1
  obtain ⟨nm, N, qn, bs, bm, hdct, sn, sub, ab, col, dd, k0, k1, k2, k3, k5, hC, hT⟩ := PySem.W.excInit_of I1.kIn T.ini
  have O : Over B newId initId bm := ⟨T.FB, by rw [hT]; exact T.has, by rw [hT]; exact T.noA, by rw [hT]; exact T.noN⟩
  have up : ∀ b o, hp.get? b = some o → ((hp.push (PySem.W.kdv_tup [u])).push (PySem.HandSPX.excO C hp.objs.size)).get? b = some o := fun b o z => Heap.get?_push_of_some _ (Heap.get?_push_of_some _ z)
  have new : ((hp.push (PySem.W.kdv_tup [u])).push (PySem.HandSPX.excO C hp.objs.size)).get? (hp.objs.size + 1) = some (PySem.HandSPX.excO C hp.objs.size) := by heap_get
  have far : hp.objs.size ≤ hp.objs.size + 1 := Nat.le_succ _
  have na : H1 (hp.objs.size + 1) = none := I1.hok.fresh far
  have I2 : Inv X pins σ (upd H1 (hp.objs.size + 1) (exo (hp.objs.size + 1) C none)) ⟨(hp.push (PySem.W.kdv_tup [u])).push (PySem.HandSPX.excO C hp.objs.size), g, dr, tk, os⟩ := I1.laid (t' := tk) (a := hp.objs.size + 1) (o := exo (hp.objs.size + 1) C none) (h' := (hp.push (PySem.W.kdv_tup [u])).push (PySem.HandSPX.excO C hp.objs.size)) up far (exo_ok new)
  have rel : Vals [V.ref (hp.objs.size + 1), v] [Value.ref (hp.objs.size + 1), u] := .cons rfl (.cons r1 .nil)
  have prom : spIniX C f [V.ref (hp.objs.size + 1), v] (upd H1 (hp.objs.size + 1) (exo (hp.objs.size + 1) C none)) (fun r H2 => r = .non ∧ Q (.ref (hp.objs.size + 1)) H2) E0 := ⟨_, v, rfl, upd_same, fun dx nd ne => ⟨rfl, by
    rw [upd_ne ne] at nd
    refine q1 _ _ dx (fun b o z => ?_) na nd ne upd_same (by rw [upd_ne ne, upd_same])
    rw [upd_ne (ne_of_none z na), upd_ne (ne_of_none z nd), upd_ne (ne_of_none z na)]
    exact z⟩⟩
  have size : ([Value.ref (hp.objs.size + 1), u] ++ ([] : List Value)).length = ps.length := by rw [List.append_nil, ← rel.length]; exact F1.len _ _ _ _ prom
  have bd := hb _ [Value.ref (hp.objs.size + 1), u] I2.kIn size
  rw [List.append_nil] at bd
  refine wpAny_call (O.call hC (PySem.W.looks_findIn I1.kIn T.iC) (fun self => PySem.W.bind_fn I1.kIn self T.tI) (by show 1 ≤ sizeLine; decide) (codeAny_mono (F1.run _ X.stack _ _ ⟨[Value.ref (hp.objs.size + 1), u], []⟩ [Value.ref (hp.objs.size + 1), u] _ _ E0 (hr.make C [u] []) (I2.env0.make C [u] []) bd rel prom) fun r s' z => ?_))
  cases r with
  | error er => exact z.elim
  | ok fl =>
    cases fl with
    | next => exact z.elim
    | brk => exact z.elim
    | cont => exact z.elim
    | ret r =>
      obtain ⟨v2, H2, J, rv, e2, q2⟩ := I2.after z
      subst e2
      exact ⟨rv, .ref (hp.objs.size + 1), H2, J, rfl, q2⟩
/-- C(e), no __init__ of its own -/
def tMk0 (C : Addr) (te : TE) : TE := fun σ H Q => te σ H fun _ H1 => ∀ H' a, Same H1 H' → H1 a = none → H' a = some (exo a C none) → Q (.ref a) H'
theorem pe_mk0 (FB : PySem.ExcBaseFacts B newId initId bmB) (q : PySem.W.excIn X.K C bmB newId = true) (kp : PySem.W.keepIn X.K (.ref C) = true) (hg : Gl X x) (hm : X.mg x = some (.ref C)) (he : PE X e te) (hdb : (x == ("__debug__" : Str)) = false := by decide)
    (hs : starEach [e] X.env = (false, eval e X.env) :: starEach [] X.env := by rfl) (hpl : (backTo pos (starEach [] X.env)).any (·.1) = false := by rfl) : PE X (.Call (.Name x p) [e] [] pos) (tMk0 C te) := by
  refine ⟨fun pins s σ H Q I h => wpAny_Call_Name_kw (ld_glob I hg hm (PySem.W.callWith_K (h₀ := X.base) I.ok.mod.kin kp ?_ hs hpl) hdb)⟩
  rw [hs]
  show wpAny _ _ (spliced ((false, eval e X.env) :: backTo pos (starEach [] X.env))) _ _ s
  refine Calls.spliced_cons (thn (he.run pins s σ H _ I h) fun u s1 ⟨v, H1, I1, r1, q1⟩ => Calls.spliced_nil ⟨I1.kIn, ?_⟩)
  show wpAny _ _ (call (.ref C) [u]) _ _ _
  obtain ⟨bm, N, nm, qn, bs, hdct, sn, sub, ab, col, dd, k0, k1, k2, k3, k5, mN, hC, hN, hni, T⟩ := exc_obj I1.kIn q
  refine wpAny_call_exc_subT FB T hC hN hni (fun h' a made => ?_) (by show 1 ≤ sizeLine; decide)
  have na : H1 a = none := I1.hok.gone made.new
  obtain ⟨t, ht, _, _⟩ := made.there
  exact ⟨.ref a, upd H1 a (exo a C none), I1.laidN made.keeps made.new na (exo_ok ht), rfl, q1 _ a (same_upd na) na upd_same⟩
/-- what hands a new exception over, raised -/
theorem pmk_exo (hx : X.ex = []) (he : PE X e te) : PMk X e (fun σ H Q => te σ H fun r H1 => ∃ a D d, r = .ref a ∧ H1 a = some (exo a D d) ∧ X.H_0 a = none ∧ Raises X (.ref D) ∧ Q (.ref D) d (delH H1 a)) := by
  intro pins s σ H Q I h
  refine wpAny_mono (he.run pins s σ H _ I h) (fun u s1 z => ?_) fun _ _ z => z
  obtain ⟨v, H1, I1, r1, a, D, d, rfl, ha, h0, hr, q⟩ := z
  cases r1
  obtain ⟨t1, ho⟩ := exo_at I1.hok ha
  obtain ⟨G, gs, ga, J⟩ := I1.untrack ha (fr0_none h0) hx
  exact ⟨a, _, _, { s1 with heap := G }, delH H1 a, .ref D, d, rfl, J, gs, ga, ho, ⟨rfl, rfl⟩, rfl, rfl, delH_same, rfl, I1.bare, hr, q⟩
end
end K0
end
/-! ### M4 -/
section
set_option linter.all false
/-! Which texts a reader takes: those that split into parts of its runs. -/
namespace Rd
def FilR (r : RunD) (u : List Nat) : Prop := (∀ s ∈ u, s ∈ r.signs) ∧ r.low ≤ u.length ∧ ∀ h, r.high = some h → u.length ≤ h
def Fil : List RunD → List Nat → Prop
  | [], t => t = []
  | r :: rs, t => ∃ u v, t = u ++ v ∧ FilR r u ∧ Fil rs v
def RestP (rs : List RunD) (p : Pl) (t : List Nat) : Prop := match rs[p.1]? with
  | none => t = []
  | some r => ∃ u v, t = u ++ v ∧ (∀ s ∈ u, s ∈ r.signs) ∧ r.low ≤ p.2 + u.length ∧ (∀ h, r.high = some h → p.2 + u.length ≤ h) ∧ Fil (rs.drop (p.1 + 1)) v
theorem rest_none {rs : List RunD} {p : Pl} {t : List Nat} (h : rs[p.1]? = none) : RestP rs p t ↔ t = [] := by
  unfold RestP; rw [h]
theorem rest_some {rs : List RunD} {p : Pl} {t : List Nat} {r : RunD} (h : rs[p.1]? = some r) : RestP rs p t ↔ ∃ u v, t = u ++ v ∧ (∀ s ∈ u, s ∈ r.signs) ∧ r.low ≤ p.2 + u.length ∧ (∀ h, r.high = some h → p.2 + u.length ≤ h) ∧ Fil (rs.drop (p.1 + 1)) v := by
  unfold RestP; rw [h]
theorem rest_zero {rs : List RunD} {i : Nat} {t : List Nat} : RestP rs (i, 0) t ↔ Fil (rs.drop i) t := by
  cases h : rs[i]? with
  | none =>
    rw [rest_none (p := (i, 0)) h, List.drop_eq_nil_of_le (List.getElem?_eq_none_iff.mp h)]
    exact Iff.rfl
  | some r =>
    obtain ⟨hl, e⟩ := List.getElem?_eq_some_iff.mp h
    rw [rest_some (p := (i, 0)) h, List.drop_eq_getElem_cons hl, e]
    constructor
    · rintro ⟨u, v, e1, h1, h2, h3, h4⟩
      exact ⟨u, v, e1, ⟨h1, by have h2 : r.low ≤ 0 + u.length := h2; omega, fun h hh => by have := h3 h hh; simp at this; omega⟩, h4⟩
    · rintro ⟨u, v, e1, ⟨h1, h2, h3⟩, h4⟩
      exact ⟨u, v, e1, h1, by show r.low ≤ 0 + u.length; omega, fun h hh => by have := h3 h hh; show 0 + u.length ≤ h; omega, h4⟩
def Clo1 (rs : List RunD) (ps : List Pl) : Prop := ∀ i c r, (i, c) ∈ ps → rs[i]? = some r → r.low ≤ c → (i + 1, 0) ∈ ps
theorem ahead_self (rs : List RunD) (i c : Nat) : (i, c) ∈ ahead rs i c := by
  by_cases h : i < rs.length
  · rw [ahead_go (List.getElem?_eq_getElem h)]; exact List.mem_cons_self
  · rw [ahead_end (by omega)]; exact List.mem_cons_self
theorem ahead_clo (rs : List RunD) : ∀ (n i c : Nat), rs.length - i = n → Clo1 rs (ahead rs i c)
  | 0, i, c, h => by
    intro j d r hm hr _
    rw [ahead_end (by omega)] at hm
    cases List.mem_singleton.mp hm
    rw [List.getElem?_eq_none (by omega)] at hr
    cases hr
  | n + 1, i, c, h => by
    intro j d r hm hr hd
    have hi : i < rs.length := by omega
    have go := ahead_go (c := c) (List.getElem?_eq_getElem hi)
    rw [go] at hm ⊢
    rcases List.mem_cons.mp hm with e | hm
    · cases e
      rw [List.getElem?_eq_getElem hi] at hr
      cases hr
      rw [if_pos hd]
      exact List.mem_cons_of_mem _ (ahead_self rs (i + 1) 0)
    · split at hm
      · rename_i hc
        rw [if_pos hc]
        exact List.mem_cons_of_mem _ (ahead_clo rs n (i + 1) 0 (by omega) j d r hm hr hd)
      · cases hm
theorem ok_cap {rs : List RunD} {i c h : Nat} {r : RunD} (o : OkP rs (i, c)) (e : rs[i]? = some r) (hh : r.high = some h) : c ≤ h := by
  rcases o with ⟨h1, h2⟩ | ⟨r2, h1, h2⟩
  · have h2 : c = 0 := h2; omega
  · have h1 : rs[i]? = some r2 := h1
    rw [e] at h1
    cases h1
    have h2 : c ≤ cap r := h2
    unfold cap at h2
    rw [hh] at h2
    exact h2
theorem ok_next {rs : List RunD} {i : Nat} (h : i ≤ rs.length) : OkP rs (i, 0) := by
  by_cases z : i < rs.length
  · exact .inr ⟨rs[i], List.getElem?_eq_getElem z, Nat.zero_le _⟩
  · exact .inl ⟨by show i = _; omega, rfl⟩
theorem eps (rs : List RunD) {t : List Nat} {q : Pl} : ∀ (n i c : Nat), rs.length - i = n → OkP rs (i, c) → q ∈ ahead rs i c → RestP rs q t → RestP rs (i, c) t
  | 0, i, c, h, _, hq, hr => by
    rw [ahead_end (by omega)] at hq
    cases List.mem_singleton.mp hq
    exact hr
  | n + 1, i, c, h, ok, hq, hr => by
    have hi : i < rs.length := by omega
    rw [ahead_go (List.getElem?_eq_getElem hi)] at hq
    rcases List.mem_cons.mp hq with e | hq
    · cases e; exact hr
    · split at hq
      · rename_i hc
        have z := eps rs n (i + 1) 0 (by omega) (ok_next (by omega)) hq hr
        rw [rest_zero] at z
        refine (rest_some (p := (i, c)) (List.getElem?_eq_getElem hi)).mpr ⟨[], t, rfl, fun s hs => absurd hs List.not_mem_nil, ?_, fun h hh => ?_, z⟩
        · show rs[i].low ≤ c + 0; omega
        · show c + 0 ≤ h
          exact ok_cap ok (List.getElem?_eq_getElem hi) hh
      · cases hq
structure OkS (rs : List RunD) (ps : List Pl) : Prop where
  ok : ∀ p ∈ ps, OkP rs p
  clo : Clo1 rs ps
def RestS (rs : List RunD) (ps : List Pl) (t : List Nat) : Prop := ∃ p ∈ ps, RestP rs p t
theorem ok_lt {rs : List RunD} {p : Pl} (h : OkP rs p) : p.1 ≤ rs.length := by
  rcases h with ⟨h1, _⟩ | ⟨r, h1, _⟩
  · omega
  · obtain ⟨hl, _⟩ := List.getElem?_eq_some_iff.mp h1
    omega
theorem rest_nil {rs : List RunD} {ps : List Pl} (o : OkS rs ps) : RestS rs ps [] ↔ (rs.length, 0) ∈ ps := by
  constructor
  · rintro ⟨p, hp, hr⟩
    suffices ∀ (n : Nat) (p : Pl), rs.length - p.1 = n → p ∈ ps → RestP rs p [] → (rs.length, 0) ∈ ps from this _ p rfl hp hr
    intro n
    induction n with
    | zero =>
      intro p h hp hr
      rcases o.ok p hp with ⟨h1, h2⟩ | ⟨r, h1, _⟩
      · have e : p = (rs.length, 0) := Prod.ext h1 h2
        rw [e] at hp; exact hp
      · obtain ⟨hl, _⟩ := List.getElem?_eq_some_iff.mp h1
        omega
    | succ n ih =>
      intro p h hp hr
      have hi : p.1 < rs.length := by omega
      obtain ⟨u, v, e, h1, h2, h3, h4⟩ := (rest_some (List.getElem?_eq_getElem hi)).mp hr
      have eu : u = [] := by cases u with | nil => rfl | cons a b => cases e
      have ev : v = [] := by rw [eu] at e; exact e.symm
      subst eu ev
      have hn := o.clo p.1 p.2 _ hp (List.getElem?_eq_getElem hi) (by simpa using h2)
      exact ih (p.1 + 1, 0) (by show rs.length - (p.1 + 1) = n; omega) hn (rest_zero.mpr h4)
  · intro h
    exact ⟨_, h, (rest_none (p := (rs.length, 0)) (List.getElem?_eq_none (Nat.le_refl _))).mpr rfl⟩
theorem cB_low {r : RunD} {c n : Nat} : r.low ≤ countB r c + n ↔ r.low ≤ c + (n + 1) := by
  unfold countB
  split
  · split <;> omega
  · omega
theorem cB_ok {rs : List RunD} {i c : Nat} {r : RunD} (ok : OkP rs (i, c)) (e : rs[i]? = some r) (ne : r.high ≠ some c) : OkP rs (i, countB r c) := by
  refine .inr ⟨r, e, ?_⟩
  show countB r c ≤ cap r
  unfold countB cap
  cases hh : r.high with
  | none =>
    show (if c + 1 < r.low then c + 1 else r.low) ≤ r.low
    split <;> omega
  | some n =>
    show c + 1 ≤ n
    have := ok_cap ok e hh
    have : n ≠ c := fun y => ne (by rw [hh, y])
    omega
theorem cB_high {r : RunD} {c n h : Nat} (hh : r.high = some h) : countB r c + n ≤ h ↔ c + (n + 1) ≤ h := by
  unfold countB
  rw [hh]
  show c + 1 + n ≤ h ↔ _
  omega
theorem rest_cons {rs : List RunD} {ps : List Pl} {s : Nat} {t : List Nat} (g : Good rs) (o : OkS rs ps) : RestS rs ps (s :: t) ↔ RestS rs (behind rs ps s) t := by
  have mc : ∀ q, q ∈ behind rs ps s ↔ q ∈ behindL rs ps s := fun q => mem_canon fun p hp => (behindL_ok o.ok p hp).grid g
  constructor
  · rintro ⟨p, hp, hr⟩
    suffices ∀ (n : Nat) (p : Pl), rs.length - p.1 = n → p ∈ ps → RestP rs p (s :: t) → RestS rs (behind rs ps s) t from this _ p rfl hp hr
    intro n
    induction n with
    | zero =>
      intro p h hp hr
      rw [rest_none (List.getElem?_eq_none (by omega))] at hr
      cases hr
    | succ n ih =>
      intro p h hp hr
      have hi : p.1 < rs.length := by omega
      have hg := List.getElem?_eq_getElem hi
      obtain ⟨u, v, e, h1, h2, h3, h4⟩ := (rest_some hg).mp hr
      cases u with
      | nil =>
        have e : s :: t = v := e
        subst e
        have hn := o.clo p.1 p.2 _ hp hg (by simpa using h2)
        exact ih (p.1 + 1, 0) (by show rs.length - (p.1 + 1) = n; omega) hn (rest_zero.mpr h4)
      | cons a u =>
        have e' := e
        injection e' with e1 e2
        subst e1
        have hs := h1 s List.mem_cons_self
        have nh : rs[p.1].high ≠ some p.2 := fun z => by
          have := h3 _ z
          rw [List.length_cons] at this
          omega
        have okc := cB_ok (o.ok p hp) hg nh
        refine ⟨(p.1, countB rs[p.1] p.2), (mc _).mpr (List.mem_flatMap.mpr ⟨p, hp, ?_⟩), (rest_some (p := (p.1, countB rs[p.1] p.2)) hg).mpr ⟨u, v, e2, fun x hx => h1 x (List.mem_cons_of_mem _ hx), ?_, fun h hh => ?_, h4⟩⟩
        · unfold stepB
          rw [hg]
          simp only
          rw [if_pos ⟨hs, nh⟩]
          exact ahead_self _ _ _
        · rw [List.length_cons] at h2
          exact cB_low.mpr h2
        · have := h3 h hh
          rw [List.length_cons] at this
          exact (cB_high hh).mpr this
  · rintro ⟨q, hq, hr⟩
    obtain ⟨p, hp, hq⟩ := List.mem_flatMap.mp ((mc q).mp hq)
    refine ⟨p, hp, ?_⟩
    unfold stepB at hq
    cases hg : rs[p.1]? with
    | none => rw [hg] at hq; cases hq
    | some r =>
      rw [hg] at hq
      simp only at hq
      split at hq
      · rename_i hc
        have okc := cB_ok (o.ok p hp) hg hc.2
        have z := eps rs _ p.1 (countB r p.2) rfl okc hq hr
        obtain ⟨u, v, e, h1, h2, h3, h4⟩ := (rest_some (p := (p.1, countB r p.2)) hg).mp z
        refine (rest_some hg).mpr ⟨s :: u, v, by rw [e]; rfl, fun x hx => ?_, ?_, fun h hh => ?_, h4⟩
        · rcases List.mem_cons.mp hx with rfl | hx
          · exact hc.1
          · exact h1 x hx
        · rw [List.length_cons]
          exact cB_low.mp h2
        · rw [List.length_cons]
          exact (cB_high hh).mp (h3 h hh)
      · cases hq
theorem ok_start (rs : List RunD) : OkS rs (ahead rs 0 0) := ⟨ahead_ok (ok_next (Nat.zero_le _)), ahead_clo rs _ 0 0 rfl⟩
theorem step_clo {rs : List RunD} {s : Nat} {p : Pl} : Clo1 rs (stepB rs s p) := by
  intro i c r hm hr hl
  unfold stepB at hm ⊢
  cases hg : rs[p.1]? with
  | none => rw [hg] at hm; cases hm
  | some r2 =>
    rw [hg] at hm
    simp only at hm ⊢
    split at hm
    · rename_i hc
      rw [if_pos hc]
      exact ahead_clo rs _ _ _ rfl i c r hm hr hl
    · cases hm
theorem ok_behind {rs : List RunD} {ps : List Pl} {s : Nat} (g : Good rs) (o : OkS rs ps) : OkS rs (behind rs ps s) := by
  have mc : ∀ q, q ∈ behind rs ps s ↔ q ∈ behindL rs ps s := fun q => mem_canon fun p hp => (behindL_ok o.ok p hp).grid g
  refine ⟨behind_ok o.ok, fun i c r hm hr hl => ?_⟩
  obtain ⟨p, hp, hq⟩ := List.mem_flatMap.mp ((mc _).mp hm)
  exact (mc _).mpr (List.mem_flatMap.mpr ⟨p, hp, step_clo i c r hq hr hl⟩)
def runS (rs : List RunD) (t : List Nat) : List Pl := t.foldl (behind rs) (ahead rs 0 0)
theorem fold_rest {rs : List RunD} (g : Good rs) : ∀ {t : List Nat} {ps : List Pl}, OkS rs ps → ((rs.length, 0) ∈ t.foldl (behind rs) ps ↔ RestS rs ps t)
  | [], ps, o => (rest_nil o).symm
  | s :: t, ps, o => by
    rw [List.foldl_cons, rest_cons g o]
    exact fold_rest g (ok_behind g o)
/-- a text is taken exactly if it splits into parts of the runs -/
theorem run_fil {rs : List RunD} (g : Good rs) {t : List Nat} : (rs.length, 0) ∈ runS rs t ↔ Fil rs t := by
  unfold runS
  rw [fold_rest g (ok_start rs), show Fil rs t ↔ RestP rs (0, 0) t from (rest_zero (i := 0) (rs := rs)).symm]
  constructor
  · rintro ⟨p, hp, hr⟩
    exact eps rs _ 0 0 rfl (ok_next (Nat.zero_le _)) hp hr
  · intro h
    exact ⟨_, ahead_self rs 0 0, h⟩
theorem behind_nil (rs : List RunD) (s : Nat) : behind rs [] s = [] := by
  unfold behind behindL canon
  simp
/-! ### all texts of a length, and sums over them -/
def wds (l : List Nat) : Nat → List (List Nat)
  | 0 => [[]]
  | n + 1 => (wds l n).flatMap fun t => l.map fun s => t ++ [s]
theorem mem_wds {l : List Nat} : ∀ {n : Nat} {t : List Nat}, t ∈ wds l n ↔ t.length = n ∧ ∀ s ∈ t, s ∈ l
  | 0, t => by
    constructor
    · intro h; cases List.mem_singleton.mp h; exact ⟨rfl, fun s h => by cases h⟩
    · rintro ⟨h, _⟩; rw [List.length_eq_zero_iff.mp h]; exact List.mem_singleton.mpr rfl
  | n + 1, t => by
    constructor
    · intro h
      obtain ⟨u, hu, h⟩ := List.mem_flatMap.mp h
      obtain ⟨s, hs, rfl⟩ := List.mem_map.mp h
      obtain ⟨h1, h2⟩ := mem_wds.mp hu
      refine ⟨by rw [List.length_append, h1]; rfl, fun x hx => ?_⟩
      rcases List.mem_append.mp hx with hx | hx
      · exact h2 x hx
      · rw [List.mem_singleton.mp hx]; exact hs
    · rintro ⟨h1, h2⟩
      have ne : t ≠ [] := fun e => by rw [e] at h1; cases h1
      refine List.mem_flatMap.mpr ⟨t.dropLast, mem_wds.mpr ⟨by rw [List.length_dropLast, h1]; rfl, fun s hs => h2 s (List.dropLast_subset t hs)⟩, List.mem_map.mpr ⟨t.getLast ne, h2 _ (List.getLast_mem ne), List.dropLast_concat_getLast ne⟩⟩
theorem wds_len {l : List Nat} : ∀ n : Nat, (wds l n).length = l.length ^ n
  | 0 => rfl
  | n + 1 => by
    show ((wds l n).flatMap fun t => l.map fun s => t ++ [s]).length = _
    rw [List.length_flatMap, Nat.pow_succ, ← wds_len n]
    generalize wds l n = m
    induction m with
    | nil => simp
    | cons a m ih => rw [List.map_cons, List.sum_cons, ih, List.length_cons, List.length_map, Nat.add_mul, Nat.one_mul, Nat.add_comm]
theorem wds_nodup {l : List Nat} (nd : l.Nodup) : ∀ n : Nat, (wds l n).Nodup
  | 0 => by simp [wds]
  | n + 1 => by
    show ((wds l n).flatMap fun t => l.map fun s => t ++ [s]).Nodup
    have ih := wds_nodup nd n
    have hl : ∀ t ∈ wds l n, t.length = n := fun t ht => (mem_wds.mp ht).1
    generalize wds l n = m at ih hl
    induction m with
    | nil => simp
    | cons a m ihm =>
      rw [List.flatMap_cons, List.nodup_append]
      rw [List.nodup_cons] at ih
      refine ⟨?_, ihm ih.2 fun t ht => hl t (List.mem_cons_of_mem _ ht), ?_⟩
      · exact List.Pairwise.map _ (fun x y (h : x ≠ y) e => h (by simpa using List.append_cancel_left e)) nd
      · rintro x hx y hy rfl
        obtain ⟨s, _, rfl⟩ := List.mem_map.mp hx
        obtain ⟨b, hb, hy⟩ := List.mem_flatMap.mp hy
        obtain ⟨s', _, e⟩ := List.mem_map.mp hy
        have := (List.append_inj e (by rw [hl b (List.mem_cons_of_mem _ hb), hl a List.mem_cons_self])).1
        exact ih.1 (this ▸ hb)
end Rd
end
/-! ### M5 -/
section
set_option linter.all false
/-! How many texts of a length a reader takes: the other way round, with other signs, without some signs, with one run more. -/
namespace Rd
def acc (rs : List RunD) (t : List Nat) : Bool := decide ((rs.length, 0) ∈ runS rs t)
theorem acc_fil {rs : List RunD} (g : Good rs) {t : List Nat} : acc rs t = true ↔ Fil rs t := by
  unfold acc
  rw [decide_eq_true_iff, run_fil g]
/-- the texts of a length that are taken -/
def tks (l : List Nat) (rs : List RunD) (m : Nat) : List (List Nat) := (wds l m).filter (acc rs)
def cnt (l : List Nat) (rs : List RunD) (m : Nat) : Nat := (tks l rs m).length
theorem tks_nodup {l : List Nat} (nd : l.Nodup) (rs : List RunD) (m : Nat) : (tks l rs m).Nodup := (wds_nodup nd m).filter _
theorem mem_tks {l : List Nat} {rs : List RunD} (g : Good rs) {m : Nat} {t : List Nat} : t ∈ tks l rs m ↔ (t.length = m ∧ ∀ s ∈ t, s ∈ l) ∧ Fil rs t := by
  unfold tks
  rw [List.mem_filter, mem_wds, acc_fil g]
theorem nodup_map {α β : Type} {f : α → β} {l : List α} (h : ∀ x ∈ l, ∀ y ∈ l, f x = f y → x = y) (nd : l.Nodup) : (l.map f).Nodup := by
  induction l with
  | nil => simp
  | cons a l ih =>
    rw [List.nodup_cons] at nd
    rw [List.map_cons, List.nodup_cons]
    refine ⟨fun hm => ?_, ih (fun x hx y hy => h x (List.mem_cons_of_mem _ hx) y (List.mem_cons_of_mem _ hy)) nd.2⟩
    obtain ⟨b, hb, e⟩ := List.mem_map.mp hm
    exact nd.1 ((h b (List.mem_cons_of_mem _ hb) a List.mem_cons_self e) ▸ hb)
theorem len_same {α : Type} [DecidableEq α] {l m : List α} (n1 : l.Nodup) (n2 : m.Nodup) (h : ∀ x, x ∈ l ↔ x ∈ m) : l.length = m.length :=
  Nat.le_antisymm (nodup_len n1 fun x hx => (h x).mp hx) (nodup_len n2 fun x hx => (h x).mpr hx)
theorem cnt_of {l : List Nat} {rs : List RunD} {m : Nat} {M : List (List Nat)} (nd : l.Nodup) (g : Good rs) (n : M.Nodup) (h : ∀ t, t ∈ M ↔ (t.length = m ∧ ∀ s ∈ t, s ∈ l) ∧ Fil rs t) : cnt l rs m = M.length :=
  len_same (tks_nodup nd rs m) n fun t => (mem_tks g).trans (h t).symm
theorem cnt_le {l : List Nat} {rs rs' : List RunD} {m m' : Nat} (nd : l.Nodup) (g : Good rs) (g' : Good rs') (f : List Nat → List Nat)
    (h : ∀ t, t.length = m → (∀ s ∈ t, s ∈ l) → Fil rs t → ((f t).length = m' ∧ ∀ s ∈ f t, s ∈ l) ∧ Fil rs' (f t)) (inj : ∀ t u, (∀ s ∈ t, s ∈ l) → (∀ s ∈ u, s ∈ l) → f t = f u → t = u) : cnt l rs m ≤ cnt l rs' m' := by
  have n1 : ((tks l rs m).map f).Nodup := nodup_map (fun x hx y hy e => inj x y ((mem_tks g).mp hx).1.2 ((mem_tks g).mp hy).1.2 e) (tks_nodup nd rs m)
  have := nodup_len (m := tks l rs' m') n1 fun x hx => by
    obtain ⟨t, ht, rfl⟩ := List.mem_map.mp hx
    obtain ⟨h1, h2⟩ := (mem_tks g).mp ht
    exact (mem_tks g').mpr (h t h1.1 h1.2 h2)
  rw [List.length_map] at this
  exact this
theorem fil_app {as bs : List RunD} : ∀ {t : List Nat}, Fil (as ++ bs) t ↔ ∃ u v, t = u ++ v ∧ Fil as u ∧ Fil bs v := by
  induction as with
  | nil =>
    intro t
    constructor
    · intro h; exact ⟨[], t, rfl, rfl, h⟩
    · rintro ⟨u, v, e, h1, h2⟩
      have h1 : u = [] := h1
      rw [e, h1]; exact h2
  | cons r as ih =>
    intro t
    constructor
    · rintro ⟨u, v, e, h1, h2⟩
      obtain ⟨u2, v2, e2, h3, h4⟩ := ih.mp h2
      exact ⟨u ++ u2, v2, by rw [e, e2, List.append_assoc], ⟨u, u2, rfl, h1, h3⟩, h4⟩
    · rintro ⟨u, v, e, ⟨u2, v2, e2, h1, h3⟩, h4⟩
      exact ⟨u2, v2 ++ v, by rw [e, e2, List.append_assoc], h1, ih.mpr ⟨v2, v, rfl, h3, h4⟩⟩
theorem fil_one {r : RunD} {t : List Nat} : Fil [r] t ↔ FilR r t := by
  constructor
  · rintro ⟨u, v, e, h1, h2⟩
    have h2 : v = [] := h2
    rw [h2, List.append_nil] at e
    rw [e]; exact h1
  · intro h; exact ⟨t, [], (List.append_nil t).symm, h, rfl⟩
/-! ### the other way round -/
theorem filR_rev {r : RunD} {t : List Nat} (h : FilR r t) : FilR r t.reverse := ⟨fun s hs => h.1 s (List.mem_reverse.mp hs), by rw [List.length_reverse]; exact h.2.1, fun x hx => by rw [List.length_reverse]; exact h.2.2 x hx⟩
theorem fil_rev : ∀ {rs : List RunD} {t : List Nat}, Fil rs t → Fil rs.reverse t.reverse
  | [], t, h => by
    have h : t = [] := h
    rw [h]; rfl
  | r :: rs, t, ⟨u, v, e, h1, h2⟩ => by
    rw [List.reverse_cons, e, List.reverse_append]
    exact fil_app.mpr ⟨_, _, rfl, fil_rev h2, fil_one.mpr (filR_rev h1)⟩
theorem good_rev {rs : List RunD} (g : Good rs) : Good rs.reverse := ⟨by rw [List.length_reverse]; exact g.len, fun r hr => g.all r (List.mem_reverse.mp hr)⟩
theorem cnt_rev_le {l : List Nat} (nd : l.Nodup) {rs : List RunD} (g : Good rs) (m : Nat) : cnt l rs m ≤ cnt l rs.reverse m :=
  cnt_le nd g (good_rev g) List.reverse (fun t h1 h2 h3 => ⟨⟨by rw [List.length_reverse]; exact h1, fun s hs => h2 s (List.mem_reverse.mp hs)⟩, fil_rev h3⟩) fun t u _ _ e => List.reverse_inj.mp e
theorem cnt_rev {l : List Nat} (nd : l.Nodup) {rs : List RunD} (g : Good rs) (m : Nat) : cnt l rs.reverse m = cnt l rs m := by
  refine Nat.le_antisymm ?_ (cnt_rev_le nd g m)
  have := cnt_rev_le nd (good_rev g) m
  rw [List.reverse_reverse] at this
  exact this
/-! ### other signs -/
/-- the same run with other signs -/
def OtherR (l : List Nat) (ρ : Nat → Nat) (r r' : RunD) : Prop := (∀ s ∈ l, (ρ s ∈ r'.signs ↔ s ∈ r.signs)) ∧ r'.low = r.low ∧ r'.high = r.high
inductive Others (l : List Nat) (ρ : Nat → Nat) : List RunD → List RunD → Prop
  | nil : Others l ρ [] []
  | cons {r r' : RunD} {rs rs' : List RunD} : OtherR l ρ r r' → Others l ρ rs rs' → Others l ρ (r :: rs) (r' :: rs')
theorem others_fil {l : List Nat} {ρ : Nat → Nat} : ∀ {rs rs' : List RunD}, Others l ρ rs rs' → ∀ {t : List Nat}, (∀ s ∈ t, s ∈ l) → (Fil rs' (t.map ρ) ↔ Fil rs t)
  | _, _, .nil, t, h => by
    show t.map ρ = [] ↔ t = []
    exact List.map_eq_nil_iff
  | r :: rs, r' :: rs', .cons ⟨o1, o2, o3⟩ os, t, h => by
    constructor
    · rintro ⟨u, v, e, ⟨h1, h2, h3⟩, h4⟩
      obtain ⟨u2, v2, e2, rfl, rfl⟩ := List.map_eq_append_iff.mp e
      subst e2
      refine ⟨u2, v2, rfl, ⟨fun s hs => (o1 s (h s (List.mem_append_left _ hs))).mp (h1 _ (List.mem_map.mpr ⟨s, hs, rfl⟩)), ?_, fun x hx => ?_⟩, (others_fil os fun s hs => h s (List.mem_append_right _ hs)).mp h4⟩
      · rw [List.length_map, o2] at h2; exact h2
      · have := h3 x (by rw [o3]; exact hx)
        rw [List.length_map] at this; exact this
    · rintro ⟨u, v, rfl, ⟨h1, h2, h3⟩, h4⟩
      refine ⟨u.map ρ, v.map ρ, List.map_append, ⟨fun s hs => ?_, by rw [List.length_map, o2]; exact h2, fun x hx => by rw [List.length_map]; exact h3 x (by rw [← o3]; exact hx)⟩, (others_fil os fun s hs => h s (List.mem_append_right _ hs)).mpr h4⟩
      obtain ⟨s0, hs0, rfl⟩ := List.mem_map.mp hs
      exact (o1 s0 (h s0 (List.mem_append_left _ hs0))).mpr (h1 s0 hs0)
theorem map_inv {l : List Nat} {ρ σ : Nat → Nat} (i : ∀ s ∈ l, σ (ρ s) = s) {t : List Nat} (h : ∀ s ∈ t, s ∈ l) : (t.map ρ).map σ = t := by
  rw [List.map_map]
  conv => rhs; rw [← List.map_id t]
  exact List.map_congr_left fun s hs => i s (h s hs)
theorem cnt_other {l : List Nat} (nd : l.Nodup) {rs rs' : List RunD} (g : Good rs) (g' : Good rs') {ρ σ : Nat → Nat} (hρ : ∀ s ∈ l, ρ s ∈ l) (hσ : ∀ s ∈ l, σ s ∈ l) (i1 : ∀ s ∈ l, σ (ρ s) = s) (i2 : ∀ s ∈ l, ρ (σ s) = s) (o : Others l ρ rs rs') (m : Nat) : cnt l rs' m = cnt l rs m := by
  refine Nat.le_antisymm ?_ ?_
  · refine cnt_le nd g' g (List.map σ) (fun t h1 h2 h3 => ?_) fun t u ht hu e => ?_
    · have h2' : ∀ s ∈ t.map σ, s ∈ l := fun s hs => by
        obtain ⟨x, hx, rfl⟩ := List.mem_map.mp hs
        exact hσ x (h2 x hx)
      refine ⟨⟨by rw [List.length_map]; exact h1, h2'⟩, (others_fil o h2').mp ?_⟩
      rw [map_inv i2 h2]; exact h3
    · rw [← map_inv i2 ht, e, map_inv i2 hu]
  · refine cnt_le nd g g' (List.map ρ) (fun t h1 h2 h3 => ?_) fun t u ht hu e => ?_
    · refine ⟨⟨by rw [List.length_map]; exact h1, fun s hs => ?_⟩, (others_fil o h2).mpr h3⟩
      obtain ⟨x, hx, rfl⟩ := List.mem_map.mp hs
      exact hρ x (h2 x hx)
    · rw [← map_inv i1 ht, e, map_inv i1 hu]
/-! ### without some signs -/
def barR (b : List Nat) (r : RunD) : RunD := ⟨r.signs.filter fun s => !decide (s ∈ b), r.low, r.high⟩
def barL (b : List Nat) : List RunD → List RunD
  | [] => []
  | r :: rs => if (barR b r).signs = [] then barL b rs else barR b r :: barL b rs
/-- a run that wants a sign has none left -/
def gone (b : List Nat) (rs : List RunD) : Bool := rs.any fun r => (barR b r).signs.isEmpty && decide (0 < r.low)
theorem barR_fil {b : List Nat} {r : RunD} {t : List Nat} : FilR (barR b r) t ↔ FilR r t ∧ ∀ s ∈ t, s ∉ b := by
  constructor
  · rintro ⟨h1, h2, h3⟩
    have z : ∀ s ∈ t, s ∈ r.signs ∧ s ∉ b := fun s hs => by
      have := List.mem_filter.mp (h1 s hs)
      exact ⟨this.1, by simpa using this.2⟩
    exact ⟨⟨fun s hs => (z s hs).1, h2, h3⟩, fun s hs => (z s hs).2⟩
  · rintro ⟨⟨h1, h2, h3⟩, h4⟩
    exact ⟨fun s hs => List.mem_filter.mpr ⟨h1 s hs, by simpa using h4 s hs⟩, h2, h3⟩
theorem barR_nil {b : List Nat} {r : RunD} {t : List Nat} (e : (barR b r).signs = []) (h : FilR (barR b r) t) : t = [] := by
  cases t with
  | nil => rfl
  | cons a t =>
    have := h.1 a List.mem_cons_self
    rw [e] at this
    cases this
theorem bar_fil {b : List Nat} : ∀ {rs : List RunD}, gone b rs = false → ∀ {t : List Nat}, (Fil (barL b rs) t ↔ Fil rs t ∧ ∀ s ∈ t, s ∉ b)
  | [], _, t => by
    constructor
    · intro h
      have h : t = [] := h
      rw [h]; exact ⟨rfl, fun s hs => by cases hs⟩
    · exact fun h => h.1
  | r :: rs, hg, t => by
    unfold gone at hg
    rw [List.any_cons, Bool.or_eq_false_iff] at hg
    have ih := fun t => bar_fil (rs := rs) hg.2 (t := t)
    unfold barL
    split
    · rename_i e
      have l0 : r.low = 0 := by
        have := hg.1
        rw [e] at this
        simp at this
        exact this
      rw [ih]
      constructor
      · rintro ⟨h1, h2⟩
        exact ⟨⟨[], t, rfl, ⟨fun s hs => (List.not_mem_nil hs).elim, by rw [l0]; exact Nat.zero_le _, fun _ _ => Nat.zero_le _⟩, h1⟩, h2⟩
      · rintro ⟨⟨u, v, rfl, h1, h2⟩, h3⟩
        have := barR_nil e (barR_fil.mpr ⟨h1, fun s hs => h3 s (List.mem_append_left _ hs)⟩)
        subst this
        exact ⟨h2, h3⟩
    · constructor
      · rintro ⟨u, v, rfl, h1, h2⟩
        obtain ⟨h3, h4⟩ := barR_fil.mp h1
        obtain ⟨h5, h6⟩ := (ih v).mp h2
        exact ⟨⟨u, v, rfl, h3, h5⟩, fun s hs => (List.mem_append.mp hs).elim (h4 s) (h6 s)⟩
      · rintro ⟨⟨u, v, rfl, h1, h2⟩, h3⟩
        exact ⟨u, v, rfl, barR_fil.mpr ⟨h1, fun s hs => h3 s (List.mem_append_left _ hs)⟩, (ih v).mpr ⟨h2, fun s hs => h3 s (List.mem_append_right _ hs)⟩⟩
theorem gone_fil {b : List Nat} : ∀ {rs : List RunD}, gone b rs = true → ∀ {t : List Nat}, Fil rs t → ∃ s ∈ t, s ∈ b
  | [], h, _, _ => by cases h
  | r :: rs, h, t, ⟨u, v, e, h1, h2⟩ => by
    subst e
    unfold gone at h
    rw [List.any_cons, Bool.or_eq_true, Bool.and_eq_true] at h
    rcases h with ⟨h3, h4⟩ | h
    · have h4 := of_decide_eq_true h4
      have e0 : (barR b r).signs = [] := List.isEmpty_iff.mp h3
      cases u with
      | nil => have := h1.2.1; simp at this; omega
      | cons a u =>
        have := h1.1 a List.mem_cons_self
        refine ⟨a, List.mem_append_left _ List.mem_cons_self, ?_⟩
        refine Classical.byContradiction fun hb => ?_
        have : a ∈ (barR b r).signs := List.mem_filter.mpr ⟨this, by simpa using hb⟩
        rw [e0] at this
        cases this
    · obtain ⟨s, hs, hb⟩ := gone_fil (rs := rs) h h2
      exact ⟨s, List.mem_append_right _ hs, hb⟩
theorem bar_len {b : List Nat} : ∀ rs : List RunD, (barL b rs).length ≤ rs.length
  | [] => Nat.le_refl _
  | r :: rs => by
    have := bar_len (b := b) rs
    unfold barL
    split
    · rw [List.length_cons]; omega
    · rw [List.length_cons, List.length_cons]; omega
theorem bar_mem {b : List Nat} {x : RunD} : ∀ {rs : List RunD}, x ∈ barL b rs → ∃ r ∈ rs, x = barR b r ∧ (barR b r).signs ≠ []
  | [], h => by cases h
  | r :: rs, h => by
    unfold barL at h
    split at h
    · obtain ⟨r2, h1, h2⟩ := bar_mem h
      exact ⟨r2, List.mem_cons_of_mem _ h1, h2⟩
    · rename_i ne
      rcases List.mem_cons.mp h with rfl | h
      · exact ⟨r, List.mem_cons_self, rfl, ne⟩
      · obtain ⟨r2, h1, h2⟩ := bar_mem h
        exact ⟨r2, List.mem_cons_of_mem _ h1, h2⟩
theorem good_bar {b : List Nat} {rs : List RunD} (g : Good rs) : Good (barL b rs) := ⟨Nat.le_trans (bar_len rs) g.len, fun x hx => by
  obtain ⟨r, hr, rfl, _⟩ := bar_mem hx
  exact ⟨(g.all r hr).low, (g.all r hr).cap⟩⟩
theorem cnt_bar_le {l b : List Nat} (nd : l.Nodup) {rs : List RunD} (g : Good rs) (hg : gone b rs = false) (m : Nat) : cnt l (barL b rs) m ≤ cnt l rs m :=
  cnt_le nd (good_bar g) g id (fun t h1 h2 h3 => ⟨⟨h1, h2⟩, ((bar_fil hg).mp h3).1⟩) fun t u _ _ e => e
/-! ### one run, and one run more -/
def ofRun (r : RunD) (m : Nat) : Nat := if r.low ≤ m ∧ (∀ h, r.high = some h → m ≤ h) then r.signs.length ^ m else 0
instance (r : RunD) (m : Nat) : Decidable (∀ h, r.high = some h → m ≤ h) := match r.high with
  | none => .isTrue fun h e => nomatch e
  | some x => if z : m ≤ x then .isTrue fun h e => by cases e; exact z else .isFalse fun f => z (f x rfl)
theorem good_one {r : RunD} (g : GoodR r) : Good [r] := ⟨by simp, fun x hx => by rw [List.mem_singleton.mp hx]; exact g⟩
theorem cnt_one {l : List Nat} (nd : l.Nodup) {r : RunD} (g : GoodR r) (ns : r.signs.Nodup) (sub : ∀ s ∈ r.signs, s ∈ l) (m : Nat) : cnt l [r] m = if r.low ≤ m ∧ (∀ h, r.high = some h → m ≤ h) then r.signs.length ^ m else 0 := by
  split
  · rename_i h
    rw [← wds_len m]
    refine cnt_of nd (good_one g) (wds_nodup ns m) fun t => ?_
    rw [mem_wds, fil_one]
    constructor
    · rintro ⟨h1, h2⟩
      exact ⟨⟨h1, fun s hs => sub s (h2 s hs)⟩, h2, by rw [h1]; exact h.1, fun x hx => by rw [h1]; exact h.2 x hx⟩
    · rintro ⟨⟨h1, _⟩, h2, _⟩
      exact ⟨h1, h2⟩
  · rename_i h
    show _ = ([] : List (List Nat)).length
    refine cnt_of nd (good_one g) (by simp) fun t => ⟨fun h => (List.not_mem_nil h).elim, ?_⟩
    rintro ⟨⟨h1, _⟩, h2⟩
    obtain ⟨_, h4, h5⟩ := fil_one.mp h2
    exact absurd ⟨by rw [← h1]; exact h4, fun x hx => by rw [← h1]; exact h5 x hx⟩ h
theorem fil_signs : ∀ {rs : List RunD} {t : List Nat}, Fil rs t → ∀ s ∈ t, ∃ r ∈ rs, s ∈ r.signs
  | [], t, h, s, hs => by
    have h : t = [] := h
    rw [h] at hs; cases hs
  | r :: rs, t, ⟨u, v, e, h1, h2⟩, s, hs => by
    rw [e] at hs
    rcases List.mem_append.mp hs with hs | hs
    · exact ⟨r, List.mem_cons_self, h1.1 s hs⟩
    · obtain ⟨r2, h3, h4⟩ := fil_signs h2 s hs
      exact ⟨r2, List.mem_cons_of_mem _ h3, h4⟩
/-- where the signs of two rows of runs differ, a text is parted in one way -/
theorem part_one {a b u u' v v' : List Nat} {A B : Nat → Prop} (d : ∀ s, A s → B s → False) (hu : ∀ s ∈ u, A s) (hu' : ∀ s ∈ u', A s) (hv : ∀ s ∈ v, B s) (hv' : ∀ s ∈ v', B s) (e : u ++ v = u' ++ v') : u = u' ∧ v = v' := by
  induction u generalizing u' with
  | nil =>
    cases u' with
    | nil => exact ⟨rfl, e⟩
    | cons x u' =>
      have e : v = x :: (u' ++ v') := e
      exact (d x (hu' x List.mem_cons_self) (hv x (by rw [e]; exact List.mem_cons_self))).elim
  | cons x u ih =>
    cases u' with
    | nil =>
      have e : x :: (u ++ v) = v' := e
      exact (d x (hu x List.mem_cons_self) (hv' x (by rw [← e]; exact List.mem_cons_self))).elim
    | cons y u' =>
      rw [List.cons_append, List.cons_append] at e
      injection e with e1 e2
      obtain ⟨h1, h2⟩ := ih (fun s hs => hu s (List.mem_cons_of_mem _ hs)) (fun s hs => hu' s (List.mem_cons_of_mem _ hs)) e2
      exact ⟨by rw [e1, h1], h2⟩
theorem nodup_flat {α β : Type} {f : α → List β} : ∀ {l : List α}, l.Nodup → (∀ x ∈ l, (f x).Nodup) → (∀ x ∈ l, ∀ y ∈ l, x ≠ y → ∀ b, b ∈ f x → b ∈ f y → False) → (l.flatMap f).Nodup
  | [], _, _, _ => by simp
  | a :: l, nd, h1, h2 => by
    rw [List.nodup_cons] at nd
    rw [List.flatMap_cons, List.nodup_append]
    refine ⟨h1 a List.mem_cons_self, nodup_flat nd.2 (fun x hx => h1 x (List.mem_cons_of_mem _ hx)) fun x hx y hy => h2 x (List.mem_cons_of_mem _ hx) y (List.mem_cons_of_mem _ hy), ?_⟩
    rintro x hx y hy rfl
    obtain ⟨b, hb, hy⟩ := List.mem_flatMap.mp hy
    exact h2 a List.mem_cons_self b (List.mem_cons_of_mem _ hb) (fun e => nd.1 (e ▸ hb)) x hx hy
theorem good_app {as bs : List RunD} (g : Good (as ++ bs)) : Good as ∧ Good bs := by
  have := g.len
  rw [List.length_append] at this
  exact ⟨⟨by omega, fun r hr => g.all r (List.mem_append_left _ hr)⟩, ⟨by omega, fun r hr => g.all r (List.mem_append_right _ hr)⟩⟩
theorem cnt_app {l : List Nat} (nd : l.Nodup) {as bs : List RunD} (g : Good (as ++ bs)) (d : ∀ s, (∃ r ∈ as, s ∈ r.signs) → (∃ r ∈ bs, s ∈ r.signs) → False) (m : Nat) :
    cnt l (as ++ bs) m = ((List.range (m + 1)).map fun i => cnt l as i * cnt l bs (m - i)).sum := by
  obtain ⟨ga, gb⟩ := good_app g
  have key : cnt l (as ++ bs) m = ((List.range (m + 1)).flatMap fun i => (tks l as i).flatMap fun u => (tks l bs (m - i)).map fun v => u ++ v).length := by
    refine cnt_of nd g (nodup_flat List.nodup_range (fun i _ => nodup_flat (tks_nodup nd as i) (fun u _ => nodup_map (fun x _ y _ e => List.append_cancel_left e) (tks_nodup nd bs (m - i))) ?_) ?_) fun t => ?_
    · intro u hu u' hu' ne b hb hb'
      obtain ⟨v, hv, rfl⟩ := List.mem_map.mp hb
      obtain ⟨v', hv', e⟩ := List.mem_map.mp hb'
      exact ne (part_one (a := []) (b := []) d (fil_signs ((mem_tks ga).mp hu).2) (fil_signs ((mem_tks ga).mp hu').2) (fil_signs ((mem_tks gb).mp hv).2) (fil_signs ((mem_tks gb).mp hv').2) e.symm).1
    · intro i _ j _ ne b hb hb'
      obtain ⟨u, hu, hb⟩ := List.mem_flatMap.mp hb
      obtain ⟨u', hu', hb'⟩ := List.mem_flatMap.mp hb'
      obtain ⟨v, hv, rfl⟩ := List.mem_map.mp hb
      obtain ⟨v', hv', e⟩ := List.mem_map.mp hb'
      have := (part_one (a := []) (b := []) d (fil_signs ((mem_tks ga).mp hu).2) (fil_signs ((mem_tks ga).mp hu').2) (fil_signs ((mem_tks gb).mp hv).2) (fil_signs ((mem_tks gb).mp hv').2) e.symm).1
      exact ne (by rw [← ((mem_tks ga).mp hu).1.1, ← ((mem_tks ga).mp hu').1.1, this])
    · constructor
      · intro h
        obtain ⟨i, hi, h⟩ := List.mem_flatMap.mp h
        obtain ⟨u, hu, h⟩ := List.mem_flatMap.mp h
        obtain ⟨v, hv, rfl⟩ := List.mem_map.mp h
        have hi := List.mem_range.mp hi
        obtain ⟨⟨h1, h2⟩, h3⟩ := (mem_tks ga).mp hu
        obtain ⟨⟨h4, h5⟩, h6⟩ := (mem_tks gb).mp hv
        exact ⟨⟨by rw [List.length_append, h1, h4]; omega, fun s hs => (List.mem_append.mp hs).elim (h2 s) (h5 s)⟩, fil_app.mpr ⟨u, v, rfl, h3, h6⟩⟩
      · rintro ⟨⟨h1, h2⟩, h3⟩
        obtain ⟨u, v, rfl, h4, h5⟩ := fil_app.mp h3
        rw [List.length_append] at h1
        refine List.mem_flatMap.mpr ⟨u.length, List.mem_range.mpr (by omega), List.mem_flatMap.mpr ⟨u, (mem_tks ga).mpr ⟨⟨rfl, fun s hs => h2 s (List.mem_append_left _ hs)⟩, h4⟩, List.mem_map.mpr ⟨v, (mem_tks gb).mpr ⟨⟨by omega, fun s hs => h2 s (List.mem_append_right _ hs)⟩, h5⟩, rfl⟩⟩⟩
  rw [key, List.length_flatMap]
  congr 1
  refine List.map_congr_left fun i _ => ?_
  rw [List.length_flatMap]
  show _ = (tks l as i).length * (tks l bs (m - i)).length
  generalize tks l as i = A
  induction A with
  | nil => simp
  | cons a A ih => rw [List.map_cons, List.sum_cons, ih, List.length_cons, List.length_map, Nat.add_mul, Nat.one_mul, Nat.add_comm]
/-! ### sums over the texts, a sign at a time -/
def wsum (f : List Pl → Nat) (sts : List (List Pl)) (kvs : List (Nat × Nat)) : Nat := (kvs.map fun kv => kv.2 * f (sts.getD kv.1 [])).sum
def tsum (l : List Nat) (rs : List RunD) (f : List Pl → Nat) (m : Nat) : Nat := ((wds l m).map fun t => f (runS rs t)).sum
theorem sum_flat {α β : Type} (f : α → List β) (g : β → Nat) : ∀ l : List α, ((l.flatMap f).map g).sum = (l.map fun a => ((f a).map g).sum).sum
  | [] => rfl
  | a :: l => by rw [List.flatMap_cons, List.map_append, List.sum_append, sum_flat f g l, List.map_cons, List.sum_cons]
theorem tsum_succ (l : List Nat) (rs : List RunD) (f : List Pl → Nat) (m : Nat) : tsum l rs f (m + 1) = tsum l rs (fun p => (l.map fun s => f (behind rs p s)).sum) m := by
  unfold tsum
  show (((wds l m).flatMap fun t => l.map fun s => t ++ [s]).map _).sum = _
  rw [sum_flat]
  congr 1
  refine List.map_congr_left fun t _ => ?_
  rw [List.map_map]
  congr 1
  refine List.map_congr_left fun s _ => ?_
  show f (runS rs (t ++ [s])) = _
  unfold runS
  rw [List.foldl_append]
  rfl
theorem sum_ind {α : Type} (p : α → Bool) : ∀ l : List α, (l.map fun a => if p a = true then 1 else 0).sum = (l.filter p).length
  | [] => rfl
  | a :: l => by
    rw [List.map_cons, List.sum_cons, sum_ind p l, List.filter_cons]
    split
    · rw [List.length_cons]; omega
    · omega
def whole (rs : List RunD) (p : List Pl) : Nat := if decide ((rs.length, 0) ∈ p) = true then 1 else 0
theorem tsum_cnt (l : List Nat) (rs : List RunD) (m : Nat) : tsum l rs (whole rs) m = cnt l rs m := sum_ind (acc rs) (wds l m)
end Rd
end
/-! ### BR0 -/
section
set_option Elab.async false
set_option linter.all false
set_option maxRecDepth 100000
set_option maxHeartbeats 4000000
/-! Runs as data, and back. -/
namespace K0
open PySem PySem.Spec PyProof.Rows L2 Rd
theorem same_off {H H1 : Hp} {a : Addr} (s : Same H H1) (n : H a = none) : Same H (delH H1 a) := fun b o e => by
  rw [delH_ne (ne_of_none e n)]
  exact s _ _ e
def hiP : Option Nat → PyData
  | none => .none
  | some h => .int ((h : Nat) : Int)
def dataR (r : RunD) : PyData := runData r.signs (.int ((r.low : Nat) : Int)) (hiP r.high)
structure RunOk (r : RunD) : Prop where
  sub : ∀ c ∈ r.signs, c ∈ sgs'
  asc : r.signs.Pairwise (· < ·)
  ne : r.signs ≠ []
  low : r.low ≤ 3
  hi : ∀ h, r.high = some h → (if 1 > r.low then 1 else r.low) ≤ h ∧ h ≤ 3
theorem lowOf_nat (n : Nat) : lowOf (.int ((n : Nat) : Int)) = (((if 1 > n then 1 else n : Nat) : Nat) : Int) := by
  show (if (1 : Int) > ((n : Nat) : Int) then (1 : Int) else ((n : Nat) : Int)) = _
  by_cases h : 1 > n
  · rw [if_pos h, if_pos (by omega)]; rfl
  · rw [if_neg h, if_neg (by omega)]
theorem dataR_ok {r : RunD} (h : RunOk r) : isRunD (dataR r) = true := by
  refine runData_ok h.sub h.asc h.ne ?_ ?_
  · show (decide ((0 : Int) ≤ ((r.low : Nat) : Int)) && decide (((r.low : Nat) : Int) ≤ 3)) = true
    rw [Bool.and_eq_true, decide_eq_true_iff, decide_eq_true_iff]
    have := h.low
    omega
  · rw [lowOf_nat]
    cases e : r.high with
    | none => rfl
    | some x =>
      show (decide ((((if 1 > r.low then 1 else r.low : Nat) : Nat) : Int) ≤ ((x : Nat) : Int)) && decide (((x : Nat) : Int) ≤ 3)) = true
      rw [Bool.and_eq_true, decide_eq_true_iff, decide_eq_true_iff]
      have := h.hi x e
      omega
theorem hiD_hiP (o : Option Nat) : hiD (hiP o) = o := by cases o <;> rfl
theorem runD_dataR (r : RunD) : runD (dataR r) = r := by
  obtain ⟨s, l, h⟩ := r
  show RunD.mk (sgsD (.tuple (s.map fun c => .str (oneS c)))) ((l : Nat) : Int).toNat (hiD (hiP h)) = _
  rw [hiD_hiP]
  congr 1
  show (s.map fun c => PyData.str (oneS c)).map sgD = s
  rw [List.map_map, show ((sgD ∘ fun c => PyData.str (oneS c)) : Nat → Nat) = id from rfl, List.map_id]
theorem run_data {d : PyData} (h : isRunD d = true) : RunOk (runD d) ∧ dataR (runD d) = d := by
  obtain ⟨es, l, e, rfl, sg, ⟨i, rfl⟩, he⟩ := run_parts h
  have r : (areSignsD (.tuple es) && !noneIn (.tuple es) && isNumD 0 3 (.int i) && isHighD (lowOf (.int i)) e) = true := h
  rw [Bool.and_eq_true, Bool.and_eq_true, Bool.and_eq_true] at r
  obtain ⟨⟨⟨r1, r4⟩, r2⟩, r3⟩ := r
  rw [are_asc sg] at r1
  have r2 : (decide (0 ≤ i) && decide (i ≤ 3)) = true := r2
  rw [Bool.and_eq_true, decide_eq_true_iff, decide_eq_true_iff] at r2
  have ei : (((i.toNat : Nat) : Int)) = i := Int.toNat_of_nonneg r2.1
  have es' := strs_of sg
  have hs : sgsD (.tuple es) = es.map sgD := rfl
  have nz : es.map sgD ≠ [] := fun z => by
    rw [List.map_eq_nil_iff] at z
    subst z
    cases r4
  have sub : ∀ c ∈ es.map sgD, c ∈ sgs' := fun c hc => by
    obtain ⟨x, hx, rfl⟩ := List.mem_map.mp hc
    exact sign_mem (List.all_eq_true.mp sg x hx)
  rcases he with rfl | ⟨j, rfl⟩
  · refine ⟨⟨sub, of_decide_eq_true r1, nz, by show i.toNat ≤ 3; omega, fun x hx => by cases hx⟩, ?_⟩
    show PyData.tuple [.tuple ((es.map sgD).map fun c => .str (oneS c)), .int ((i.toNat : Nat) : Int), .none] = _
    rw [← es', ei]
  · rw [← ei, lowOf_nat] at r3
    have r3 : (decide ((((if 1 > i.toNat then 1 else i.toNat : Nat) : Nat) : Int) ≤ j) && decide (j ≤ 3)) = true := r3
    rw [Bool.and_eq_true, decide_eq_true_iff, decide_eq_true_iff] at r3
    have ej : (((j.toNat : Nat) : Int)) = j := Int.toNat_of_nonneg (by
      have := r3.1
      omega)
    refine ⟨⟨sub, of_decide_eq_true r1, nz, by show i.toNat ≤ 3; omega, fun x hx => ?_⟩, ?_⟩
    · have hx : some j.toNat = some x := hx
      cases hx
      show (if 1 > i.toNat then 1 else i.toNat) ≤ j.toNat ∧ j.toNat ≤ 3
      omega
    · show PyData.tuple [.tuple ((es.map sgD).map fun c => .str (oneS c)), .int ((i.toNat : Nat) : Int), .int ((j.toNat : Nat) : Int)] = _
      rw [← es', ei, ej]
theorem RunOk.good {r : RunD} (h : RunOk r) : GoodR r := ⟨h.low, by
  unfold cap
  cases e : r.high with
  | none => exact h.low
  | some x => exact (h.hi x e).2⟩
theorem runs_data : ∀ {ds : List PyData}, ds.all isRunD = true → (∀ r ∈ ds.map runD, RunOk r) ∧ (ds.map runD).map dataR = ds
  | [], _ => ⟨fun r h => absurd h List.not_mem_nil, rfl⟩
  | d :: ds, h => by
    rw [List.all_cons, Bool.and_eq_true] at h
    obtain ⟨h1, h2⟩ := run_data h.1
    obtain ⟨h3, h4⟩ := runs_data h.2
    refine ⟨fun r hr => ?_, ?_⟩
    · rcases List.mem_cons.mp hr with rfl | hr
      · exact h1
      · exact h3 r hr
    · rw [List.map_cons, List.map_cons, h2, h4]
theorem data_runs {rs : List RunD} (h : ∀ r ∈ rs, RunOk r) : (rs.map dataR).all isRunD = true ∧ (rs.map dataR).map runD = rs := by
  constructor
  · rw [List.all_eq_true]
    intro d hd
    obtain ⟨r, hr, rfl⟩ := List.mem_map.mp hd
    exact dataR_ok (h r hr)
  · rw [List.map_map]
    conv => rhs; rw [← List.map_id rs]
    exact List.map_congr_left fun r _ => runD_dataR r
theorem holeD_of {rs : List RunD} (h : ∀ r ∈ rs, RunOk r) (ne : rs ≠ []) (l4 : rs.length ≤ 4) : holeD (rs.map dataR) = true := by
  unfold holeD
  rw [(data_runs h).1, List.length_map, Bool.and_true, Bool.and_eq_true]
  refine ⟨decide_eq_true ?_, decide_eq_true l4⟩
  cases rs with
  | nil => exact absurd rfl ne
  | cons _ _ => rw [List.length_cons]; omega
theorem RunOk.bar {r : RunD} (h : RunOk r) {b : List Nat} (ne : (barR b r).signs ≠ []) : RunOk (barR b r) :=
  ⟨fun c hc => h.sub c (List.mem_filter.mp hc).1, h.asc.filter _, ne, h.low, h.hi⟩
theorem bars_ok {rs : List RunD} (h : ∀ r ∈ rs, RunOk r) {b : List Nat} : ∀ r ∈ barL b rs, RunOk r := fun x hx => by
  obtain ⟨r, hr, rfl, ne⟩ := bar_mem hx
  exact (h r hr).bar ne
theorem dv_run {K : PySem.W.Frag} {H : Hp} {a s : Addr} {r : RunD} (h1 : SqT K H a [.ref s, .int ((r.low : Nat) : Int), hiV r.high]) (h2 : SqT K H s (r.signs.map oneV)) : Dv K H (.ref a) (dataR r) := by
  refine .tup h1 (.cons (.tup h2 (dv_ones r.signs)) (.cons (.int _) (.cons ?_ .nil)))
  cases r.high with
  | none => exact .non
  | some h => exact .int _
theorem bulk_ones : ∀ cs : List Nat, PyData.bulkAll (cs.map fun c => .str (oneS c)) = 2 * cs.length
  | [] => rfl
  | c :: cs => by
    rw [List.map_cons, PyData.bulkAll, bulk_ones cs, List.length_cons]
    show 1 + 1 + _ = _
    omega
theorem signs_few {cs : List Nat} (asc : cs.Pairwise (· < ·)) (sub : ∀ c ∈ cs, c ∈ sgs') : cs.length ≤ 15 := nodup_len (asc.imp fun h => Nat.ne_of_lt h) (m := sgs') fun z hz => sub z hz
theorem bulk_run {r : RunD} (h : RunOk r) : (dataR r).bulk ≤ 1000 := by
  have := signs_few h.asc h.sub
  have e : (hiP r.high).bulk = 0 := by cases r.high <;> rfl
  show PyData.bulkAll [.tuple (r.signs.map fun c => .str (oneS c)), .int ((r.low : Nat) : Int), hiP r.high] ≤ _
  have f : (PyData.int ((r.low : Nat) : Int)).bulk = 0 := rfl
  rw [PyData.bulkAll, PyData.bulkAll, PyData.bulkAll, PyData.bulkAll, PyData.bulk, bulk_ones, e, f]
  omega
theorem bulk_runs : ∀ {rs : List RunD}, (∀ r ∈ rs, RunOk r) → PyData.bulkAll (rs.map dataR) ≤ 1001 * rs.length
  | [], _ => Nat.le_refl _
  | r :: rs, h => by
    have h1 := bulk_run (h r List.mem_cons_self)
    have h2 := bulk_runs fun q hq => h q (List.mem_cons_of_mem _ hq)
    rw [List.map_cons, PyData.bulkAll, List.length_cons]
    omega
end K0
end
/-! ### BR -/
section
set_option Elab.async false
set_option linter.all false
set_option maxRecDepth 100000
set_option maxHeartbeats 4000000
/-! runs_without. -/
namespace K0
open PySem PySem.Spec PyProof.Rows L2 Rd DN StX
theorem scWithout : FnScope ["runs", "signs", "left", "own", "low", "high", "kept", "sign"] ["runs", "signs"] (defScope (top iWithout)) := ⟨rfl, rfl, rfl, by decide +kernel, rfl, by decide +kernel, by decide +kernel⟩
def spWithout (K : PySem.W.Frag) (CO : Addr) : Sp := fun vs H Q E => ∃ (p t : Addr) (xs : List V) (rs : List RunD) (b : List Nat), vs = [.ref p, .ref t] ∧ SqT K H p xs ∧ Paired (RunAt K H) xs rs ∧ rs.length ≤ 4 ∧ (∀ r ∈ rs, RunOk r) ∧ SqT K H t (b.map oneV) ∧
  (gone b rs = false → barL b rs ≠ [] → ∀ H' l ys, Same H H' → H l = none → H' l = some (.lst ys) → DvAll K H' ys ((barL b rs).map dataR) → Q (.ref l) H') ∧ ((gone b rs = true ∨ barL b rs = []) → ∀ H', Same H H' → E (.ref CO) none H')
theorem op_notInK {X : Cx} (K : PySem.W.Frag) (e : X.K = K) : OpR X (compareOp .NotIn) (rIn K true) := by
  subst e
  exact op_notIn_seq
theorem barL_app (b : List Nat) (r : RunD) : ∀ rs : List RunD, barL b (rs ++ [r]) = barL b rs ++ if (barR b r).signs = [] then [] else [barR b r]
  | [] => by
    show barL b [r] = _
    unfold barL
    split <;> rfl
  | q :: rs => by
    have ih := barL_app b r rs
    show barL b (q :: (rs ++ [r])) = _
    unfold barL
    rw [ih]
    split <;> rfl
theorem gone_app (b : List Nat) (r : RunD) (rs : List RunD) : gone b (rs ++ [r]) = (gone b rs || ((barR b r).signs.isEmpty && decide (0 < r.low))) := by
  unfold gone
  rw [List.any_append, List.any_cons, List.any_nil, Bool.or_false]
def keptL (b l : List Nat) : List Nat := l.filter fun s => !decide (s ∈ b)
theorem keptL_snoc (b l : List Nat) (c : Nat) : keptL b (l ++ [c]) = keptL b l ++ if decide (c ∈ b) = true then [] else [c] := by
  unfold keptL
  rw [List.filter_append, List.filter_cons]
  congr 1
  by_cases h : c ∈ b
  · rw [if_neg (by simp [h]), if_pos (by simp [h])]; rfl
  · rw [if_pos (by simp [h]), if_neg (by simp [h])]; rfl
section
variable {P : Program} {w : World} {K : PySem.W.Frag} {mg : Str → Option Value} {base : Heap} {f CO : Addr} {fd : FuncData}
theorem ok_without {k : Nat} (F : FnP K "runs_without" iWithout f fd) (mtuple : mg "tuple" = none) (gE : mg "InvalidOperation" = some (.ref CO)) (iO : PySem.W.excIn K CO He.veBase "ValueError.__new__" = true) (xO : XF K CO) :
    FnOk P w K mg base (L2.CX P w) (k + 1) f fd ["runs", "signs"] (spWithout K CO) := by
  refine F.ok scWithout (fun vs H Q E h => ?_) (fun cdv A outer s H vs Q E hr h => ?_)
  · obtain ⟨p, t, xs, rs, b, rfl, _⟩ := h
    rfl
  · obtain ⟨p, t, xs, rs, b, rfl, hT, hP, r4, ok, hb, good, bad⟩ := h
    refine ⟨_, C8.pss_cut (ps_set (i := 2) scWithout.nd rfl (.inl rfl) (pe_lst pa_nil))
      (C8.pss_cut (ps_for (passes_of rfl) rfl (pi_tup (pv 0)) (pg_tup rfl (pgs_cons (pg_name (i := 3) scWithout.nd rfl (.inl rfl)) (pgs_cons (pg_name (i := 4) scWithout.nd rfl (.inl rfl)) (pgs_cons (pg_name (i := 5) scWithout.nd rfl (.inl rfl)) pgs_nil))))
        (pss_cons (ps_set (i := 6) scWithout.nd rfl (.inl rfl) (pe_callTy call_tuple_of (by rfl) mtuple (by decide +kernel) (pa_cons (pe_lc (own := [("sign", 7)]) (g := gName 7) (te := tVar 7) rfl scWithout.nd (pi_tup (pv 3)) (blkOk_by (N := ["runs", "signs", "left", "own", "low", "high", "kept", "sign"]) (sc := defScope (top iWithout)) (by decide +kernel))
            (fun _ _ _ _ _ => pg_name (i := 7) scWithout.nd rfl (Or.inl rfl)) (fun _ _ _ _ _ => pts_one (pt_cmpR (op_notInK K rfl) (pv 7) (pv 1) rfl)) (fun _ _ _ _ _ => pv 7)) pa_nil)))
          (pss_one (ps_if (pt_truth (pv 6) (by intro _; rfl)) (pss_one (ps_expr (pe_bm PySem.F.plainAttrs_list PySem.F.slot_list_append PySem.F.type_list_append mt_append (pv 2) (pa_cons (pe_tup (pa_cons (pv 6) (pa_cons (pv 4) (pa_cons (pv 5) pa_nil)))) pa_nil))))
            (pss_one (ps_if (pt_cmpR op_gt (pv 4) pe_int (nomark _)) (pss_one (ps_raise rfl (takes_of rfl rfl rfl rfl) (pmk_exo rfl (pe_mk0 (C := CO) PySem.F.excBase_ValueError iO xO.kp (by rfl) gE pe_str)))) pss_nil))))))
      (C8.pss_cut (ps_if (pt_not (pt_truth (pv 2) (by intro _; rfl))) (pss_one (ps_raise rfl (takes_of rfl rfl rfl rfl) (pmk_exo rfl (pe_mk0 (C := CO) PySem.F.excBase_ValueError iO xO.kp (by rfl) gE pe_str)))) pss_nil)
      (pss_one (ps_ret (pv 2))))), ?_⟩
    have sm1 : 1 ≤ sizeLine := by decide
    have sm3 : 3 ≤ sizeLine := by decide
    have sl : sizeLine = 16777216 := sizeLine_eq
    have xl := paired_len hP
    refine ⟨fun σ' H' => ∃ l, σ' = [some (.ref p), some (.ref t), some (.ref l), none, none, none, none, none] ∧ Same H H' ∧ H l = none ∧ H' l = some (.lst []), ?_, ?_⟩
    · exact ⟨Nat.zero_le _, fun l nl => ⟨l, rfl, same_upd nl, nl, upd_same⟩⟩
    rintro σ1 H1 ⟨l, rfl, s1, nl, e1⟩
    refine ⟨fun σ' H' => ∃ x3 x4 x5 x6 x7 ys, σ' = [some (.ref p), some (.ref t), some (.ref l), x3, x4, x5, x6, x7] ∧ Same H H' ∧ H' l = some (.lst ys) ∧ DvAll K (hid l H') ys ((barL b rs).map dataR) ∧ gone b rs = false, ?_, ?_⟩
    · refine ⟨_, rfl, p, rfl, ⟨_, same_tup s1 hT⟩, for_it (walk_tup (xs := xs)) (fun m σ' H' => ∃ x3 x4 x5 x6 x7 ys, σ' = [some (.ref p), some (.ref t), some (.ref l), x3, x4, x5, x6, x7] ∧ Same H H' ∧ H' l = some (.lst ys) ∧ DvAll K (hid l H') ys ((barL b (rs.take m)).map dataR) ∧ gone b (rs.take m) = false)
        ⟨none, none, none, none, none, [], rfl, s1, e1, .nil, rfl⟩ (fun m σ' H' _ hP2 => ?_) (fun m x σ' H' H'' hm hP2 hY => ?_) (fun σ' H' hP2 => ?_)⟩
      · obtain ⟨_, _, _, _, _, _, _, s2, _⟩ := hP2
        exact same_tup s2 hT
      · obtain ⟨x3, x4, x5, x6, x7, ys, rfl, s2, e2, dv, ng⟩ := hP2
        obtain ⟨eH, hx⟩ := hY
        subst H''
        have hm2 : m < rs.length := by omega
        obtain ⟨r, hr2, hra⟩ := paired_at' hP hx
        have tk : rs.take (m + 1) = rs.take m ++ [r] := by rw [List.take_succ, hr2]; rfl
        have okr := ok r (List.mem_of_getElem? hr2)
        rw [tk, barL_app, gone_app, ng, Bool.false_or]
        obtain ⟨a, sg, rfl, hrT, hsT⟩ := hra
        refine ⟨a, _, rfl, same_tup s2 hrT, rfl, _, _, rfl, _, _, rfl, _, _, rfl, rfl, ?_⟩
        have nlH' : ∀ y o, H y = some o → y ≠ l := fun y o z q => by rw [q, nl] at z; cases z
        have sT := same_tup s2 hsT
        have tT := same_tup s2 hb
        refine ⟨_, rfl, sg, rfl, ⟨_, sT⟩, fun D nD => lc_it (walk_tup (xs := r.signs.map oneV)) (fun j H5 => Same H' H5 ∧ H5 D = some (.lst ((keptL b (r.signs.take j)).map oneV))) ⟨same_upd nD, upd_same⟩ (fun j H5 _ hP => same_tup hP.1 sT) (fun j y H5 H6 hj hP hY => ?_) (fun H5 hP => ?_)⟩
        · obtain ⟨s5, e5⟩ := hP
          obtain ⟨eH, hy⟩ := hY
          subst H6
          have hj2 : j < r.signs.length := by rw [List.length_map] at hj; exact hj
          rw [List.getElem?_map, List.getElem?_eq_getElem hj2] at hy
          have tk2 : r.signs.take (j + 1) = r.signs.take j ++ [r.signs[j]] := by rw [List.take_succ, List.getElem?_eq_getElem hj2]; rfl
          rw [tk2, keptL_snoc]
          generalize r.signs[j] = c at hy
          obtain rfl : oneV c = y := Option.some.inj hy
          refine ⟨rfl, _, rfl, _, rfl, t, _, rfl, .inr (same_tup s5 tT), rfl, flat_ones _, ?_⟩
          refine ⟨_, rfl, ?_⟩
          show (if (!inV (oneV c) (b.map oneV)) = true then _ else _)
          rw [inV_one]
          have kl : (keptL b (r.signs.take j)).length ≤ j := Nat.le_trans (List.length_filter_le _ _) (by rw [List.length_take]; omega)
          have rl : r.signs.length ≤ 15 := by
            have := nodup_len (okr.asc.imp fun h => Nat.ne_of_lt h) (m := sgs') fun z hz => okr.sub z hz
            exact this
          refine ite2 (fun hc => ?_) (fun hc => ?_)
          · have hc2 : ¬ decide (c ∈ b) = true := fun z => by rw [z] at hc; cases hc
            rw [if_neg hc2]
            refine ⟨_, rfl, _, e5, by rw [List.length_map]; omega, fun y o z => by rw [upd_ne (ne_of_none z nD)]; exact s5 _ _ z, ?_⟩
            rw [upd_same, List.map_append]
            rfl
          · have hc2 : decide (c ∈ b) = true := by
              cases z : decide (c ∈ b) with
              | true => rfl
              | false => rw [z] at hc; exact absurd rfl hc
            rw [if_pos hc2, List.append_nil]
            exact ⟨s5, e5⟩
        · obtain ⟨s5, e5⟩ := hP
          rw [List.length_map, List.take_length] at e5
          have ek : keptL b r.signs = (barR b r).signs := rfl
          rw [ek] at e5
          refine ⟨D, _, rfl, .inl ⟨.of e5, fun tk nt => ?_⟩⟩
          have s6 : Same H' (upd H5 tk (.tup ((barR b r).signs.map oneV))) := s5.trans (same_upd nt)
          have e6 : upd H5 tk (.tup ((barR b r).signs.map oneV)) tk = some (.tup ((barR b r).signs.map oneV)) := upd_same
          have nkl : tk ≠ l := fun q => by
            have := s5 _ _ e2
            rw [← q, nt] at this; cases this
          generalize upd H5 tk (.tup ((barR b r).signs.map oneV)) = H6 at s6 e6
          have e2' := s6 _ _ e2
          have dv' : DvAll K (hid l H6) ys ((barL b (rs.take m)).map dataR) := DvAll.same (hid_same fun y o _ z => s6 _ _ z) _ _ dv
          have s26 := s2.trans s6
          have yl := dv.length
          rw [List.length_map] at yl
          have few : ys.length ≤ 4 := by
            have h1 := bar_len (b := b) (rs.take m)
            have h2 : (rs.take m).length ≤ rs.length := by rw [List.length_take]; omega
            omega
          refine ⟨_, rfl, _, .inr (.inl ⟨_, .of e6, rfl⟩), ?_⟩
          cases hk : (barR b r).signs with
          | nil =>
            rw [show (if ([] : List Nat) = [] then ([] : List RunD) else [barR b r]) = [] from if_pos rfl, List.append_nil]
            refine ite2 (fun z => by cases z) fun _ => ?_
            refine ⟨_, rfl, _, _, rfl, rfl, _, rfl, ite2 (fun hlo => ?_) (fun hlo => ?_)⟩
            · have lo : 0 < r.low := by
                have z : ((r.low : Nat) : Int) > 0 := of_decide_eq_true hlo
                omega
              have gg : gone b rs = true := by
                unfold gone
                refine List.any_eq_true.mpr ⟨r, List.mem_of_getElem? hr2, ?_⟩
                rw [hk, decide_eq_true lo]; rfl
              exact fun H7 a s na ea => ⟨a, CO, none, rfl, ea, none_back s26 na, raises_own xO.hsub xO.ty, bad (.inl gg) _ (same_off (s26.trans s) (none_back s26 na))⟩
            · have lo : r.low = 0 := by
                have z : ¬ ((r.low : Nat) : Int) > 0 := fun q => hlo (decide_eq_true q)
                omega
              refine ⟨_, _, _, _, _, ys, rfl, s26, e2', dv', ?_⟩
              rw [lo]; rfl
          | cons c0 c1 =>
            rw [show (if c0 :: c1 = [] then ([] : List RunD) else [barR b r]) = [barR b r] from if_neg (by simp), List.map_append]
            rw [hk] at e6
            refine ite2 (fun _ => ?_) fun z => absurd rfl z
            refine ⟨_, rfl, .inl ⟨rfl, _, .inl (.inl e2')⟩, _, rfl, _, rfl, _, rfl, sm3, fun c nc => ⟨l, _, _, rfl, rfl, by rw [upd_ne (ne_of_none e2' nc)]; exact e2', by omega, ?_⟩⟩
            have cl : l ≠ c := ne_of_none e2' nc
            have s7 : Same H6 (upd H6 c (.tup [.ref tk, .int ((r.low : Nat) : Int), hiV r.high])) := same_upd nc
            refine ⟨_, _, _, _, _, _, rfl, fun y o z => ?_, upd_same, ?_, rfl⟩
            · rw [upd_ne (nlH' y o z)]
              exact s7 _ _ (s26 _ _ z)
            · have hs7 : Same (hid l H6) (hid l (upd (upd H6 c (.tup [.ref tk, .int ((r.low : Nat) : Int), hiV r.high])) l (.lst (ys ++ [.ref c])))) := hid_same fun y o ny z => by
                rw [upd_ne ny]
                exact s7 _ _ z
              refine (DvAll.same hs7 _ _ dv').append (.cons ?_ .nil)
              refine dv_run (s := tk) (.of ?_) ?_
              · rw [hid_ne cl.symm, upd_ne cl.symm, upd_same]
                rfl
              · rw [hk]
                refine same_tup hs7 (.of ?_)
                rw [hid_ne nkl]
                exact e6
      · obtain ⟨x3, x4, x5, x6, x7, ys, rfl, s2, e2, dv, ng⟩ := hP2
        rw [xl, List.take_length] at dv ng
        exact ⟨_, _, _, _, _, _, rfl, s2, e2, dv, ng⟩
    · rintro σ2 H2 ⟨x3, x4, x5, x6, x7, ys, rfl, s2, e2, dv, ng⟩
      have yl := dv.length
      rw [List.length_map] at yl
      refine ⟨fun σ' H' => σ' = [some (.ref p), some (.ref t), some (.ref l), x3, x4, x5, x6, x7] ∧ H' = H2 ∧ barL b rs ≠ [], ?_, ?_⟩
      · refine ⟨_, rfl, _, .inl ⟨ys, .of e2, rfl⟩, ?_⟩
        cases hb0 : barL b rs with
        | nil =>
          rw [hb0] at yl
          cases ys with
          | nil => exact ite2 (fun _ => fun H' a s na ea => ⟨a, CO, none, rfl, ea, none_back s2 na, raises_own xO.hsub xO.ty, bad (.inr hb0) _ (same_off (s2.trans s) (none_back s2 na))⟩) fun z => absurd rfl z
          | cons _ _ => cases yl
        | cons r0 r1 =>
          rw [hb0] at yl
          cases ys with
          | nil => cases yl
          | cons _ _ => exact ite2 (fun z => by cases z) fun _ => ⟨rfl, rfl, by simp⟩
      · rintro σ3 H3 ⟨rfl, rfl, ne⟩
        exact ⟨_, rfl, good ng ne _ l ys s2 nl e2 (DvAll.same hid_out _ _ dv)⟩
end
end K0
end
/-! ### CT0 -/
section
set_option Elab.async false
set_option linter.all false
set_option maxRecDepth 100000
set_option maxHeartbeats 4000000
/-! Dicts of numbers by numbers; a step of the counts, as plain Lean. -/
namespace K0
open PySem PySem.Spec PyProof.Rows L2 Rd DN
abbrev NN := List (Nat × Nat)
def dC (kvs : NN) : List (Key × V) := kvs.map fun kv => (.inl ((kv.1 : Nat) : Int), .int ((kv.2 : Nat) : Int))
def getC (kvs : NN) (j : Nat) : Nat := ((kvs.find? fun kv => decide (kv.1 = j)).map (·.2)).getD 0
def addC (kvs : NN) (j n : Nat) : NN := if (kvs.any fun kv => decide (kv.1 = j)) = true then kvs.map fun kv => if kv.1 = j then (kv.1, getC kvs j + n) else kv else kvs ++ [(j, getC kvs j + n)]
theorem key_eq (i j : Nat) : decide ((Sum.inl ((i : Nat) : Int) : Key) = .inl ((j : Nat) : Int)) = decide (i = j) := by
  refine decide_eq_decide.mpr ⟨fun h => ?_, fun h => by rw [h]⟩
  injection h with h
  omega
theorem valV_dC (kvs : NN) (j : Nat) : valV (dC kvs) (.inl ((j : Nat) : Int)) = ((kvs.find? fun kv => decide (kv.1 = j)).map (·.2)).map fun n => V.int ((n : Nat) : Int) := by
  induction kvs with
  | nil => rfl
  | cons kv kvs ih =>
    show valV ((_, _) :: dC kvs) _ = _
    by_cases e : kv.1 = j
    · rw [valV_pos (by show (Sum.inl _ : Key) = _; rw [e]), List.find?_cons, show decide (kv.1 = j) = true from decide_eq_true e]; rfl
    · rw [valV_neg (fun z => e (by injection z with z; omega)), ih, List.find?_cons, show decide (kv.1 = j) = false from decide_eq_false e]
theorem get_dC (kvs : NN) (j : Nat) : (valV (dC kvs) (.inl ((j : Nat) : Int))).getD (.int 0) = .int ((getC kvs j : Nat) : Int) := by
  rw [valV_dC]
  unfold getC
  cases kvs.find? fun kv => decide (kv.1 = j) <;> rfl
theorem put_dC (kvs : NN) (j n : Nat) : putK (dC kvs) (.inl ((j : Nat) : Int)) (.int ((getC kvs j + n : Nat) : Int)) = dC (addC kvs j n) := by
  have e : ((dC kvs).any fun kv => decide (kv.1 = (.inl ((j : Nat) : Int) : Key))) = kvs.any fun kv => decide (kv.1 = j) := by
    unfold dC
    rw [List.any_map]
    congr 1
    funext kv
    exact key_eq kv.1 j
  unfold putK addC
  rw [e]
  split
  · unfold dC
    rw [List.map_map, List.map_map]
    refine List.map_congr_left fun kv _ => ?_
    show (if (Sum.inl ((kv.1 : Nat) : Int) : Key) = .inl ((j : Nat) : Int) then _ else _) = _
    by_cases z : kv.1 = j
    · rw [if_pos (by rw [z])]
      simp only [Function.comp]
      rw [if_pos z]
    · rw [if_neg (fun y => z (by injection y with y; omega))]
      simp only [Function.comp]
      rw [if_neg z]
  · unfold dC
    rw [List.map_append]
    rfl
structure OkC (n : Nat) (kvs : NN) : Prop where
  nd : (kvs.map (·.1)).Nodup
  lt : ∀ kv ∈ kvs, kv.1 < n
theorem OkC.len {n : Nat} {kvs : NN} (o : OkC n kvs) : kvs.length ≤ n := by
  have := nodup_len (m := List.range n) o.nd fun x hx => by
    obtain ⟨kv, h, rfl⟩ := List.mem_map.mp hx
    exact List.mem_range.mpr (o.lt kv h)
  rw [List.length_map, List.length_range] at this
  exact this
theorem OkC.add {n : Nat} {kvs : NN} (o : OkC n kvs) {j m : Nat} (h : j < n) : OkC n (addC kvs j m) := by
  unfold addC
  split
  · have e : (kvs.map fun kv => if kv.1 = j then (kv.1, getC kvs j + m) else kv).map (·.1) = kvs.map (·.1) := by
      rw [List.map_map]
      refine List.map_congr_left fun kv _ => ?_
      show (if kv.1 = j then (kv.1, getC kvs j + m) else kv).1 = kv.1
      split <;> rfl
    refine ⟨by rw [e]; exact o.nd, fun kv hk => ?_⟩
    have : kv.1 ∈ kvs.map (·.1) := by rw [← e]; exact List.mem_map.mpr ⟨kv, hk, rfl⟩
    obtain ⟨kv2, h1, h2⟩ := List.mem_map.mp this
    rw [← h2]; exact o.lt kv2 h1
  · rename_i hn
    refine ⟨?_, fun kv hk => ?_⟩
    · rw [List.map_append, List.nodup_append]
      refine ⟨o.nd, by simp, fun a ha b hb => ?_⟩
      rintro rfl
      simp at hb
      subst hb
      obtain ⟨kv, h1, h2⟩ := List.mem_map.mp ha
      exact hn (List.any_eq_true.mpr ⟨kv, h1, decide_eq_true h2⟩)
    · rcases List.mem_append.mp hk with hk | hk
      · exact o.lt kv hk
      · rw [List.mem_singleton.mp hk]; exact h
theorem getC_of {kvs : NN} (nd : (kvs.map (·.1)).Nodup) {kv : Nat × Nat} (h : kv ∈ kvs) : getC kvs kv.1 = kv.2 := by
  unfold getC
  induction kvs with
  | nil => cases h
  | cons a kvs ih =>
    rw [List.map_cons, List.nodup_cons] at nd
    rw [List.find?_cons]
    rcases List.mem_cons.mp h with rfl | h
    · rw [show decide (kv.1 = kv.1) = true from decide_eq_true rfl]; rfl
    · have ne : a.1 ≠ kv.1 := fun e => nd.1 (by rw [e]; exact List.mem_map.mpr ⟨kv, h, rfl⟩)
      rw [show decide (a.1 = kv.1) = false from decide_eq_false ne]
      exact ih nd.2 h
theorem wsum_map {f : List Pl → Nat} {sts : List (List Pl)} {j m : Nat} (g : Nat) : ∀ {kvs : NN}, (kvs.map (·.1)).Nodup → (∀ kv ∈ kvs, kv.1 = j → kv.2 = g) → (kvs.any fun kv => decide (kv.1 = j)) = true →
    wsum f sts (kvs.map fun kv => if kv.1 = j then (kv.1, g + m) else kv) = wsum f sts kvs + m * f (sts.getD j [])
  | [], _, _, h => by cases h
  | kv :: kvs, nd, hg, h => by
    rw [List.map_cons, List.nodup_cons] at nd
    unfold wsum
    rw [List.map_cons, List.map_cons, List.sum_cons, List.map_cons, List.sum_cons]
    by_cases e : kv.1 = j
    · have rest : (kvs.map fun kv => if kv.1 = j then (kv.1, g + m) else kv) = kvs := by
        conv => rhs; rw [← List.map_id kvs]
        refine List.map_congr_left fun k2 hk => ?_
        rw [if_neg fun z => nd.1 (by rw [e, ← z]; exact List.mem_map.mpr ⟨k2, hk, rfl⟩)]
        rfl
      rw [rest, if_pos e, hg kv List.mem_cons_self e]
      show (g + m) * f (sts.getD kv.1 []) + _ = _
      rw [e, Nat.add_mul]
      omega
    · rw [if_neg e]
      have h2 : (kvs.any fun kv => decide (kv.1 = j)) = true := by
        rw [List.any_cons, decide_eq_false e, Bool.false_or] at h
        exact h
      have := wsum_map (f := f) (sts := sts) (m := m) g nd.2 (fun k hk => hg k (List.mem_cons_of_mem _ hk)) h2
      unfold wsum at this
      rw [this]
      omega
theorem wsum_app (f : List Pl → Nat) (sts : List (List Pl)) (a b : NN) : wsum f sts (a ++ b) = wsum f sts a + wsum f sts b := by
  unfold wsum
  rw [List.map_append, List.sum_append]
theorem wsum_add {f : List Pl → Nat} {sts : List (List Pl)} {n : Nat} {kvs : NN} (o : OkC n kvs) {j m : Nat} : wsum f sts (addC kvs j m) = wsum f sts kvs + m * f (sts.getD j []) := by
  unfold addC
  split
  · rename_i h
    exact wsum_map _ o.nd (fun kv hk e => by rw [← e]; exact (getC_of o.nd hk).symm) h
  · rename_i h
    rw [wsum_app]
    have : getC kvs j = 0 := by
      unfold getC
      rw [List.find?_eq_none.mpr fun kv hk z => h (List.any_eq_true.mpr ⟨kv, hk, z⟩)]
      rfl
    rw [this]
    unfold wsum
    simp
def addAll (kvs : NN) (n : Nat) (R : List Nat) : NN := R.foldl (fun a j => addC a j n) kvs
theorem OkC.all {N n : Nat} : ∀ {R : List Nat} {kvs : NN}, OkC N kvs → (∀ j ∈ R, j < N) → OkC N (addAll kvs n R)
  | [], kvs, o, _ => o
  | j :: R, kvs, o, h => OkC.all (R := R) (o.add (h j List.mem_cons_self)) fun x hx => h x (List.mem_cons_of_mem _ hx)
theorem wsum_all {f : List Pl → Nat} {sts : List (List Pl)} {N n : Nat} : ∀ {R : List Nat} {kvs : NN}, OkC N kvs → (∀ j ∈ R, j < N) → wsum f sts (addAll kvs n R) = wsum f sts kvs + n * (R.map fun j => f (sts.getD j [])).sum
  | [], kvs, o, _ => by simp [addAll]
  | j :: R, kvs, o, h => by
    show wsum f sts (addAll (addC kvs j n) n R) = _
    rw [wsum_all (o.add (h j List.mem_cons_self)) fun x hx => h x (List.mem_cons_of_mem _ hx), wsum_add o, List.map_cons, List.sum_cons, Nat.mul_add]
    omega
/-- where a row leads -/
def Rw (rs : List RunD) (sts : List (List Pl)) (p : List Pl) : List Nat := sgs.filterMap fun s => if behind rs p s = [] then none else some (sts.idxOf (behind rs p s))
theorem rowL_vals (rs : List RunD) (sts : List (List Pl)) (p : List Pl) : (rowL rs sts p sgs).map (·.2) = (Rw rs sts p).map fun j => V.int ((j : Nat) : Int) := by
  unfold rowL Rw
  rw [List.map_filterMap, List.map_filterMap]
  congr 1
  funext s
  split <;> rfl
theorem Rw_lt {rs : List RunD} {sts : List (List Pl)} {p : List Pl} (c : Clo rs sts p sgs) : ∀ j ∈ Rw rs sts p, j < sts.length := by
  intro j hj
  obtain ⟨s, hs, e⟩ := List.mem_filterMap.mp hj
  split at e
  · cases e
  · rename_i ne
    cases e
    exact List.idxOf_lt_length_of_mem ((c s hs).resolve_left ne)
theorem Rw_sum {f : List Pl → Nat} (f0 : f [] = 0) {rs : List RunD} {sts : List (List Pl)} {p : List Pl} (c : Clo rs sts p sgs) : ((Rw rs sts p).map fun j => f (sts.getD j [])).sum = (sgs.map fun s => f (behind rs p s)).sum := by
  unfold Rw
  unfold Clo at c
  generalize sgs = l at c
  induction l with
  | nil => rfl
  | cons s l ih =>
    rw [List.filterMap_cons, List.map_cons, List.sum_cons, ← ih fun x hx => c x (List.mem_cons_of_mem _ hx)]
    split
    · rename_i e
      split at e
      · rename_i z
        rw [z, f0, Nat.zero_add]
      · cases e
    · rename_i j e
      split at e
      · cases e
      · rename_i ne
        cases e
        have hm := (c s List.mem_cons_self).resolve_left ne
        have : sts.getD (sts.idxOf (behind rs p s)) [] = behind rs p s := by
          rw [List.getD_eq_getElem?_getD, List.getElem?_eq_getElem (List.idxOf_lt_length_of_mem hm), List.getElem_idxOf]
          rfl
        rw [List.map_cons, List.sum_cons, this]
def stepC (rs : List RunD) (sts : List (List Pl)) (kvs : NN) : NN := kvs.foldl (fun a kv => addAll a kv.2 (Rw rs sts (sts.getD kv.1 []))) []
theorem stepC_ok {rs : List RunD} {sts : List (List Pl)} (c : ∀ p ∈ sts, Clo rs sts p sgs) {l : NN} (lt : ∀ kv ∈ l, kv.1 < sts.length) : ∀ {a : NN}, OkC sts.length a → OkC sts.length (l.foldl (fun a kv => addAll a kv.2 (Rw rs sts (sts.getD kv.1 []))) a) := by
  induction l with
  | nil => exact fun o => o
  | cons kv l ih =>
    intro a o
    rw [List.foldl_cons]
    refine ih (fun k hk => lt k (List.mem_cons_of_mem _ hk)) (o.all (Rw_lt (c _ ?_)))
    rw [List.getD_eq_getElem?_getD, List.getElem?_eq_getElem (lt kv List.mem_cons_self)]
    exact List.getElem_mem _
theorem wsum_step {f : List Pl → Nat} (f0 : f [] = 0) {rs : List RunD} {sts : List (List Pl)} (c : ∀ p ∈ sts, Clo rs sts p sgs) {l : NN} (lt : ∀ kv ∈ l, kv.1 < sts.length) : ∀ {a : NN}, OkC sts.length a →
    wsum f sts (l.foldl (fun a kv => addAll a kv.2 (Rw rs sts (sts.getD kv.1 []))) a) = wsum f sts a + wsum (fun p => (sgs.map fun s => f (behind rs p s)).sum) sts l := by
  induction l with
  | nil => intro a o; simp [wsum]
  | cons kv l ih =>
    intro a o
    have hm : sts.getD kv.1 [] ∈ sts := by
      rw [List.getD_eq_getElem?_getD, List.getElem?_eq_getElem (lt kv List.mem_cons_self)]
      exact List.getElem_mem _
    rw [List.foldl_cons, ih (fun k hk => lt k (List.mem_cons_of_mem _ hk)) (o.all (Rw_lt (c _ hm))), wsum_all o (Rw_lt (c _ hm)), Rw_sum f0 (c _ hm)]
    unfold wsum
    rw [List.map_cons, List.sum_cons]
    show _ + kv.2 * (List.map (fun s => f (behind rs (sts.getD kv.1 []) s)) sgs).sum + _ = _ + (kv.2 * (List.map (fun s => f (behind rs (sts.getD kv.1 []) s)) sgs).sum + _)
    omega
def itC (rs : List RunD) (sts : List (List Pl)) : Nat → NN
  | 0 => [(0, 1)]
  | n + 1 => stepC rs sts (itC rs sts n)
theorem itC_ok {rs : List RunD} {sts : List (List Pl)} (st : Sts rs sts) (c : ∀ p ∈ sts, Clo rs sts p sgs) : ∀ n, OkC sts.length (itC rs sts n)
  | 0 => ⟨by simp [itC], fun kv h => by
    rw [List.mem_singleton.mp h]
    obtain ⟨hl, _⟩ := List.getElem?_eq_some_iff.mp st.hd
    exact hl⟩
  | n + 1 => stepC_ok c (itC_ok st c n).lt ⟨by simp, fun _ h => by cases h⟩
/-- what a sum over the counts is -/
theorem wsum_it {rs : List RunD} {sts : List (List Pl)} (st : Sts rs sts) (c : ∀ p ∈ sts, Clo rs sts p sgs) : ∀ (n : Nat) {f : List Pl → Nat}, f [] = 0 → wsum f sts (itC rs sts n) = tsum sgs rs f n
  | 0, f, _ => by
    have : sts.getD 0 [] = ahead rs 0 0 := by rw [List.getD_eq_getElem?_getD, st.hd]; rfl
    simp only [wsum, itC, tsum, wds, List.map_cons, List.map_nil, List.sum_cons, List.sum_nil, this, runS, List.foldl_nil]
    omega
  | n + 1, f, f0 => by
    rw [tsum_succ, ← wsum_it st c n (f := fun p => (sgs.map fun s => f (behind rs p s)).sum)]
    · show wsum f sts (stepC rs sts _) = _
      unfold stepC
      rw [wsum_step f0 c (itC_ok st c n).lt ⟨by simp, fun _ h => by cases h⟩]
      simp [wsum]
    · show (sgs.map fun s => f (behind rs [] s)).sum = 0
      rw [show (fun s => f (behind rs [] s)) = fun _ : Nat => 0 from funext fun s => by rw [behind_nil, f0]]
      generalize sgs = l
      induction l with
      | nil => rfl
      | cons a l ih => rw [List.map_cons, List.sum_cons, ih]
end K0
end
/-! ### CT -/
section
set_option Elab.async false
set_option linter.all false
set_option maxRecDepth 100000
set_option maxHeartbeats 4000000
/-! counts_behind. -/
namespace K0
open PySem PySem.Spec PyProof.Rows L2 Rd DN
theorem scCounts : FnScope ["moves", "counts", "found", "state", "number", "reached"] ["moves", "counts"] (defScope (top iCounts)) := ⟨rfl, rfl, rfl, by decide +kernel, rfl, by decide +kernel, by decide +kernel⟩
def RowsAt (H : Hp) (tm : Addr) (rs : List RunD) (sts : List (List Pl)) (ra : List Addr) : Prop := H tm = some (.tup (ra.map V.ref)) ∧ Paired (fun a p => H a = some (.dK (rowL rs sts p sgs))) ra sts
theorem RowsAt.same {H H' : Hp} {tm : Addr} {rs : List RunD} {sts : List (List Pl)} {ra : List Addr} (h : RowsAt H tm rs sts ra) (s : Same H H') : RowsAt H' tm rs sts ra := ⟨s _ _ h.1, pairedI h.2 fun _ _ z => s _ _ z⟩
def spCounts (K : PySem.W.Frag) : Sp := fun vs H Q _ => ∃ (tm c : Addr) (rs : List RunD) (sts : List (List Pl)) (ra : List Addr) (kvs : NN), vs = [.ref tm, .ref c] ∧ RowsAt H tm rs sts ra ∧ Sts rs sts ∧ (∀ p ∈ sts, Clo rs sts p sgs) ∧ H c = some (.dK (dC kvs)) ∧ OkC sts.length kvs ∧
  ∀ H' d, Same H H' → H d = none → H' d = some (.dK (dC (stepC rs sts kvs))) → Q (.ref d) H'
/-- the objects stay, but one, which is locked -/
structure Lk (H H' : Hp) (c : Addr) (od : Obj) (u : HO) : Prop where
  lk : H' c = some (.frz od u)
  st : ∀ y o, y ≠ c → H y = some o → H' y = some o
theorem Lk.open {H H' : Hp} {c : Addr} {od : Obj} {u : HO} (l : Lk H H' c od u) (e : H c = some u) : Same H (upd H' c u) := fun y o z => by
  by_cases q : y = c
  · subst q
    rw [e] at z
    cases z
    exact upd_same
  · rw [upd_ne q]; exact l.st y o q z
theorem addAll_snoc (kvs : NN) (n : Nat) (R : List Nat) (j : Nat) : addAll kvs n (R ++ [j]) = addC (addAll kvs n R) j n := by
  unfold addAll
  rw [List.foldl_append]
  rfl
section
variable {P : Program} {w : World} {K : PySem.W.Frag} {mg : Str → Option Value} {base : Heap} {f fC : Addr} {fd fdC : FuncData}
theorem ok_counts {k : Nat} (F : FnP K "counts_behind" iCounts f fd) : FnOk P w K mg base CX0 (k + 1) f fd ["moves", "counts"] (spCounts K) := by
  refine F.ok scCounts (fun vs H Q E h => ?_) (fun cdv A outer s H vs Q E hr h => ?_)
  · obtain ⟨tm, c, rs, sts, ra, kvs, rfl, _⟩ := h
    rfl
  · obtain ⟨tm, c, rs, sts, ra, kvs, rfl, hR, st, cl, hc, okc, q⟩ := h
    refine ⟨_, PSs.nox (C8.pss_cut (ps_set (i := 2) scCounts.nd rfl (.inl rfl) pe_dnewK)
      (C8.pss_cut (ps_lock (ps_for PassesOwn.never rfl (pi_items (pv 1)) (pg_tup rfl (pgs_cons (pg_name (i := 3) scCounts.nd rfl (.inl rfl)) (pgs_cons (pg_name (i := 4) scCounts.nd rfl (.inl rfl)) pgs_nil)))
        (pss_one (ps_lock (ps_for PassesOwn.never rfl (pi_values (pe_ix ix_tup (pv 0) (pv 3) (fun _ _ => rfl))) (pg_name (i := 5) scCounts.nd rfl (.inl rfl))
          (pss_one (ps_dput (hu_of hr) (pv 2) (pv 5) (pe_op op_add (pe_dget2 (hu_of hr) (pv 2) (pv 5) pe_int ⟨rfl, rfl, rfl, rfl⟩) (pv 4)) rfl)))))))
      (pss_one (ps_ret (pv 2))))), ?_⟩
    have sl : sizeLine = 16777216 := sizeLine_eq
    have few : sts.length ≤ 1048576 := states_few st.nd st.sub
    refine ⟨fun σ' H' => ∃ d, σ' = [some (.ref tm), some (.ref c), some (.ref d), none, none, none] ∧ Same H H' ∧ H d = none ∧ H' d = some (.dK (dC [])), ?_, ?_⟩
    · exact fun d nd => ⟨d, rfl, same_upd nd, nd, upd_same⟩
    rintro σ1 H1 ⟨d, rfl, s1, nd, e1⟩
    have dc : d ≠ c := fun z => by rw [z, hc] at nd; cases nd
    have hc1 := s1 _ _ hc
    refine ⟨fun σ' H' => ∃ x3 x4 x5, σ' = [some (.ref tm), some (.ref c), some (.ref d), x3, x4, x5] ∧ Same H H' ∧ H' d = some (.dK (dC (stepC rs sts kvs))), ?_, ?_⟩
    · refine ⟨c, _, hc1, trivial, fun od => ⟨_, rfl, c, od, dC kvs, rfl, upd_same, for_it (walk_items (kvs := dC kvs)) (fun m σ' H' => ∃ x3 x4 x5, σ' = [some (.ref tm), some (.ref c), some (.ref d), x3, x4, x5] ∧ Lk H H' c od (.dK (dC kvs)) ∧
          H' d = some (.dK (dC ((kvs.take m).foldl (fun a kv => addAll a kv.2 (Rw rs sts (sts.getD kv.1 []))) []))))
        ⟨none, none, none, rfl, ⟨upd_same, fun y o ny z => by rw [upd_ne ny]; exact s1 _ _ z⟩, by rw [upd_ne dc]; exact e1⟩ (fun m σ' H' _ hP => ?_) (fun m x σ' H' H'' hm hP hY => ?_) (fun σ' H' hP => ?_)⟩⟩
      · obtain ⟨_, _, _, _, l, _⟩ := hP
        exact l.lk
      · obtain ⟨x3, x4, x5, rfl, l, e⟩ := hP
        obtain ⟨T, x, y, rfl, nT, rfl, hx, hy⟩ := hY
        have hm2 : m < kvs.length := by unfold dC at hm; rw [List.length_map] at hm; exact hm
        have hk : (dC kvs)[m]? = some (.inl ((kvs[m].1 : Nat) : Int), .int ((kvs[m].2 : Nat) : Int)) := by
          unfold dC
          rw [List.getElem?_map, List.getElem?_eq_getElem hm2]; rfl
        have hx : ((dC kvs)[m]?).map (fun kv => kV kv.1) = some x := hx
        have hy : ((dC kvs)[m]?).map Prod.snd = some y := hy
        rw [hk] at hx hy
        obtain rfl : V.int ((kvs[m].1 : Nat) : Int) = x := Option.some.inj hx
        obtain rfl : V.int ((kvs[m].2 : Nat) : Int) = y := Option.some.inj hy
        have lt := okc.lt kvs[m] (List.getElem_mem _)
        have tk : (kvs.take (m + 1)) = kvs.take m ++ [kvs[m]] := by rw [List.take_succ, List.getElem?_eq_getElem hm2]; rfl
        obtain ⟨acc, hacc⟩ : ∃ acc, acc = (kvs.take m).foldl (fun a kv => addAll a kv.2 (Rw rs sts (sts.getD kv.1 []))) [] := ⟨_, rfl⟩
        rw [tk, List.foldl_append, ← hacc, List.foldl_cons, List.foldl_nil]
        rw [← hacc] at e
        have okA : OkC sts.length acc := by
          rw [hacc]
          exact stepC_ok cl (fun kv hkv => okc.lt kv (List.mem_of_mem_take hkv)) ⟨by simp, fun _ h => by cases h⟩
        generalize kvs[m] = kv at lt
        obtain ⟨i, n⟩ := kv
        have lt : i < sts.length := lt
        obtain ⟨r, hr1, hr2⟩ := paired_at hR.2 (List.getElem?_eq_getElem lt)
        have ep : sts.getD i [] = sts[i] := by rw [List.getD_eq_getElem?_getD, List.getElem?_eq_getElem lt]; rfl
        have cp := cl sts[i] (List.getElem_mem _)
        rw [show (i, n).1 = i from rfl, show (i, n).2 = n from rfl, ep]
        generalize sts[i] = p at hr2 cp
        have nrc : r ≠ c := fun z => by
          rw [z, hc] at hr2
          injection hr2 with hr2
          injection hr2 with hr2
          rw [hr2] at hk
          have mm := List.mem_of_getElem? hk
          unfold rowL at mm
          obtain ⟨s0, _, e0⟩ := List.mem_filterMap.mp mm
          split at e0
          · cases e0
          · injection e0 with e0
            injection e0 with e0
            cases e0
        have nrd : r ≠ d := fun z => by rw [z, nd] at hr2; cases hr2
        have ntc : tm ≠ c := fun z => by
          have := hR.1
          rw [z, hc] at this
          cases this
        have nrt : r ≠ tm := fun z => by
          have := hR.1
          rw [← z, hr2] at this
          cases this
        have Td : d ≠ T := fun z => by rw [z, nT] at e; cases e
        have Tc : c ≠ T := fun z => by have := l.lk; rw [z, nT] at this; cases this
        have l2 : Lk H (upd H' T (.tup [V.int ((i : Nat) : Int), V.int ((n : Nat) : Int)])) c od (.dK (dC kvs)) := ⟨by rw [upd_ne Tc]; exact l.lk, fun y o ny z => same_upd nT _ _ (l.st y o ny z)⟩
        have e2 : upd H' T (.tup [V.int ((i : Nat) : Int), V.int ((n : Nat) : Int)]) d = some (.dK (dC acc)) := by rw [upd_ne Td]; exact e
        refine ⟨T, _, rfl, .of upd_same, rfl, _, _, rfl, _, _, rfl, rfl, ?_⟩
        generalize upd H' T (.tup [V.int ((i : Nat) : Int), V.int ((n : Nat) : Int)]) = H2 at l2 e2
        have rlen : (rowL rs sts p sgs).length = (Rw rs sts p).length := by
          have := congrArg List.length (rowL_vals rs sts p)
          rw [List.length_map, List.length_map] at this
          exact this
        refine ⟨r, _, l2.st r _ nrc hr2, trivial, fun od2 => ⟨_, rfl, _, rfl, tm, _, _, _, rfl, rfl, .of (by rw [upd_ne nrt.symm]; exact l2.st tm _ ntc hR.1), atI_nat (v := .ref r) (by rw [List.getElem?_map, hr1]; rfl), r, od2, rowL rs sts p sgs, rfl, upd_same,
          for_it (walk_values (kvs := rowL rs sts p sgs)) (fun j σ' H3 => ∃ x5, σ' = [some (.ref tm), some (.ref c), some (.ref d), some (.int ((i : Nat) : Int)), some (.int ((n : Nat) : Int)), x5] ∧ (H3 r = some (.frz od2 (.dK (rowL rs sts p sgs))) ∧ H3 c = some (.frz od (.dK (dC kvs))) ∧ ∀ y o, y ≠ c → y ≠ r → H y = some o → H3 y = some o) ∧ H3 d = some (.dK (dC (addAll acc n ((Rw rs sts p).take j)))))
          ⟨x5, rfl, ⟨upd_same, by rw [upd_ne nrc.symm]; exact l2.lk, fun y o ny nr z => by rw [upd_ne nr]; exact l2.st y o ny z⟩, by rw [upd_ne nrd.symm]; exact e2⟩ (fun j σ' H3 _ hP => ?_) (fun j x σ' H3 H4 hj hP hY => ?_) (fun σ' H3 hP => ?_)⟩⟩
        · obtain ⟨_, _, l3, _⟩ := hP
          exact l3.1
        · obtain ⟨x5, rfl, l3, e3⟩ := hP
          obtain ⟨rfl, key, hk2⟩ := hY
          have hj2 : j < (Rw rs sts p).length := by rw [← rlen]; exact hj
          have hx : x = .int (((Rw rs sts p)[j] : Nat) : Int) := by
            have h1 : ((rowL rs sts p sgs).map (·.2))[j]? = some x := by rw [List.getElem?_map, hk2]; rfl
            rw [rowL_vals, List.getElem?_map, List.getElem?_eq_getElem hj2] at h1
            exact (Option.some.inj h1).symm
          subst hx
          have tk2 : (Rw rs sts p).take (j + 1) = (Rw rs sts p).take j ++ [(Rw rs sts p)[j]] := by rw [List.take_succ, List.getElem?_eq_getElem hj2]; rfl
          rw [tk2, addAll_snoc]
          have okB : OkC sts.length (addAll acc n ((Rw rs sts p).take j)) := okA.all fun z hz => Rw_lt cp z (List.mem_of_mem_take hz)
          have ltj := Rw_lt cp _ (List.getElem_mem hj2)
          generalize (Rw rs sts p)[j] = g at ltj
          have lenB := okB.len
          generalize addAll acc n ((Rw rs sts p).take j) = B at okB lenB e3
          have lB : (dC B).length < sizeLine := by unfold dC; rw [List.length_map]; omega
          refine ⟨_, rfl, d, rfl, .inl ⟨_, .inl e3⟩, _, rfl, _, DGet.k e3 (k := .inl ((g : Nat) : Int)), ?_⟩
          rw [get_dC]
          refine ⟨_, rfl, _, _, rfl, rfl, _, rfl, _, rfl, d, _, rfl, DPut.k e3 (k := .inl ((g : Nat) : Int)) lB, _, rfl, ⟨?_, ?_, fun y o ny nr z => ?_⟩, ?_⟩
          · rw [upd_ne nrd]; exact l3.1
          · rw [upd_ne dc.symm]; exact l3.2.1
          · rw [upd_ne fun q => by rw [q, nd] at z; cases z]
            exact l3.2.2 y o ny nr z
          · rw [upd_same, ← put_dC]
            rfl
        · obtain ⟨x5, rfl, l3, e3⟩ := hP
          rw [rlen, List.take_length] at e3
          refine ⟨l3.1, _, _, _, rfl, ⟨?_, fun y o ny z => ?_⟩, ?_⟩
          · rw [upd_ne nrc.symm]; exact l3.2.1
          · by_cases yr : y = r
            · subst yr
              rw [hr2] at z
              cases z
              exact upd_same
            · rw [upd_ne yr]
              exact l3.2.2 y o ny yr z
          · rw [upd_ne nrd.symm]
            exact e3
      · obtain ⟨x3, x4, x5, rfl, l, e⟩ := hP
        rw [show (dC kvs).length = kvs.length by unfold dC; rw [List.length_map], List.take_length] at e
        exact ⟨l.lk, _, _, _, rfl, l.open hc, by rw [upd_ne dc]; exact e⟩
    · rintro σ2 H2 ⟨x3, x4, x5, rfl, s2, e2⟩
      exact ⟨_, rfl, q H2 d s2 nd e2⟩
end
end K0
end
/-! ### CO -/
section
set_option Elab.async false
set_option linter.all false
set_option maxRecDepth 100000
set_option maxHeartbeats 4000000
/-! count_of. -/
namespace K0
open PySem PySem.Spec PyProof.Rows L2 Rd DN
theorem scCountOf : FnScope ["reader", "many", "wholes", "moves", "counts", "_", "state"] ["reader", "many"] (defScope (top iCountOf)) := ⟨rfl, rfl, rfl, by decide +kernel, rfl, by decide +kernel, by decide +kernel⟩
def spCountOf (K : PySem.W.Frag) : Sp := fun vs H Q _ => ∃ (t : Addr) (m : Nat) (rs : List RunD), vs = [.ref t, .int (m : Nat)] ∧ m ≤ 200 ∧ ReaderAt H t rs ∧ ∀ H', Same H H' → Q (.int (cnt sgs rs m : Nat)) H'
def sumC (rs : List RunD) (sts : List (List Pl)) (l : NN) : List Int := (l.filter fun kv => decide ((rs.length, 0) ∈ sts.getD kv.1 [])).map fun kv => ((kv.2 : Nat) : Int)
theorem sumC_eq (rs : List RunD) (sts : List (List Pl)) : ∀ l : NN, (sumC rs sts l).sum = ((wsum (whole rs) sts l : Nat) : Int)
  | [] => rfl
  | kv :: l => by
    have ih := sumC_eq rs sts l
    unfold sumC wsum at ih ⊢
    rw [List.map_cons, List.sum_cons, List.filter_cons]
    by_cases z : (rs.length, 0) ∈ sts.getD kv.1 []
    · have w1 : whole rs (sts.getD kv.1 []) = 1 := by unfold whole; rw [if_pos (decide_eq_true z)]
      rw [if_pos (decide_eq_true z), List.map_cons, List.sum_cons, ih, w1]
      push_cast
      omega
    · have w0 : whole rs (sts.getD kv.1 []) = 0 := by unfold whole; rw [if_neg (by simpa using z)]
      rw [if_neg (by simpa using z), ih, w0]
      push_cast
      omega
theorem sumC_snoc (rs : List RunD) (sts : List (List Pl)) (l : NN) (kv : Nat × Nat) : sumC rs sts (l ++ [kv]) = sumC rs sts l ++ if decide ((rs.length, 0) ∈ sts.getD kv.1 []) = true then [((kv.2 : Nat) : Int)] else [] := by
  unfold sumC
  rw [List.filter_append, List.map_append, List.filter_cons]
  congr 1
  split <;> rfl
section
variable {P : Program} {w : World} {K : PySem.W.Frag} {mg : Str → Option Value} {base : Heap} {f fC : Addr} {fd fdC : FuncData}
theorem ok_countOf {k : Nat} (F : FnP K "count_of" iCountOf f fd) (mrange : mg "range" = none) (msum : mg "sum" = none)
    (FC : FnOk P w K mg base CX0 (k + 1) fC fdC ["moves", "counts"] (spCounts K)) (gC : mg "counts_behind" = some (.ref fC)) (kC : PySem.W.keepIn K (.ref fC) = true) (bC : Binds K fdC ["moves", "counts"] []) :
    FnOk P w K mg base CX0 (k + 2) f fd ["reader", "many"] (spCountOf K) := by
  refine F.ok scCountOf (fun vs H Q E h => ?_) (fun cdv A outer s H vs Q E hr h => ?_)
  · obtain ⟨t, m, rs, rfl, _⟩ := h
    rfl
  · obtain ⟨t, m, rs, rfl, m2, ⟨tw, tm, sts, ra, ht, hw, hm, hrows, st, cl⟩, q⟩ := h
    refine ⟨_, PSs.nox (C8.pss_cut (ps_asg (pv 0) (pg_tup rfl (pgs_cons (pg_name (i := 2) scCountOf.nd rfl (.inr rfl)) (pgs_cons (pg_name (i := 3) scCountOf.nd rfl (.inl rfl)) pgs_nil))))
      (C8.pss_cut (ps_set (i := 4) scCountOf.nd rfl (.inr rfl) (pe_disp (pps_cons pe_int pe_int pps_nil) rfl rfl (by simp) (by decide)))
      (C8.pss_cut (ps_for PassesOwn.never rfl (pi_range1 (by rfl) mrange (pa_cons (pv 1) pa_nil)) (pg_name (i := 5) scCountOf.nd rfl (.inl rfl))
        (pss_one (ps_set (i := 4) scCountOf.nd rfl (.inr rfl) (pe_call FC hr (by rfl) gC kC bC .nil pass0 (pa_cons (pv 3) (pa_cons (pv 4) pa_nil))))))
      (pss_one (ps_ret (pe_lock (pe_callB (cr_sum rfl) (by rfl) msum (by decide +kernel) (pa_cons (pe_lc (own := [("state", 6)]) (g := gName 6)
          (tt := tB (tOp (rIxT K) (tVar 2) (tVar 6))) (te := tDGet (tVar 4) (tVar 6)) rfl scCountOf.nd (pi_keys (pv 4)) (blkOk_by (N := ["reader", "many", "wholes", "moves", "counts", "_", "state"]) (sc := defScope (top iCountOf)) (by decide +kernel))
        (fun _ _ _ _ _ => pg_name (i := 6) scCountOf.nd rfl (Or.inl rfl)) (fun _ _ _ _ _ => pts_one (pt_val (pe_ix ix_tup (pv 2) (pv 6) (fun _ _ => rfl)))) (fun _ _ _ _ _ => pe_dget (hu_of hr) (pv 4) (pv 6) (fun _ _ => rfl))) pa_nil)))))))), ?_⟩
    have few : sts.length ≤ 1048576 := states_few st.nd st.sub
    have sl : sizeLine = 16777216 := sizeLine_eq
    refine ⟨fun σ' H' => σ' = [some (.ref t), some (.int (m : Nat)), some (.ref tw), some (.ref tm), none, none, none] ∧ H' = H, ?_, ?_⟩
    · exact ⟨_, rfl, t, _, rfl, .of ht, rfl, _, _, rfl, _, _, rfl, rfl, rfl, rfl⟩
    rintro σ1 H1 ⟨rfl, rfl⟩
    refine ⟨fun σ' H' => ∃ c, σ' = [some (.ref t), some (.int (m : Nat)), some (.ref tw), some (.ref tm), some (.ref c), none, none] ∧ Same H1 H' ∧ H' c = some (.dK (dC (itC rs sts 0))), ?_, ?_⟩
    · exact fun c nc => ⟨upd_same, [(.inl 0, .int 1)], rfl, by decide, c, rfl, fun y o z => by
        have ny : y ≠ c := fun q => by rw [q, nc] at z; cases z
        rw [upd_ne ny]
        exact same_upd nc _ _ z, upd_same⟩
    rintro σ2 H2 ⟨c0, rfl, s2, e2⟩
    refine ⟨fun σ' H' => ∃ c x5, σ' = [some (.ref t), some (.int (m : Nat)), some (.ref tw), some (.ref tm), some (.ref c), x5, none] ∧ Same H1 H' ∧ H' c = some (.dK (dC (itC rs sts m))), ?_, ?_⟩
    · refine ⟨_, rfl, _, rfl, by omega, by omega, for_it (walk_range (lo := 0) (n := ((m : Nat) : Int).toNat)) (fun i σ' H' => ∃ c x5, σ' = [some (.ref t), some (.int (m : Nat)), some (.ref tw), some (.ref tm), some (.ref c), x5, none] ∧ Same H1 H' ∧ H' c = some (.dK (dC (itC rs sts i))))
        ⟨c0, none, rfl, s2, e2⟩ (fun _ _ _ _ _ => trivial) (fun i x σ' H' H'' hi hP hY => ?_) (fun σ' H' hP => ?_)⟩
      · obtain ⟨c, x5, rfl, s', e'⟩ := hP
        obtain ⟨rfl, rfl⟩ := hY
        refine ⟨_, rfl, _, rfl, tm, c, rs, sts, ra, itC rs sts i, rfl, RowsAt.same ⟨hm, hrows⟩ s', st, cl, e', itC_ok st cl i, fun H3 d s3 nd e3 => ?_⟩
        exact ⟨d, _, rfl, s'.trans s3, e3⟩
      · rw [show ((m : Nat) : Int).toNat = m by omega] at hP
        exact hP
    rintro σ3 H3 ⟨c, x5, rfl, s3, e3⟩
    have okI := itC_ok st cl m
    have lenI := okI.len
    refine ⟨c, _, e3, trivial, fun od => ⟨_, rfl, c, od, rfl, .inl ⟨_, upd_same, fun D nD => ?_⟩⟩⟩
    have Dc : D ≠ c := fun z => by rw [z, upd_same] at nD; cases nD
    have nD3 : H3 D = none := by rw [upd_ne Dc] at nD; exact nD
    refine lc_it (walk_keys (kvs := dC (itC rs sts m))) (fun i H' => Lk H3 H' c od (.dK (dC (itC rs sts m))) ∧ H' D = some (.lst ((sumC rs sts ((itC rs sts m).take i)).map V.int))) ⟨⟨(upd_ne Dc.symm).trans upd_same, fun y o ny z => (upd_ne fun q => by rw [q, nD3] at z; cases z).trans ((upd_ne ny).trans z)⟩, upd_same⟩ (fun i H' _ hP => hP.1.lk) (fun i x H' H'' hi hP hY => ?_) (fun H' hP => ?_)
    · obtain ⟨l, e⟩ := hP
      obtain ⟨rfl, kk, v, hk, rfl⟩ := hY
      have hi2 : i < (itC rs sts m).length := by unfold dC at hi; rw [List.length_map] at hi; exact hi
      have hk0 : (dC (itC rs sts m))[i]? = some (.inl (((itC rs sts m)[i].1 : Nat) : Int), .int (((itC rs sts m)[i].2 : Nat) : Int)) := by
        unfold dC
        rw [List.getElem?_map, List.getElem?_eq_getElem hi2]; rfl
      rw [hk0] at hk
      obtain ⟨rfl, rfl⟩ : _ ∧ _ := ⟨(Prod.mk.inj (Option.some.inj hk)).1, (Prod.mk.inj (Option.some.inj hk)).2⟩
      have lt := okI.lt _ (List.getElem_mem hi2)
      have tk : (itC rs sts m).take (i + 1) = (itC rs sts m).take i ++ [(itC rs sts m)[i]] := by rw [List.take_succ, List.getElem?_eq_getElem hi2]; rfl
      rw [tk, sumC_snoc]
      have gv : valV (dC (itC rs sts m)) (.inl (((itC rs sts m)[i].1 : Nat) : Int)) = some (.int (((itC rs sts m)[i].2 : Nat) : Int)) := by
        have g1 := getC_of okI.nd (List.getElem_mem hi2)
        rw [valV_dC]
        unfold getC at g1
        cases z : (itC rs sts m).find? fun kv => decide (kv.1 = (itC rs sts m)[i].1) with
        | none => exact absurd (show decide ((itC rs sts m)[i].1 = (itC rs sts m)[i].1) = true from decide_eq_true rfl) (List.find?_eq_none.mp z _ (List.getElem_mem hi2))
        | some kv => rw [z] at g1; rw [← g1]; rfl
      generalize hkv : (itC rs sts m)[i] = kv at lt gv
      obtain ⟨j, n⟩ := kv
      have lt : j < sts.length := lt
      have ep : sts.getD j [] = sts[j] := by rw [List.getD_eq_getElem?_getD, List.getElem?_eq_getElem lt]; rfl
      have acl : (sumC rs sts ((itC rs sts m).take i)).length ≤ i := by
        unfold sumC
        rw [List.length_map]
        exact Nat.le_trans (List.length_filter_le _ _) (by rw [List.length_take]; omega)
      have cw : tw ≠ c := fun z => by
        have := s3 _ _ hw
        rw [z, e3] at this
        cases this
      refine ⟨rfl, _, rfl, _, rfl, tw, _, _, _, rfl, rfl, .of (l.st tw _ cw (s3 _ _ hw)), atI_nat (v := .bl (decide ((rs.length, 0) ∈ sts[j]))) (by rw [List.getElem?_map, List.getElem?_eq_getElem lt]; rfl), _, rfl, ?_⟩
      rw [show ((j, n) : Nat × Nat).1 = j from rfl, show ((j, n) : Nat × Nat).2 = n from rfl, ep]
      refine ite2 (fun hb => ?_) (fun hb => ?_)
      · refine ⟨_, rfl, _, rfl, c, _, rfl, .inl ⟨_, _, .inr ⟨od, l.lk⟩, rfl, gv.symm⟩, _, e, by rw [List.length_map]; omega, ⟨by rw [upd_ne Dc.symm]; exact l.lk, fun y o ny z => by rw [upd_ne fun q => by rw [q, nD3] at z; cases z]; exact l.st y o ny z⟩, ?_⟩
        rw [upd_same, if_pos hb, List.map_append]
        rfl
      · rw [if_neg hb, List.append_nil]
        exact ⟨l, e⟩
    · obtain ⟨l, e⟩ := hP
      rw [show (dC (itC rs sts m)).length = (itC rs sts m).length by unfold dC; rw [List.length_map], List.take_length] at e
      refine ⟨D, _, rfl, .inl (.of e), l.lk, ?_⟩
      rw [sumC_eq, wsum_it st cl m (f := whole rs) rfl, tsum_cnt]
      exact q _ (s3.trans (l.open e3))
end
end K0
end
/-! ### CM -/
section
set_option Elab.async false
set_option linter.all false
set_option maxRecDepth 100000
set_option maxHeartbeats 4000000
/-! Hole.count. -/
namespace K0
open PySem PySem.Spec PyProof.Rows L2 Rd DN StX
theorem scHCount : FnScope ["self", "many"] ["self", "many"] (defScope (hrow 5)) := ⟨rfl, rfl, rfl, by decide +kernel, rfl, by decide +kernel, by decide +kernel⟩
abbrev runsD (ds : List PyData) : List RunD := ds.map runD
/-- a number of signs from 0 to 200: the count; else InvalidNumber, which keeps it -/
def spHCount (K : PySem.W.Frag) (CH CN : Addr) : Sp := fun vs H Q E => ∃ (x : Addr) (u : V) (ds : List PyData) (e : PyData), vs = [.ref x, u] ∧ HoleAt K CH H x ds ∧ Dv K H u e ∧
  (isNumD 0 200 e = true → ∀ H', Same H H' → Q (.int (cnt sgs (runsD ds) (numD e) : Nat)) H') ∧ (isNumD 0 200 e = false → ∀ H' dd, Same H H' → H' dd = some (exd dd [("value", u)]) → E (.ref CN) (some dd) H')
section
variable {P : Program} {w : World} {K : PySem.W.Frag} {mg : Str → Option Value} {base : Heap} {f fN fC fI CH CN : Addr} {fd fdN fdC fdI : FuncData} {B newId initId : String} {bmB : List Value}
theorem ok_hcount {k : Nat} (F : HrP K "count" "Hole.count" 5 f fd) (T : HoleM K CH) (nd : NoAttr K CH "_reader") (mM : ∃ t, mg "MAX_COUNTED" = some (.int 200 t))
    (FN : FnOk P w K mg base CX0 (k + 2) fN fdN ["value", "low", "high"] (spNum K)) (gN : mg "is_number" = some (.ref fN)) (kN : PySem.W.keepIn K (.ref fN) = true) (bN : Binds K fdN ["value", "low", "high"] [])
    (FC : FnOk P w K mg base CX0 (k + 2) fC fdC ["reader", "many"] (spCountOf K)) (gC : mg "count_of" = some (.ref fC)) (kC : PySem.W.keepIn K (.ref fC) = true) (bC : Binds K fdC ["reader", "many"] [])
    (gE : mg "InvalidNumber" = some (.ref CN)) (xi : XI K CN fI B newId initId bmB "value") (xN : XF K CN) (FI : FnOk P w K mg base CX0 1 fI fdI ["self", "value"] (spIniX CN "value")) (bI : Binds K fdI ["self", "value"] []) :
    FnOk P w K mg base (L2.CX P w) (k + 3) f fd ["self", "many"] (spHCount K CH CN) := by
  obtain ⟨tM, mM⟩ := mM
  refine F.ok scHCount (fun vs H Q E h => ?_) (fun cdv A outer s H vs Q E hr h => ?_)
  · obtain ⟨x, u, ds, e, rfl, _⟩ := h
    rfl
  · obtain ⟨x, u, ds, e, rfl, ⟨dx, p, t, xs, h1, h2, h3, h4, h5⟩, hu, good, bad⟩ := h
    refine ⟨_, pss_cons (ps_if (pt_not (pt_val (pe_call FN hr (by rfl) gN kN bN .nil pass0 (pa_cons (pv 1) (pa_cons pe_int (pa_cons (pe_glob (v := .int 200) (by rfl) mM ⟨tM, rfl⟩) pa_nil))))))
        (pss_one (ps_raise rfl (takes_of rfl rfl rfl rfl) (pmk_exo rfl (pe_mkI (C := CN) xi xN FI (hr.mono (by omega)) bI (by rfl) gE (pv 1))))) pss_nil)
      (pss_one (ps_ret (pe_call FC hr (by rfl) gC kC bC .nil pass0 (pa_cons (pe_fld (pv 0) rfl) (pa_cons (pv 1) pa_nil))))), ?_⟩
    refine ⟨_, rfl, u, e, 0, 200, rfl, hu, _, rfl, ?_⟩
    cases hb : isNumD 0 200 e with
    | false =>
      exact ite2 (fun _ => ⟨u, rfl, fun H' a dx s na nd ne' ea ed => ⟨a, CN, some dx, rfl, ea, na, raises_own xN.hsub xN.ty, bad hb _ dx (same_off s na) (by rw [delH_ne ne']; exact ed)⟩⟩) fun z => absurd rfl z
    | true =>
      refine ite2 (fun z => by cases z) fun _ => ?_
      match e, hb, hu with
      | .int i, hb, hu =>
        have hb' : (decide (0 ≤ i) && decide (i ≤ 200)) = true := hb
        rw [Bool.and_eq_true, decide_eq_true_iff, decide_eq_true_iff] at hb'
        cases hu with
        | int =>
          refine ⟨_, rfl, x, CH, dx, _, _, rfl, h1, T.cl, nd, rfl, _, rfl, t, i.toNat, ds.map runD, ?_, by omega, h4, fun H' s => good hb H' s⟩
          show [V.ref t, V.int i] = _
          rw [show ((i.toNat : Nat) : Int) = i by omega]
end
end K0
end
/-! ### BB -/
section
set_option Elab.async false
set_option linter.all false
set_option maxRecDepth 100000
set_option maxHeartbeats 4000000
/-! Hole.barred. -/
namespace K0
open PySem PySem.Spec PyProof.Rows L2 Rd DN StX
theorem scHBarred : FnScope ["self", "signs", "left"] ["self", "signs"] (defScope (hrow 6)) := ⟨rfl, rfl, rfl, by decide +kernel, rfl, by decide +kernel, by decide +kernel⟩
def spHBarred (K : PySem.W.Frag) (CH CO : Addr) : Sp := fun vs H Q E => ∃ (x t : Addr) (ds : List PyData) (b : List Nat), vs = [.ref x, .ref t] ∧ HoleAt K CH H x ds ∧ SqT K H t (b.map oneV) ∧ b.Pairwise (· < ·) ∧ (∀ c ∈ b, c ∈ sgs') ∧
  (gone b (runsD ds) = false → barL b (runsD ds) ≠ [] → ∀ H' y, Same H H' → H y = none → HoleAt K CH H' y ((barL b (runsD ds)).map dataR) → Q (.ref y) H') ∧ ((gone b (runsD ds) = true ∨ barL b (runsD ds) = []) → ∀ H', Same H H' → E (.ref CO) none H')
theorem ps_deadK {X : Cx} {st : Stmt} : PS X st (fun _ _ _ => False) := ⟨fun _ _ _ _ _ _ h => h.elim⟩
theorem bulk_one (c : Nat) : (PyData.str (oneS c)).bulk = 1 := rfl
section
variable {P : Program} {w : World} {K : PySem.W.Frag} {mg : Str → Option Value} {base : Heap} {f fS fW fN CH CE CO : Addr} {fd fdS fdW : FuncData}
theorem ok_hbarred {k : Nat} (F : HrP K "barred" "Hole.barred" 6 f fd) (T : HoleM K CH) (M : Mk K CH fN) (gH : mg "Hole" = some (.ref CH))
    (FS : FnOk P w K mg base CX0 (k + 4) fS fdS ["value"] (spD K areSignsD)) (gS : mg "are_signs" = some (.ref fS)) (kS : PySem.W.keepIn K (.ref fS) = true) (bS : Binds K fdS ["value"] [])
    (FW : FnOk P w K mg base (L2.CX P w) (k + 4) fW fdW ["runs", "signs"] (spWithout K CO)) (gW : mg "runs_without" = some (.ref fW)) (kW : PySem.W.keepIn K (.ref fW) = true) (bW : Binds K fdW ["runs", "signs"] [])
    (FN : FnR P w K mg base (L2.CX P w) (k + 4) fN (fun vs H Q E => ∃ ws rest, vs = ws ++ rest ∧ ws.length = 1 ∧ rest.length ≤ sizeLine ∧ ∀ p, H p = Option.none → spInit K CH CE (ws ++ [V.ref p]) (upd H p (.tup rest)) Q E)) :
    FnOk P w K mg base (L2.CX P w) (k + 6) f fd ["self", "signs"] (spHBarred K CH CO) := by
  refine F.ok scHBarred (fun vs H Q E h => ?_) (fun cdv A outer s H vs Q E hr h => ?_)
  · obtain ⟨x, t, ds, b, rfl, _⟩ := h
    rfl
  · obtain ⟨x, t, ds, b, rfl, ⟨dx, p, tr, xs, h1, h2, h3, h4, h5⟩, hb, asc, sub, good, bad⟩ := h
    refine ⟨_, pss_cons (ps_if (pt_not (pt_val (pe_call FS (hr.mono (by omega)) (by rfl) gS kS bS .nil pass0 (pa_cons (pv 1) pa_nil)))) (pss_one ps_deadK) pss_nil)
      (C8.pss_cut (ps_set (i := 2) scHBarred.nd rfl (.inl rfl) (pe_call FW (hr.mono (by omega)) (by rfl) gW kW bW .nil (passes_call (takes_of rfl rfl rfl rfl) (fun _ _ _ _ z => z)) (pa_cons (pe_fld (pv 0) rfl) (pa_cons (pv 1) pa_nil))))
      (pss_one (ps_ret (pe_makeLS (E := E) (pe_glob (v := .ref CH) (by rfl) gH rfl) M FN hr (passes_call (takes_of rfl rfl rfl rfl) (fun _ _ _ _ z => z)) (pv 2))))), ?_⟩
    have sl : sizeLine = 16777216 := sizeLine_eq
    have blen : b.length ≤ 15 := nodup_len (asc.imp fun h => Nat.ne_of_lt h) (m := sgs') fun z hz => sub z hz
    have sg : (b.map fun c => PyData.str (oneS c)).all isSignD = true := signs_of sub
    have ar : areSignsD (.tuple (b.map fun c => .str (oneS c))) = true := by
      rw [are_asc sg, List.map_map, show ((sgD ∘ fun c => PyData.str (oneS c)) : Nat → Nat) = id from rfl, List.map_id]
      exact decide_eq_true asc
    have bu : PyData.bulk (.tuple (b.map fun c => .str (oneS c))) ≤ 100000 := by
      show PyData.bulkAll _ ≤ _
      rw [bulk_ones]
      omega
    have hall : ds.all isRunD = true := hole_runs h5
    have rok := runs_data hall
    have r4 : (runsD ds).length ≤ 4 := (hole_good h3 h5).len
    have xlen := h3.length
    refine ⟨_, rfl, .ref t, _, rfl, .tup hb (dv_ones b), bu, fun H1 s1 => ⟨_, rfl, ?_⟩⟩
    rw [ar]
    refine ite2 (fun z => by cases z) fun _ => ?_
    refine ⟨fun σ' H' => ∃ l ys, σ' = [some (.ref x), some (.ref t), some (.ref l)] ∧ Same H H' ∧ H' l = some (.lst ys) ∧ gone b (runsD ds) = false ∧ barL b (runsD ds) ≠ [] ∧ DvAll K H' ys ((barL b (runsD ds)).map dataR), ?_, ?_⟩
    · refine ⟨_, rfl, x, CH, dx, _, _, rfl, s1 _ _ h1, T.cl, T.nr, rfl, _, rfl, p, t, xs, runsD ds, b, rfl, same_tup s1 h2, pairedI (runs_at h3 hall).1 fun _ _ z => z.same s1, r4, rok.1, same_tup s1 hb, fun g0 ne H' l ys s2 nl el dv => ⟨l, ys, rfl, s1.trans s2, el, g0, ne, dv⟩, fun z H' s2 => bad z H' (s1.trans s2)⟩
    · rintro σ2 H2 ⟨l, ys, rfl, s2, el, g0, ne, dv⟩
      have yl := dv.length
      rw [List.length_map] at yl
      have bl := bar_len (b := b) (runsD ds)
      have okb := bars_ok (b := b) rok.1
      have hD : holeD ((barL b (runsD ds)).map dataR) = true := holeD_of okb ne (by omega)
      refine ⟨rfl, _, rfl, l, ys, rfl, .inr (.of el), fun y dy ny ndy nne => ⟨[.ref y], ys, rfl, rfl, by omega, fun q nq => ?_⟩⟩
      have s0 : Same H2 (upd (upd H2 dy (.own y)) y (.ins CH dy [])) := fun z o u => by
        rw [upd_ne (ne_of_none u ny), upd_ne (ne_of_none u ndy)]
        exact u
      have s3 := s0.trans (same_upd nq (o := .tup ys))
      have yq : y ≠ q := ne_of_none upd_same nq
      refine ⟨y, dy, q, ys, _, rfl, by rw [upd_ne yq, upd_same], .of upd_same, DvAll.same s3 _ _ dv, by
        have z1 : PyData.bulkAll ((barL b (runsD ds)).map dataR) ≤ 1001 * (barL b (runsD ds)).length := bulk_runs okb
        omega, fun _ H' tt s4 nt rd => ⟨rfl, ?_⟩, fun no => by rw [hD] at no; cases no⟩
      · have hy' : H' y = some (.ins CH dy []) := s4 _ _ (by rw [upd_ne yq, upd_same])
        have s5 : Same H2 (upd H' y (.ins CH dy [("_runs", .ref q), ("_reader", .ref tt)])) := fun z o u => by
          rw [upd_ne (ne_of_none u ny)]
          exact s4 _ _ (s3 _ _ u)
        refine good g0 ne _ y (s2.trans s5) (none_back s2 ny) ⟨dy, q, tt, ys, upd_same, .of ?_, DvAll.same s5 _ _ dv, rd.keep fun z o u ho => ?_, hD⟩
        · rw [upd_ne yq.symm]
          exact s4 _ _ upd_same
        · rw [upd_ne (fun e => by
            rw [e, hy'] at u
            rcases ho with ⟨_, rfl⟩ | ⟨_, rfl⟩
            · cases u
            · cases u)]
          exact u
end
end K0
end
/-! ### LP -/
section
set_option Elab.async false
set_option linter.all false
set_option maxRecDepth 100000
set_option maxHeartbeats 4000000
/-! _law_power, _law_of_run. -/
namespace K0
open PySem PySem.Spec PyProof.Rows L2 Rd DN StX
theorem scPower : FnScope ["base", "size", "found", "turn"] ["base", "size"] (defScope (top iLPower)) := ⟨rfl, rfl, rfl, by decide +kernel, rfl, by decide +kernel, by decide +kernel⟩
def spPower : Sp := fun vs H Q _ => ∃ (b n : Nat), vs = [.int (b : Nat), .int (n : Nat)] ∧ n ≤ 100000 ∧ b ≤ 1000 ∧ Q (.int ((b ^ n : Nat) : Int)) H
theorem scOfRun : FnScope ["run", "size", "high"] ["run", "size"] (defScope (top iLOfRun)) := ⟨rfl, rfl, rfl, by decide +kernel, rfl, by decide +kernel, by decide +kernel⟩
def spOfRun (K : PySem.W.Frag) : Sp := fun vs H Q _ => ∃ (v : V) (r : RunD) (m : Nat), vs = [v, .int (m : Nat)] ∧ RunAt K H v r ∧ m ≤ 1000 ∧ r.signs.length ≤ 1000 ∧ Q (.int ((ofRun r m : Nat) : Int)) H
section
variable {P : Program} {w : World} {K : PySem.W.Frag} {mg : Str → Option Value} {base : Heap} {f fP : Addr} {fd fdP : FuncData}
theorem ok_power {k : Nat} (F : FnP K "_law_power" iLPower f fd) (mrange : mg "range" = none) : FnOk P w K mg base CX0 (k + 1) f fd ["base", "size"] spPower := by
  refine F.ok scPower (fun vs H Q E h => ?_) (fun cdv A outer s H vs Q E hr h => ?_)
  · obtain ⟨b, n, rfl, _⟩ := h
    rfl
  · obtain ⟨b, n, rfl, n1, b1, q⟩ := h
    refine ⟨_, PSs.nox (pss_cons (ps_set (i := 2) scPower.nd rfl (.inl rfl) pe_int) (C8.pss_cut (ps_for PassesOwn.never rfl (pi_range1 (by rfl) mrange (pa_cons (pv 1) pa_nil)) (pg_name (i := 3) scPower.nd rfl (.inl rfl))
        (pss_one (ps_set (i := 2) scPower.nd rfl (.inl rfl) (pe_op op_mul (pv 2) (pv 0))))) (pss_one (ps_ret (pv 2))))), ?_⟩
    refine ⟨fun σ' H' => ∃ x3, σ' = [some (.int (b : Nat)), some (.int (n : Nat)), some (.int ((b ^ n : Nat) : Int)), x3] ∧ H' = H, ?_, ?_⟩
    · refine ⟨_, rfl, _, rfl, by omega, by omega, for_it (walk_range (lo := 0) (n := ((n : Nat) : Int).toNat)) (fun i σ' H' => ∃ x3, σ' = [some (.int (b : Nat)), some (.int (n : Nat)), some (.int ((b ^ i : Nat) : Int)), x3] ∧ H' = H) ⟨none, rfl, rfl⟩ (fun _ _ _ _ _ => trivial) (fun i x σ' H' H'' hi hP hY => ?_) (fun σ' H' hP => ?_)⟩
      · obtain ⟨x3, rfl, rfl⟩ := hP
        obtain ⟨rfl, rfl⟩ := hY
        refine ⟨_, rfl, _, rfl, _, _, rfl, rfl, .inr ⟨by omega, by omega⟩, some (V.int (0 + (i : Int))), ?_, rfl⟩
        rw [Nat.pow_succ, show ((b ^ i * b : Nat) : Int) = ((b ^ i : Nat) : Int) * ((b : Nat) : Int) from Int.natCast_mul _ _]
        rfl
      · rw [show ((n : Nat) : Int).toNat = n by omega] at hP
        exact hP
    · rintro σ1 H1 ⟨x3, rfl, rfl⟩
      exact ⟨_, rfl, q⟩
theorem ok_ofRun {k : Nat} (F : FnP K "_law_of_run" iLOfRun f fd) (mlen : mg "len" = none)
    (FP : FnOk P w K mg base CX0 (k + 1) fP fdP ["base", "size"] spPower) (gP : mg "_law_power" = some (.ref fP)) (kP : PySem.W.keepIn K (.ref fP) = true) (bP : Binds K fdP ["base", "size"] []) : FnOk P w K mg base CX0 (k + 2) f fd ["run", "size"] (spOfRun K) := by
  refine F.ok scOfRun (fun vs H Q E h => ?_) (fun cdv A outer s H vs Q E hr h => ?_)
  · obtain ⟨v, r, m, rfl, _⟩ := h
    rfl
  · obtain ⟨v, r, m, rfl, ⟨a, sg, rfl, hT, hS⟩, m1, sf, q⟩ := h
    refine ⟨_, PSs.nox (pss_cons (ps_set (i := 2) scOfRun.nd rfl (.inl rfl) (pe_ifExp (pt_cmp (pc_isN (pe_ix ix_tup (pv 0) pe_int (fun _ _ => rfl)))) (pv 1) (pe_ix ix_tup (pv 0) pe_int (fun _ _ => rfl))))
      (pss_one (ps_ret (pe_ifExp (pt_chain op_le op_le (pe_ix ix_tup (pv 0) pe_int (fun _ _ => rfl)) (pv 1) (pv 2)) (pe_call FP hr (by rfl) gP kP bP .nil pass0 (pa_cons (pe_callB call_len_seq (by rfl) mlen PySem.boot_len (pa_cons (pe_ix ix_tup (pv 0) pe_int (fun _ _ => rfl)) pa_nil)) (pa_cons (pv 1) pa_nil))) pe_int)))), ?_⟩
    refine ⟨_, rfl, a, _, _, _, rfl, rfl, hT, rfl, ?_⟩
    refine ⟨_, rfl, ?_⟩
    have s15 : r.signs.length ≤ 1000 := sf
    cases hh : r.high with
    | none =>
      refine ite2 (fun _ => ?_) (fun z => absurd rfl z)
      rw [hh] at hT
      refine ⟨_, rfl, ?_⟩
      refine ⟨_, rfl, a, _, _, _, rfl, rfl, hT, rfl, _, rfl, _, _, rfl, rfl, _, rfl, ?_⟩
      have hiff : (∀ h, r.high = some h → m ≤ h) ↔ m ≤ m := ⟨fun _ => Nat.le_refl _, fun _ h z => by rw [hh] at z; cases z⟩
      refine ite2 (fun hlo => ?_) (fun hlo => ?_)
      · have lo : r.low ≤ m := by
          have := of_decide_eq_true hlo
          omega
        refine ⟨_, rfl, _, _, rfl, rfl, _, rfl, ite2 (fun hh2 => ?_) (fun hh2 => ?_)⟩
        · have le : m ≤ m := by
            have := of_decide_eq_true hh2
            omega
          have e : ofRun r m = r.signs.length ^ m := by
            unfold ofRun
            rw [if_pos ⟨lo, hiff.mpr le⟩]
          rw [e] at q
          refine ⟨_, rfl, a, _, _, _, rfl, rfl, hT, rfl, sg, _, rfl, .inr hS, _, rfl, r.signs.length, m, by rw [List.length_map]; rfl, by omega, sf, q⟩
        · have le : ¬ m ≤ m := fun z => hh2 (decide_eq_true (by omega))
          have e : ofRun r m = 0 := by
            unfold ofRun
            rw [if_neg fun z => le (hiff.mp z.2)]
          rw [e] at q
          exact q
      · have lo : ¬ r.low ≤ m := fun z => hlo (decide_eq_true (by omega))
        have e : ofRun r m = 0 := by
          unfold ofRun
          rw [if_neg fun z => lo z.1]
        rw [e] at q
        exact ⟨_, rfl, ite2 (fun z => by cases z) fun _ => q⟩
    | some h =>
      refine ite2 (fun z => by cases of_decide_eq_true z) (fun _ => ?_)
      rw [hh] at hT
      refine ⟨_, rfl, a, _, _, _, rfl, rfl, hT, rfl, ?_⟩
      refine ⟨_, rfl, a, _, _, _, rfl, rfl, hT, rfl, _, rfl, _, _, rfl, rfl, _, rfl, ?_⟩
      have hiff : (∀ h, r.high = some h → m ≤ h) ↔ m ≤ h := ⟨fun z => z h hh, fun z x e => by rw [hh] at e; cases e; exact z⟩
      refine ite2 (fun hlo => ?_) (fun hlo => ?_)
      · have lo : r.low ≤ m := by
          have := of_decide_eq_true hlo
          omega
        refine ⟨_, rfl, _, _, rfl, rfl, _, rfl, ite2 (fun hh2 => ?_) (fun hh2 => ?_)⟩
        · have le : m ≤ h := by
            have := of_decide_eq_true hh2
            omega
          have e : ofRun r m = r.signs.length ^ m := by
            unfold ofRun
            rw [if_pos ⟨lo, hiff.mpr le⟩]
          rw [e] at q
          refine ⟨_, rfl, a, _, _, _, rfl, rfl, hT, rfl, sg, _, rfl, .inr hS, _, rfl, r.signs.length, m, by rw [List.length_map]; rfl, by omega, sf, q⟩
        · have le : ¬ m ≤ h := fun z => hh2 (decide_eq_true (by omega))
          have e : ofRun r m = 0 := by
            unfold ofRun
            rw [if_neg fun z => le (hiff.mp z.2)]
          rw [e] at q
          exact q
      · have lo : ¬ r.low ≤ m := fun z => hlo (decide_eq_true (by omega))
        have e : ofRun r m = 0 := by
          unfold ofRun
          rw [if_neg fun z => lo z.1]
        rw [e] at q
        exact ⟨_, rfl, ite2 (fun z => by cases z) fun _ => q⟩
end
end K0
end
/-! ### E6 -/
section
set_option Elab.async false
set_option linter.all false
set_option maxRecDepth 100000
set_option maxHeartbeats 4000000
/-! bools.index(True, 1); a field of an exception, tracked or caught; repr in a suite. -/
namespace K0
open PySem PySem.Spec PyProof.Rows L2
theorem bools_at : ∀ {bs : List Bool} {us : List Value} {i : Nat} (h : i < us.length), Vals (bs.map V.bl) us → us[i] = .bool (bs.getD i false)
  | [], us, _, h, r => by cases r; exact absurd h (Nat.not_lt_zero _)
  | b :: bs, _, 0, h, r => by cases r with | cons r1 r2 => cases r1; rfl
  | b :: bs, _, i + 1, h, r => by cases r with | cons r1 r2 => exact bools_at (bs := bs) (i := i) (Nat.lt_of_succ_lt_succ h) r2
def rIx1 (K : PySem.W.Frag) : V → List V → Hp → VK → Prop := fun x xs H Q => ∃ (a : Addr) (bs : List Bool) (j : Nat), x = .ref a ∧ xs = [.bl true, .int 1] ∧ SqL K H a (bs.map V.bl) ∧ j < bs.length ∧ 1 ≤ j ∧ bs.getD j false = true ∧ (∀ m, 1 ≤ m → m < j → bs.getD m false = false) ∧ Q (.int (j : Nat)) H
theorem mt_index1 {X : Cx} : MtR X "list.index" (rIx1 X.K) := by
  intro pins s σ H x xs v us Q I rx rxs h
  obtain ⟨a, bs, j, rfl, rfl, hs, hj, j1, hit, hno, q⟩ := h
  cases rx
  obtain ⟨u1, u2, rfl, r1, r2⟩ := vals2 rxs
  cases r1
  obtain ⟨t, rfl⟩ := r2
  obtain ⟨its, rv, ⟨⟨cls, dd, data, sl⟩, n, ho, hc, hdn, hd⟩, hlen⟩ := I.list hs
  simp only at hc hd
  subst hc hd
  have hl := rv.length
  rw [List.length_map] at hl
  rw [List.length_map, sizeLine_eq] at hlen
  have eqs : ∀ m (hm : m < its.toArray.size), its.toArray[m] = .bool (bs.getD m false) := fun m hm => by
    have z := bools_at (i := m) (by simpa using hm) rv
    simpa using z
  refine call_meets PySem.F.slot_list_index ⟨_, ho, rfl⟩ PySem.F.entry_list_index (PySem.F.args_list_index_3 _ _ _) (SeqAt.list_index3_found a its.toArray n dd sl (.bool true) (fun m => bs.getD m false) 1 t j (by simpa using (show j < its.length by omega)) ?_ ?_ hit ?_) ⟨ho, fun m hm => ?_, ?_⟩
  · rw [SeqAt.searchFrom_nonneg (by decide)]
    exact j1
  · have e2 : (2 : Int) ^ 63 = 9223372036854775808 := by decide
    omega
  · intro m hm h1 h2
    rw [SeqAt.searchFrom_nonneg (by decide)] at h1
    exact hno m h1 h2
  · rw [eqs m hm]
    have z := SeqAt.EqAt.bool_bool (A := X.A.in1) (s := s) (bs.getD m false) true
    have e : (bs.getD m false == true) = bs.getD m false := by cases bs.getD m false <;> rfl
    rw [e] at z
    exact z
  · exact ⟨.int (j : Nat), H, I.tok _, ⟨_, rfl⟩, q⟩
section
variable {X : Cx} {C : Addr} {e : Expr} {te : TE} {pos : Pos} {n : Str}
/-- e.n, e caught and pinned -/
def tXfP (p : Addr × Obj) (C : Addr) (n : Str) (te : TE) : TE := fun σ H Q => te σ H fun x H1 => ∃ (dd : Addr) (fs : List (Str × V)) (v : V), x = .ref p.1 ∧ Zc (.ref C) (some dd) p.2 ∧ (∃ us, p.2.data = .fields us) ∧ H1 dd = some (exd dd fs) ∧ fs.lookup n = some v ∧ Q v H1
theorem pe_xfP {p : Addr × Obj} (hp : p ∈ X.pn) (f : XF X.K C) (no : PySem.W.findIn X.K (.ref C) n = some none) (he : PE X e te) (hb : attributeBase e n X.env (eval e X.env) = eval e X.env := by rfl) : PE X (.Attribute e n pos) (tXfP p C n te) := by
  refine ⟨fun pins s σ H Q I h => attr_of hb (thn (he.run pins s σ H _ I h) fun u s1 ⟨x, H1, I1, rx, dd, fs, v, ex, hz, ⟨us, hv⟩, ed, l, q⟩ => ?_)⟩
  subst ex
  obtain rfl : u = Value.ref p.1 := rx
  obtain ⟨ho, _⟩ := I1.pin p (List.mem_append_left _ hp)
  obtain ⟨mA, hns, hr⟩ := exd_at I1.hok ed
  obtain ⟨od, hod, hl⟩ := lookIn_ns hns
  obtain ⟨u, hu, ru⟩ := RelO.some_of (v := v) (o := mA n) (by rw [← l]; exact hr n)
  exact HandSPX.exc_get I1.kIn (od := some od) ⟨ho, hz.1, by unfold PySem.W.notCls; rw [hv] <;> rfl, by rw [hz.2]; exact hod⟩ f.hga f.hgt f.hsub (PySem.W.findObj_own f.hd no rfl (by rw [hl, hu])) (handed_of ru) ⟨v, H1, I1.tok _, ru, q⟩
end
end K0
end
/-! ### LT4 -/
section
set_option Elab.async false
set_option linter.all false
set_option maxRecDepth 100000
set_option maxHeartbeats 4000000
/-! _law_told, _law_less. -/
namespace K0
open PySem PySem.Spec PyProof.Rows L2 Rd DN StX
theorem scTold4 : FnScope ["made", "size", "e"] ["made", "size"] (defScope (top iLTold)) := ⟨rfl, rfl, rfl, by decide +kernel, rfl, by decide +kernel, by decide +kernel⟩
def WAll (W : WX) : XK := fun cls d H => ∀ σ, W cls d σ H
theorem pss_imp {X : Cx} {st : List Stmt} {t t' : TS} (h : PSs X st t) (i : ∀ D σ H, t' D σ H → t D σ H) : PSs X st t' := ⟨fun pins s σ H D I z => h.run pins s σ H D I (i D σ H z)⟩
def tsN (CN : Addr) : Addr → Value → Option Addr → TS := fun a cls d D σ H => ∀ oe : Obj, Zc cls d oe → (∃ vs, oe.data = .fields vs) → tRet (tTup (tCons (tC (.str "number")) (tCons (tXfP (a, oe) CN "value" (tVar 2)) tNil))) D σ H
section
variable {X : Cx} {CX : CXT} {k : Nat} {C f : Addr} {fd : FuncData} {ps : List Str} {sp : Sp} {E : L2.St → XK} {o e : Expr} {es : List Expr} {ta : TE} {t : TA} {m : Str} {pos apos : Pos}
/-- o.m(e, ..) in a try: what flies is told with the slots -/
def tMethA (C : Addr) (m : Str) (sp : Sp) (E : L2.St → XK) (ta : TE) (t : TA) : TE := fun σ H Q => ta σ H fun x H1 => ∃ a dx fs, x = .ref a ∧ H1 a = some (.ins C dx fs) ∧ fs.lookup m = none ∧ t σ H1 fun vs H2 => sp (x :: vs) H2 Q (E σ)
theorem pe_methA {pl : Sem Bool} (he : PE X o ta) (c : L2.Cls X.K C) (hm : Meth X.K C m f) (F : FnOk X.prog X.w X.K X.mg X.base CX k f fd ps sp) (hr : Room k X.A) (hb : Binds X.K fd ps []) (hx : ∀ σ, PassesAt CX X σ (E σ)) (ha : PA X (e :: es) t)
    (hst : starEach (e :: es) X.env = (false, eval e X.env) :: starEach es X.env := by rfl) (hpl : (backTo pos (starEach es X.env)).any (·.1) = false := by rfl)
    (ht : eval (.Call (.Attribute o m apos) (e :: es) [] pos) X.env = (do
      let ov ← eval o X.env
      standAt apos.atName
      let (f, first) ← holding [ov] (getMethod ov m pl)
      callWith pos f first (backTo pos (starEach (e :: es) X.env)) (backToKw pos (keywordEach [] X.env))) := by rfl) :
    PE X (.Call (.Attribute o m apos) (e :: es) [] pos) (tMethA C m sp E ta t) := by
  refine ⟨fun pins s σ H Q I h => ?_⟩
  refine PySem.W.methodCall_KW (pl := pl) (thn (he.run pins s σ H _ I h) fun u s1 ⟨x, H1, I1, rx, a, dx, fs, ex, ea, l, q⟩ => ?_) ht
  subst ex
  obtain rfl : u = Value.ref a := rx
  refine getmeth_ok I1 ea c hm l ?_
  refine PySem.W.callWith_K (first := [.ref a]) (h₀ := X.base) I.ok.mod.kin hm.kp (thn (ha.run pos pins s1 σ H1 _ I1 q) fun us s2 ⟨vs, H2, I2, r, q2⟩ => ⟨I2.kIn, ?_⟩) hst hpl
  exact run_fnS (us := .ref a :: us) (vs := .ref a :: vs) F hr hb (hx σ) I2 (.cons rfl r) q2
end
def spTold4 (K : PySem.W.Frag) (CH : Addr) : Sp := fun vs H Q _ => ∃ (x : Addr) (u : V) (ds : List PyData) (e : PyData), vs = [.ref x, u] ∧ HoleAt K CH H x ds ∧ Dv K H u e ∧
  (isNumD 0 200 e = true → ∀ H', Same H H' → Q (.int (cnt sgs (runsD ds) (numD e) : Nat)) H') ∧ (isNumD 0 200 e = false → ∀ H' t, Same H H' → H' t = some (.tup [.str "number", u]) → Q (.ref t) H')
section
variable {P : Program} {w : World} {K : PySem.W.Frag} {mg : Str → Option Value} {base : Heap} {f fC CH CN : Addr} {fd fdC : FuncData}
theorem ok_told4 {k : Nat} (F : FnP K "_law_told" iLTold f fd) (T : HoleM K CH) (xN : XF K CN) (gE : mg "InvalidNumber" = some (.ref CN)) (hm : PySem.W.exmOne K (.ref CN) (.ref CN) = some true) (no : PySem.W.findIn K (.ref CN) "value" = some none)
    (me : Meth K CH "count" fC) (FC : FnOk P w K mg base (L2.CX P w) (k + 3) fC fdC ["self", "many"] (spHCount K CH CN)) (bC : Binds K fdC ["self", "many"] []) :
    FnOk P w K mg base CX0 (k + 4) f fd ["made", "size"] (spTold4 K CH) := by
  refine F.ok scTold4 (fun vs H Q E h => ?_) (fun cdv A outer s H vs Q E hr h => ?_)
  · obtain ⟨x, u, ds, e, rfl, _⟩ := h
    rfl
  · obtain ⟨x, u, ds, e, rfl, hx, hu, good, bad⟩ := h
    refine ⟨_, PSs.nox (pss_one (ps_tryA (Wout := fun _ _ _ _ => False) (tb := fun W => tRet (tMethA CH "count" (spHCount K CH CN) (WE W) (tVar 0) (tCons (tVar 1) tNil))) (l := [⟨[.ref CN], some 2, tsN CN⟩]) rfl rfl scTold4.nd takes0
        (fun W pn xe tk _ => pss_one (ps_ret (pe_methA (pv 0) T.cl me FC hr bC (fun σ => passAt tk σ) (by exact (pa_cons (pv 1) pa_nil)))))
        (.cons (.one ⟨by rfl, by decide, .inl gE⟩) (.inr ⟨"e", 2, rfl, rfl, rfl, rfl⟩) (fun a oe cls d pn hz hf => pss_imp (pss_one (ps_ret (pe_tup (pa_cons pe_str (pa_cons (pe_xfP (C := CN) (n := "value") List.mem_cons_self xN no (pv 2)) pa_nil))))) fun D σ H z => z oe hz hf) .nil))), ?_⟩
    obtain ⟨dx, p, t, xs, h1, h2, h3, h4, h5⟩ := hx
    refine ⟨_, rfl, x, dx, _, rfl, h1, rfl, _, rfl, x, u, ds, e, rfl, ⟨dx, p, t, xs, h1, h2, h3, h4, h5⟩, hu, good, fun z H' dd s ed => ⟨true, ?_, fun _ a na oe hz hf => ?_, fun e => by cases e⟩⟩
    · show (match PySem.W.exmOne K (.ref CN) (.ref CN), (some false : Option Bool) with | some b, some d => some (b || d) | _, _ => none) = some true
      rw [hm]
      rfl
    · exact ⟨.ref a, rfl, dd, _, u, rfl, hz, hf, ed, by simp [List.lookup], by show 2 ≤ sizeLine; decide, fun t nt => bad z _ t (s.trans (same_upd nt)) upd_same⟩
end
end K0
end
/-! ### LM -/
section
set_option Elab.async false
set_option linter.all false
set_option maxRecDepth 100000
set_option maxHeartbeats 4000000
/-! _law_less, _law_made_hole. -/
namespace K0
open PySem PySem.Spec PyProof.Rows L2 Rd DN StX
theorem scLess : FnScope ["made", "sign"] ["made", "sign"] (defScope (top iLLess)) := ⟨rfl, rfl, rfl, by decide +kernel, rfl, by decide +kernel, by decide +kernel⟩
def tsNon : Addr → Value → Option Addr → TS := fun _ _ _ D σ H => D.rt .non H
def spLess (K : PySem.W.Frag) (CH : Addr) : Sp := fun vs H Q _ => ∃ (x : Addr) (ds : List PyData) (c : Nat), vs = [.ref x, oneV c] ∧ HoleAt K CH H x ds ∧ c ∈ sgs' ∧
  (gone [c] (runsD ds) = false → barL [c] (runsD ds) ≠ [] → ∀ H' y, Same H H' → H y = none → HoleAt K CH H' y ((barL [c] (runsD ds)).map dataR) → Q (.ref y) H') ∧ ((gone [c] (runsD ds) = true ∨ barL [c] (runsD ds) = []) → ∀ H', Same H H' → Q .non H')
theorem scLMade : FnScope ["runs"] ["runs"] (defScope (top iLMade)) := ⟨rfl, rfl, rfl, by decide +kernel, rfl, by decide +kernel, by decide +kernel⟩
abbrev spOf2 (K : PySem.W.Frag) (CH CE : Addr) : Sp := fun vs H Q E => spOf K CH CE (vs ++ []) H Q E
def spMade4 (K : PySem.W.Frag) (CH : Addr) : Sp := fun vs H Q _ => ∃ (p : Addr) (xs : List V) (ds : List PyData), vs = [.ref p] ∧ SqT K H p xs ∧ DvAll K H xs ds ∧ PyData.bulkAll ds ≤ 100000 ∧ holeD ds = true ∧ ∀ H' x, Same H H' → H x = none → HoleAt K CH H' x ds → Q (.ref x) H'
section
variable {P : Program} {w : World} {K : PySem.W.Frag} {mg : Str → Option Value} {base : Heap} {f fB CH CO CE pO gO : Addr} {mc : Value} {fd fdB fdO : FuncData}
theorem ok_less {k : Nat} (F : FnP K "_law_less" iLLess f fd) (T : HoleM K CH) (gE : mg "InvalidOperation" = some (.ref CO)) (hm : PySem.W.exmOne K (.ref CO) (.ref CO) = some true)
    (me : Meth K CH "barred" fB) (FB : FnOk P w K mg base (L2.CX P w) (k + 6) fB fdB ["self", "signs"] (spHBarred K CH CO)) (bB : Binds K fdB ["self", "signs"] []) :
    FnOk P w K mg base CX0 (k + 7) f fd ["made", "sign"] (spLess K CH) := by
  refine F.ok scLess (fun vs H Q E h => ?_) (fun cdv A outer s H vs Q E hr h => ?_)
  · obtain ⟨x, ds, c, rfl, _⟩ := h
    rfl
  · obtain ⟨x, ds, c, rfl, hx, hc, good, bad⟩ := h
    refine ⟨_, PSs.nox (pss_one (ps_tryA (Wout := fun _ _ _ _ => False) (tb := fun W => tRet (tMethA CH "barred" (spHBarred K CH CO) (WE W) (tVar 0) (tCons (tTup (tCons (tVar 1) tNil)) tNil))) (l := [⟨[.ref CO], none, tsNon⟩]) rfl rfl scLess.nd takes0
        (fun W pn xe tk _ => pss_one (ps_ret (pe_methA (pv 0) T.cl me FB hr bB (fun σ => passAt tk σ) (by exact (pa_cons (pe_tup (pa_cons (pv 1) pa_nil)) pa_nil)))))
        (.cons (.one ⟨by rfl, by decide, .inl gE⟩) (.inl ⟨rfl, rfl⟩) (fun a oe cls d pn hz hf => pss_one (ps_ret pe_non)) .nil))), ?_⟩
    obtain ⟨dx, p, t, xs, h1, h2, h3, h4, h5⟩ := hx
    refine ⟨_, rfl, x, dx, _, rfl, h1, rfl, _, rfl, by show 1 ≤ sizeLine; decide, fun b nb => ?_⟩
    have s0 : Same H (upd H b (.tup [oneV c])) := same_upd nb
    refine ⟨x, b, ds, [c], rfl, HoleAt.same ⟨dx, p, t, xs, h1, h2, h3, h4, h5⟩ s0, .of upd_same, by simp, fun z hz => by rw [List.mem_singleton.mp hz]; exact hc, fun g ne H' y s ny hy => good g ne H' y (s0.trans s) (none_back s0 ny) hy, fun z H' s => ⟨true, ?_, fun _ a na => bad z H' (s0.trans s), fun e => by cases e⟩⟩
    show (match PySem.W.exmOne K (.ref CO) (.ref CO), (some false : Option Bool) with | some b, some d => some (b || d) | _, _ => none) = some true
    rw [hm]
    rfl
theorem ok_made4 {k : Nat} (F : FnP K "_law_made_hole" iLMade f fd) (mtuple : mg "tuple" = none) (gH : mg "Hole" = some (.ref CH)) (kH : PySem.W.keepIn K (.ref CH) = true)
    (rd : ClX.CRead K CH mc) (cm : ClX.CMet K CH mc "of" pO gO) (FO : FnOk P w K mg base (L2.CX P w) (k + 6) gO fdO ["cls", "runs"] (spOf K CH CE)) (bO : Binds K fdO ["cls", "runs"] []) :
    FnOk P w K mg base CX0 (k + 7) f fd ["runs"] (spMade4 K CH) := by
  refine F.ok scLMade (fun vs H Q E h => ?_) (fun cdv A outer s H vs Q E hr h => ?_)
  · obtain ⟨p, xs, ds, rfl, _⟩ := h
    rfl
  · obtain ⟨p, xs, ds, rfl, hT, hA, sz, ok, q⟩ := h
    refine ⟨_, PSs.nox (pss_one (ps_ret (ClX.pe_cmeth (sp := spOf2 K CH CE) (E := fun _ _ _ => False) (pe_glob (v := .ref CH) (by rfl) gH rfl) rd cm (FO.raw bO .nil) hr (passes_call takes0 fun cls d σ H z => z) (pa_cons (pe_callTy call_tuple_of (by rfl) mtuple (by decide +kernel) (pa_cons (pv 0) pa_nil)) pa_nil)))), ?_⟩
    refine ⟨rfl, _, rfl, p, xs, rfl, .inr ⟨hT, .ref p, .tuple ds, rfl, .tup hT hA, sz, fun _ H' x s nx h => q H' x s nx h, fun no => ?_⟩⟩
    have ok2 : isHoleD (.tuple ds) = true := ok
    rw [ok2] at no
    cases no
end
end K0
end
/-! ### LR2 -/
section
set_option Elab.async false
set_option linter.all false
set_option maxRecDepth 100000
set_option maxHeartbeats 4000000
/-! _law_hole. -/
namespace K0
open PySem PySem.Spec PyProof.Rows L2 Rd
theorem scLHole : FnScope ["dice", "signs", "turn"] ["dice", "signs"] (defScope (top iLHole)) := ⟨rfl, rfl, rfl, by decide +kernel, rfl, by decide +kernel, by decide +kernel⟩
theorem sqT_lst {K : PySem.W.Frag} {H : Hp} {x a : Addr} {zs xs : List V} {o : HO} (e : H x = some (.lst zs)) (h : SqT K H a xs) : SqT K (upd H x o) a xs := by
  rcases h with (h | ⟨ob, h⟩) | h
  · exact .inl (.inl (by rw [upd_ne (ne_of h e (fun z => nomatch z))]; exact h))
  · exact .inl (.inr ⟨ob, by rw [upd_ne (ne_of h e (fun z => nomatch z))]; exact h⟩)
  · exact .inr h
theorem dv_signs {K : PySem.W.Frag} {H H' : Hp} : ∀ {es : List PyData} {xs : List V}, DvAll K H xs es → es.all isSignD = true → DvAll K H' xs es
  | [], _, h, _ => by cases h; exact .nil
  | d :: es, _, h, a => by
    cases h with
    | cons h1 h2 =>
      rw [List.all_cons, Bool.and_eq_true] at a
      obtain ⟨z, rfl⟩ := sign_str a.1
      cases h1
      exact .cons (.str z) (dv_signs h2 a.2)
/-- a run's data leans on tuples alone -/
theorem dv_runH {K : PySem.W.Frag} {H H' : Hp} {v : V} {d : PyData} (h : Dv K H v d) (r : isRunD d = true) (k : ∀ a xs, SqT K H a xs → SqT K H' a xs) : Dv K H' v d := by
  obtain ⟨es, l, e, rfl, h1, ⟨i, rfl⟩, h3⟩ := run_parts r
  cases h with
  | tup hT hA =>
    refine .tup (k _ _ hT) ?_
    cases hA with
    | cons a1 hA =>
    cases hA with
    | cons a2 hA =>
    cases hA with
    | cons a3 hA =>
    cases hA
    cases a1 with
    | tup hT1 hA1 =>
      refine .cons (.tup (k _ _ hT1) (dv_signs hA1 h1)) (.cons ?_ (.cons ?_ .nil))
      · cases a2
        exact .int i
      · rcases h3 with rfl | ⟨j, rfl⟩
        · cases a3
          exact .non
        · cases a3
          exact .int j
theorem dv_runs {K : PySem.W.Frag} {H H' : Hp} (k : ∀ a xs, SqT K H a xs → SqT K H' a xs) : ∀ {ds : List PyData} {vs : List V}, DvAll K H vs ds → ds.all isRunD = true → DvAll K H' vs ds
  | [], _, h, _ => by cases h; exact .nil
  | d :: ds, _, h, a => by
    cases h with
    | cons h1 h2 =>
      rw [List.all_cons, Bool.and_eq_true] at a
      exact .cons (dv_runH h1 a.1 k) (dv_runs k h2 a.2)
theorem hid_upd {p D : Addr} {H : Hp} {o : HO} (h : D ≠ p) : hid p (upd H D o) = upd (hid p H) D o := by
  funext b
  by_cases e : b = p
  · subst e
    rw [upd_ne (fun q => h q.symm)]
    show (if b = b then none else _) = (if b = b then none else _)
    rw [if_pos rfl, if_pos rfl]
  · rw [hid_ne e]
    by_cases f : b = D
    · subst f
      rw [upd_same, upd_same]
    · rw [upd_ne f, upd_ne f, hid_ne e]
def spLHole (K : PySem.W.Frag) : Sp := fun vs H Q _ => ∃ (p : Addr) (a b c : Int) (t : Addr) (cs : List Nat), vs = [.ref p, .ref t] ∧ H p = some (dk a b c) ∧ SqT K (hid p H) t (cs.map oneV) ∧ cs ≠ [] ∧ cs.length ≤ 15 ∧ cs.Nodup ∧ (∀ c ∈ cs, c ∈ sgs') ∧
  ∀ H' x vs ds, Keep p H H' → H' x = some (.tup vs) → x ≠ p → DvAll K (hid p H') vs ds → holeD ds = true → Q (.ref x) H'
def ns7 : List PyData := [.int 1, .int 1, .int 1, .int 2, .int 2, .int 3, .int 4]
theorem ns7_at {d : PyData} (h : d ∈ ns7) : ∃ n : Nat, d = .int (n : Nat) ∧ 1 ≤ n ∧ n ≤ 4 := by
  have h : d = .int 1 ∨ d = .int 1 ∨ d = .int 1 ∨ d = .int 2 ∨ d = .int 2 ∨ d = .int 3 ∨ d = .int 4 := by
    simpa [ns7] using h
  rcases h with rfl | rfl | rfl | rfl | rfl | rfl | rfl
  · exact ⟨1, rfl, by omega, by omega⟩
  · exact ⟨1, rfl, by omega, by omega⟩
  · exact ⟨1, rfl, by omega, by omega⟩
  · exact ⟨2, rfl, by omega, by omega⟩
  · exact ⟨2, rfl, by omega, by omega⟩
  · exact ⟨3, rfl, by omega, by omega⟩
  · exact ⟨4, rfl, by omega, by omega⟩
section
variable {P : Program} {w : World} {K : PySem.W.Frag} {mg : Str → Option Value} {base : Heap} {f fR fO : Addr} {fd fdR fdO : FuncData}
theorem ok_lhole {k : Nat} (F : FnP K "_law_hole" iLHole f fd) (mtuple : mg "tuple" = none) (mrange : mg "range" = none)
    (FR : FnOk P w K mg base CX0 (k + 3) fR fdR ["dice", "signs"] (spLRun K)) (gR : mg "_law_run" = some (.ref fR)) (kR : PySem.W.keepIn K (.ref fR) = true) (bR : Binds K fdR ["dice", "signs"] [])
    (FO : FnOk P w K mg base CX0 (k + 3) fO fdO ["dice", "items"] (spOne K)) (gO : mg "_law_one_of" = some (.ref fO)) (kO : PySem.W.keepIn K (.ref fO) = true) (bO : Binds K fdO ["dice", "items"] []) :
    FnOk P w K mg base CX0 (k + 4) f fd ["dice", "signs"] (spLHole K) := by
  refine F.ok scLHole (fun vs H Q E h => ?_) (fun cdv A outer s H vs Q E hr h => ?_)
  · obtain ⟨p, a, b, c, t, cs, rfl, _⟩ := h
    rfl
  · obtain ⟨p, a, b, c, t, cs, rfl, hp, hT, cne, cl, cnd, cmem, q⟩ := h
    refine ⟨_, PSs.nox (pss_one (ps_ret (pe_callTy call_tuple_of (by rfl) mtuple (by decide +kernel) (pa_cons (pe_lc (own := [("turn", 2)]) (g := gName 2) (tt := tYes) (te := tCall (spLRun K) [] E0 (tCons (tVar 0) (tCons (tVar 1) tNil))) rfl scLHole.nd
        (pi_range1 (by rfl) mrange (pa_cons (pe_call FO hr (by rfl) gO kO bO .nil pass0 (pa_cons (pv 0) (pa_cons (pe_lst (pa_cons pe_int (pa_cons pe_int (pa_cons pe_int (pa_cons pe_int (pa_cons pe_int (pa_cons pe_int (pa_cons pe_int pa_nil)))))))) pa_nil))) pa_nil)) (blkOk_by (N := ["dice", "signs", "turn"]) (sc := defScope (top iLHole)) (by decide +kernel))
        (fun _ _ _ _ _ => pg_name (i := 2) scLHole.nd rfl (Or.inl rfl)) (fun _ _ _ _ _ => pts_nil) (fun _ _ _ _ _ => pe_call FR hr (by rfl) gR kR bR .nil pass0 (pa_cons (pv 0) (pa_cons (pv 1) pa_nil)))) pa_nil)))), ?_⟩
    have sl : sizeLine = 16777216 := sizeLine_eq
    have D0 : Dice p H := ⟨a, b, c, hp⟩
    refine ⟨_, rfl, rd_lst (ds := ns7) (p := p) (K := K) (ev_cons ev_int (ev_cons ev_int (ev_cons ev_int (ev_cons ev_int (ev_cons ev_int (ev_cons ev_int (ev_cons ev_int ev_nil))))))) D0 (by decide) fun xs H1 l1 s1 v1 n1 => ?_⟩
    have xl := v1.length
    have hp1 := s1 _ _ hp
    have lp : l1 ≠ p := (D0.same s1).ne n1
    refine ⟨p, a, b, c, _, xs, rfl, by rw [upd_ne lp.symm]; exact hp1, .inl ⟨l1, rfl, .inl (.of upd_same)⟩, (fun e => by rw [e] at xl; cases xl), (by rw [xl, sl]; decide), fun a' b' c' => .inl ⟨l1, rfl, .inl (.of (by rw [upd_ne lp, upd_same]))⟩, fun a' b' c' i x hx => ?_⟩
    obtain ⟨d, hd, vd⟩ := v1.get hx
    obtain ⟨n, rfl, n1', n4⟩ := ns7_at (List.mem_of_getElem? hd)
    cases vd
    have k1 : Keep p H (upd (upd H1 l1 (.lst xs)) p (dk a' b' c')) := ⟨fun b o nb z => by rw [upd_ne nb]; exact same_upd n1 _ _ (s1 _ _ z), a', b', c', upd_same⟩
    refine ⟨_, rfl, by omega, by omega, fun D nD => ?_⟩
    have hpK := k1.2
    have Dp : D ≠ p := by
      obtain ⟨a0, b0, c0, z⟩ := hpK
      exact (ne_of_none z nD).symm
    have nH : H D = none := by
      cases z : H D with
      | none => rfl
      | some o =>
        have z2 := k1.1 D o Dp z
        rw [nD] at z2
        cases z2
    refine lc_range (lo := 0) (n := n) (fun m H' => Keep p H H' ∧ ∃ vs ds, H' D = some (.lst vs) ∧ vs.length = m ∧ DvAll K (hid p H') vs ds ∧ ds.all isRunD = true) ⟨k1.new2 nD, [], [], upd_same, rfl, .nil, rfl⟩ (fun m H' hm hP => ?_) (fun H' hP => ?_)
    · obtain ⟨k2, vs, ds, e2, l2, v2, r2⟩ := hP
      obtain ⟨a2, b2, c2, hp2⟩ := k2.2
      refine ⟨rfl, _, rfl, _, rfl, p, a2, b2, c2, t, cs, rfl, hp2, sq_keep hT k2, cne, cl, cnd, cmem, fun H3 v d k3 vd rd => ?_⟩
      have e3 : H3 D = some (.lst vs) := k3.1 D _ Dp e2
      have e3h : hid p H3 D = some (.lst vs) := by rw [hid_ne Dp]; exact e3
      refine ⟨vs, e3, by omega, ⟨fun y o ny z => ?_, ?_⟩, vs ++ [v], ds ++ [d], upd_same, by rw [List.length_append, l2]; rfl, ?_, ?_⟩
      · rw [upd_ne (ne_of_none z nH)]
        exact k3.1 y o ny (k2.1 y o ny z)
      · obtain ⟨a3, b3, c3, hp3⟩ := k3.2
        exact ⟨a3, b3, c3, by rw [upd_ne Dp.symm]; exact hp3⟩
      · rw [hid_upd Dp]
        refine DvAll.append (dv_runs (fun a xs z => sqT_lst e3h z) (DvAll.same (hid_same k3.1) ds _ v2) r2) (.cons (dv_runH vd rd fun a xs z => sqT_lst e3h z) .nil)
      · rw [List.all_append, r2]
        show (isRunD d && true) = true
        rw [rd]
        rfl
    · obtain ⟨k2, vs, ds, e2, l2, v2, r2⟩ := hP
      refine ⟨D, vs, rfl, .inl ⟨.of e2, fun x nx => ?_⟩⟩
      have xp : x ≠ p := by
        obtain ⟨a0, b0, c0, z⟩ := k2.2
        exact (ne_of_none z nx).symm
      have dl := v2.length
      refine q _ x vs ds (k2.new2 nx) upd_same xp (DvAll.same (hid_same fun b o _ z => same_upd nx b o z) ds _ v2) ?_
      unfold holeD
      rw [r2, decide_eq_true (by omega), decide_eq_true (by omega)]
      rfl
end
end K0
end
/-! ### A8 -/
section
set_option Elab.async false
set_option linter.all false
set_option maxRecDepth 100000
set_option maxHeartbeats 4000000
/-! All texts of some signs, by length, as a list. -/
namespace K0
open PySem PySem.Spec PyProof.Rows L2
theorem add_len (x y : Str) : (x ++ y).length = x.length + y.length := by
  show (x.cps ++ y.cps).size = _
  rw [Array.size_append]
  rfl
/-- the texts one sign longer than t -/
def longer (cs : List Nat) (t : Str) : List Str := cs.map fun c => t ++ oneS c
def level (cs : List Nat) : Nat → List Str
  | 0 => [""]
  | k + 1 => (level cs k).flatMap (longer cs)
def pre (cs : List Nat) : Nat → List Str
  | 0 => []
  | k + 1 => pre cs k ++ level cs k
def textsTo (cs : List Nat) (k : Nat) : List Str := pre cs (k + 1)
theorem flat_len (cs : List Nat) (l : List Str) : (l.flatMap (longer cs)).length = l.length * cs.length := by
  induction l with
  | nil => simp
  | cons t l ih =>
    rw [List.flatMap_cons, List.length_append, ih, List.length_cons, Nat.succ_mul]
    unfold longer
    rw [List.length_map]
    omega
theorem level_len (cs : List Nat) : ∀ k, (level cs k).length = cs.length ^ k
  | 0 => rfl
  | k + 1 => by
    rw [level, flat_len, level_len cs k, Nat.pow_succ]
theorem level_size {cs : List Nat} : ∀ (k : Nat) (t : Str), t ∈ level cs k → t.length = k
  | 0, t, h => by
    rw [List.mem_singleton.mp h]
    rfl
  | k + 1, t, h => by
    obtain ⟨u, hu, hc⟩ := List.mem_flatMap.mp h
    obtain ⟨c, _, rfl⟩ := List.mem_map.mp hc
    rw [add_len, level_size k u hu]
    rfl
theorem pow_small {n k : Nat} (hn : n ≤ 3) (hk : k ≤ 4) : n ^ k ≤ 81 := Nat.le_trans (Nat.pow_le_pow_left hn k) (Nat.le_trans (Nat.pow_le_pow_right (by decide) hk) (by decide))
theorem pre_len {cs : List Nat} (hc : cs.length ≤ 3) : ∀ k, k ≤ 5 → (pre cs k).length ≤ 81 * k
  | 0, _ => Nat.zero_le _
  | k + 1, hk => by
    have h1 := pre_len hc k (by omega)
    have h2 := pow_small hc (k := k) (by omega)
    rw [pre, List.length_append, level_len]
    omega
theorem scTexts : FnScope ["signs", "upto", "found", "start", "turn", "end", "at", "sign"] ["signs", "upto"] (defScope (top iTexts)) := ⟨rfl, rfl, rfl, by decide +kernel, rfl, by decide +kernel, by decide +kernel⟩
def spTexts (K : PySem.W.Frag) : Sp := fun vs H Q _ => ∃ (t : Addr) (cs : List Nat) (n : Nat), vs = [.ref t, .int (n : Nat)] ∧ SqT K H t (cs.map oneV) ∧ cs.length ≤ 3 ∧ n ≤ 4 ∧ ∀ H' l, Same H H' → H' l = some (.lst ((textsTo cs n).map V.str)) → Q (.ref l) H'
theorem mr_extend {X : Cx} : MtR X "list.extend" rExtend := mt_extend
section
variable {P : Program} {w : World} {K : PySem.W.Frag} {mg : Str → Option Value} {base : Heap} {f : Addr} {fd : FuncData}
theorem ok_texts {k : Nat} (F : FnP K "_law_texts" iTexts f fd) (mrange : mg "range" = none) (mlen : mg "len" = none) : FnOk P w K mg base CX0 (k + 1) f fd ["signs", "upto"] (spTexts K) := by
  refine F.ok scTexts (fun vs H Q E h => ?_) (fun cdv A outer s H vs Q E hr h => ?_)
  · obtain ⟨t, cs, n, rfl, _⟩ := h
    rfl
  · obtain ⟨t, cs, n, rfl, hT0, c4, n3, q⟩ := h
    refine ⟨_, PSs.nox (C8.pss_cut (ps_asg (pe_tup (pa_cons (pe_lst (pa_cons pe_str pa_nil)) (pa_cons pe_int pa_nil))) (pg_tup rfl (pgs_cons (pg_name (i := 2) scTexts.nd rfl (.inr rfl)) (pgs_cons (pg_name (i := 3) scTexts.nd rfl (.inl rfl)) pgs_nil))))
      (C8.pss_cut (ps_for PassesOwn.never rfl (pi_range1 (by rfl) mrange (pa_cons (pv 1) pa_nil)) (pg_name (i := 4) scTexts.nd rfl (.inl rfl))
        (pss_cons (ps_set (i := 5) scTexts.nd rfl (.inl rfl) (pe_callB call_len_seq (by rfl) mlen PySem.boot_len (pa_cons (pv 2) pa_nil)))
        (C8.pss_cut (ps_for PassesOwn.never rfl (pi_range2 (by rfl) mrange (pa_cons (pv 3) (pa_cons (pv 5) pa_nil))) (pg_name (i := 6) scTexts.nd rfl (.inr rfl))
          (pss_one (ps_expr (pe_bm PySem.F.plainAttrs_list PySem.F.slot_list_extend PySem.F.type_list_extend mr_extend (pv 2) (pa_cons (pe_lc (own := [("sign", 7)]) (g := gName 7) (te := tOp (fun x y H Q => ∃ i j, x = .str i ∧ y = .str j ∧ i.length + j.length ≤ sizeLine ∧ Q (.str (i ++ j)) H) (tOp (rIxL K) (tVar 2) (tVar 6)) (tVar 7)) (tt := tYes) rfl scTexts.nd (pi_tup (pv 0)) (blkOk_by (N := ["signs", "upto", "found", "start", "turn", "end", "at", "sign"]) (sc := defScope (top iTexts)) (by decide +kernel))
            (fun _ _ _ _ _ => pg_name (i := 7) scTexts.nd rfl (Or.inl rfl)) (fun _ _ _ _ _ => pts_nil) (fun _ _ _ _ _ => pe_op op_add_str (pe_ix ix_list (pv 2) (pv 6) (fun _ _ => rfl)) (pv 7))) pa_nil)))))
        (pss_one (ps_set (i := 3) scTexts.nd rfl (.inl rfl) (pv 5))))))
      (pss_one (ps_ret (pv 2))))), ?_⟩
    refine ⟨fun σ' H' => ∃ l : Addr, σ' = [some (.ref t), some (.int (n : Nat)), some (.ref l), some (.int 0), none, none, none, none] ∧ H l = none ∧ Same H H' ∧ H' l = some (.lst ((pre cs 1).map V.str)), ?_, ?_⟩
    · refine ⟨by show 1 ≤ sizeLine; decide, fun l nl => ⟨by show 2 ≤ sizeLine; decide, fun T nT => ⟨T, _, rfl, .of upd_same, rfl, _, _, rfl, _, _, rfl, rfl, l, rfl, nl, (same_upd nl).trans (same_upd nT), same_upd nT _ _ upd_same⟩⟩⟩
    rintro σ1 H1 ⟨l, rfl, nl, s1, e1⟩
    refine ⟨fun σ' H' => ∃ a3 a4 a5 a6, σ' = [some (.ref t), some (.int (n : Nat)), some (.ref l), a3, a4, a5, a6, none] ∧ Same H H' ∧ H' l = some (.lst ((textsTo cs n).map V.str)), ?_, ?_⟩
    · refine ⟨_, rfl, _, rfl, by omega, by omega, for_range (lo := 0) (n := n) (fun k σ' H' => ∃ a4 a5 a6, σ' = [some (.ref t), some (.int (n : Nat)), some (.ref l), some (.int ((pre cs k).length : Nat)), a4, a5, a6, none] ∧ Same H H' ∧ H' l = some (.lst ((pre cs (k + 1)).map V.str))) ⟨none, none, none, rfl, s1, e1⟩ (fun k σ' H' hk hP => ?_) (fun σ' H' hP => ?_)⟩
      · obtain ⟨a4, a5, a6, rfl, s2, e2⟩ := hP
        have pl := pre_len c4 (k + 1) (by omega)
        have pe : (pre cs (k + 1)).length = (pre cs k).length + (level cs k).length := by rw [pre, List.length_append]
        refine ⟨_, rfl, l, _, rfl, .inl (.of e2), ?_⟩
        refine ⟨fun σ' H' => ∃ a6, σ' = [some (.ref t), some (.int (n : Nat)), some (.ref l), some (.int ((pre cs k).length : Nat)), some (.int (0 + (k : Int))), some (.int ((pre cs (k + 1)).length : Nat)), a6, none] ∧ Same H H' ∧ H' l = some (.lst ((pre cs (k + 2)).map V.str)), ?_, ?_⟩
        · refine ⟨_, rfl, _, rfl, _, _, rfl, ⟨by omega, by omega, by rw [List.length_map]; omega, by rw [List.length_map]; omega⟩, for_range (lo := ((pre cs k).length : Nat)) (fun j σ' H' => ∃ a6, σ' = [some (.ref t), some (.int (n : Nat)), some (.ref l), some (.int ((pre cs k).length : Nat)), some (.int (0 + (k : Int))), some (.int ((pre cs (k + 1)).length : Nat)), a6, none] ∧ Same H H' ∧ H' l = some (.lst ((pre cs (k + 1) ++ ((level cs k).take j).flatMap (longer cs)).map V.str))) ⟨a6, ?_, s2, ?_⟩ (fun j σ' H' hj hP => ?_) (fun σ' H' hP => ?_)⟩
          · first
              | (rw [List.length_map]; rfl)
              | simp
          · rw [List.take_zero, List.flatMap_nil, List.append_nil]
            exact e2
          · obtain ⟨a6', rfl, s3, e3⟩ := hP
            have hj : j < (level cs k).length := by
              rw [List.length_map] at hj
              omega
            obtain ⟨T, hT⟩ : ∃ T, (level cs k)[j]? = some T := ⟨_, List.getElem?_eq_getElem hj⟩
            have Tl : T.length = k := level_size k T (List.mem_of_getElem? hT)
            have tT : SqT K H' t (cs.map oneV) := same_tup s3 hT0
            have at0 : atI ((pre cs (k + 1) ++ ((level cs k).take j).flatMap (longer cs)).map V.str) (((pre cs k).length : Nat) + (j : Int)) = some (.str T) := by
              rw [show (((pre cs k).length : Nat) : Int) + (j : Int) = (((pre cs k).length + j : Nat) : Int) by omega]
              refine atI_nat ?_
              rw [List.getElem?_map, pre, List.append_assoc, List.getElem?_append_right (by omega), Nat.add_sub_cancel_left, List.getElem?_append_left hj, hT]
              rfl
            have small : (pre cs (k + 1) ++ ((level cs k).take j).flatMap (longer cs)).length ≤ 900 := by
              rw [List.length_append, flat_len, List.length_take]
              have p1 := pow_small c4 (k := k) (by omega)
              rw [← level_len] at p1
              have p2 : min j (level cs k).length * cs.length ≤ 81 * 3 := Nat.mul_le_mul (by omega) c4
              omega
            refine ⟨_, rfl, .inl ⟨rfl, _, .of e3⟩, _, rfl, t, rfl, ⟨_, tT⟩, fun D nD => lc_it (walk_tup (xs := cs.map oneV)) (fun m H5 => Same H' H5 ∧ H5 D = some (.lst (((cs.take m).map fun c => T ++ oneS c).map V.str))) ⟨same_upd nD, upd_same⟩ (fun _ H5 _ hP => same_tup hP.1 tT) (fun m x H5 H6 hm hP hY => ?_) (fun H5 hP => ?_)⟩
            · obtain ⟨s5, e5⟩ := hP
              obtain ⟨rfl, hx⟩ := hY
              rw [List.getElem?_map] at hx
              obtain ⟨c, hc, rfl⟩ := Option.map_eq_some_iff.mp hx
              refine ⟨rfl, _, rfl, _, rfl, l, _, _, _, rfl, rfl, .of (s5 _ _ e3), at0, _, rfl, T, oneS c, rfl, rfl, by rw [Tl, sizeLine_eq]; show k + 1 ≤ _; omega, _, e5, by rw [List.length_map, List.length_map, List.length_take]; exact small1000 (by omega), fun y o u => by rw [upd_ne (ne_of_none u nD)]; exact s5 _ _ u, ?_⟩
              rw [upd_same, List.take_add_one, hc, List.map_append, List.map_append]
              rfl
            · obtain ⟨s5, e5⟩ := hP
              have tk : cs.take (cs.map oneV).length = cs := List.take_of_length_le (by rw [List.length_map]; exact Nat.le_refl _)
              rw [tk] at e5
              refine ⟨l, D, _, _, rfl, rfl, s5 _ _ e3, e5, by rw [List.length_map, List.length_map, List.length_map]; exact Nat.le_of_lt (small1000 (by omega)), _, rfl, fun y o u => ?_, ?_⟩
              · rw [upd_ne (ne_of_none u nl)]
                exact s5 _ _ (s3 _ _ u)
              · rw [upd_same, List.take_add_one, hT, ← List.map_append, List.flatMap_append, ← List.append_assoc]
                show some (HO.lst (List.map V.str ((pre cs (k + 1) ++ ((level cs k).take j).flatMap (longer cs)) ++ longer cs T))) = some (HO.lst (List.map V.str ((pre cs (k + 1) ++ ((level cs k).take j).flatMap (longer cs)) ++ [T].flatMap (longer cs))))
                rw [List.flatMap_cons, List.flatMap_nil, List.append_nil]
          · obtain ⟨a6', rfl, s3, e3⟩ := hP
            rw [List.take_of_length_le (by rw [List.length_map]; omega)] at e3
            exact ⟨a6', rfl, s3, e3⟩
        rintro σ3 H3 ⟨a6, rfl, s3, e3⟩
        exact ⟨_, rfl, _, _, _, rfl, s3, e3⟩
      · obtain ⟨a4, a5, a6, rfl, s2, e2⟩ := hP
        exact ⟨_, _, _, _, rfl, s2, e2⟩
    rintro σ2 H2 ⟨a3, a4, a5, a6, rfl, s2, e2⟩
    exact ⟨_, rfl, q H2 l s2 e2⟩
end
end K0
end
/-! ### M6 -/
section
set_option Elab.async false
set_option linter.all false
set_option maxRecDepth 100000
set_option maxHeartbeats 4000000
/-! The fillings of up to so many signs, a run at a time, as the law finds them. -/
namespace K0
open PySem PySem.Spec PyProof.Rows L2 Rd
def tx (l : List Nat) : Str := ⟨l.toArray⟩
def cd (z : Str) : List Nat := z.cps.toList
theorem cd_tx (l : List Nat) : cd (tx l) = l := rfl
theorem tx_cd (z : Str) : tx (cd z) = z := by
  obtain ⟨a⟩ := z
  show Str.mk (a.toList.toArray) = _
  rw [Array.toArray_toList]
theorem cd_inj {y z : Str} (h : cd y = cd z) : y = z := by rw [← tx_cd y, h, tx_cd]
theorem cd_len (z : Str) : (cd z).length = z.length := Array.length_toList
theorem cd_app (y z : Str) : cd (y ++ z) = cd y ++ cd z := by
  show (y.cps ++ z.cps).toList = _
  rw [Array.toList_append]
  rfl
theorem level_wds (cs : List Nat) : ∀ k, level cs k = (wds cs k).map tx
  | 0 => rfl
  | k + 1 => by
    show (level cs k).flatMap (longer cs) = ((wds cs k).flatMap fun t => cs.map fun s => t ++ [s]).map tx
    rw [level_wds cs k, List.map_flatMap, List.flatMap_map]
    congr 1
    funext t
    show cs.map (fun c => tx t ++ oneS c) = (cs.map fun s => t ++ [s]).map tx
    rw [List.map_map]
    refine List.map_congr_left fun c _ => cd_inj ?_
    rw [cd_app]
    rfl
theorem mem_level {cs : List Nat} {k : Nat} {z : Str} : z ∈ level cs k ↔ (cd z).length = k ∧ ∀ c ∈ cd z, c ∈ cs := by
  rw [level_wds]
  constructor
  · intro h
    obtain ⟨t, ht, rfl⟩ := List.mem_map.mp h
    exact mem_wds.mp ht
  · intro h
    exact List.mem_map.mpr ⟨cd z, mem_wds.mpr h, tx_cd z⟩
theorem mem_pre {cs : List Nat} {z : Str} : ∀ {k : Nat}, z ∈ pre cs k ↔ (cd z).length < k ∧ ∀ c ∈ cd z, c ∈ cs
  | 0 => ⟨fun h => (List.not_mem_nil h).elim, fun h => absurd h.1 (Nat.not_lt_zero _)⟩
  | k + 1 => by
    rw [pre, List.mem_append, mem_pre, mem_level]
    constructor
    · rintro (⟨h1, h2⟩ | ⟨h1, h2⟩)
      · exact ⟨by omega, h2⟩
      · exact ⟨by omega, h2⟩
    · rintro ⟨h1, h2⟩
      by_cases e : (cd z).length = k
      · exact .inr ⟨e, h2⟩
      · exact .inl ⟨by omega, h2⟩
theorem mem_texts {cs : List Nat} {k : Nat} {z : Str} : z ∈ textsTo cs k ↔ (cd z).length ≤ k ∧ ∀ c ∈ cd z, c ∈ cs := by
  unfold textsTo
  rw [mem_pre]
  exact ⟨fun h => ⟨by omega, h.2⟩, fun h => ⟨by omega, h.2⟩⟩
/-- how far the parts of a run go -/
def upR (n : Nat) (r : RunD) : Nat := match r.high with
  | none => n
  | some h => if h < n then h else n
def partsR (n : Nat) (r : RunD) : List Str := (textsTo r.signs (upR n r)).filter fun z => decide (r.low ≤ (cd z).length)
theorem mem_parts {n : Nat} {r : RunD} {z : Str} : z ∈ partsR n r ↔ FilR r (cd z) ∧ (cd z).length ≤ n := by
  unfold partsR upR FilR
  rw [List.mem_filter, mem_texts, decide_eq_true_iff]
  cases e : r.high with
  | none =>
    constructor
    · rintro ⟨⟨h1, h2⟩, h3⟩
      exact ⟨⟨h2, h3, fun h q => by cases q⟩, h1⟩
    · rintro ⟨⟨h1, h2, _⟩, h3⟩
      exact ⟨⟨h3, h1⟩, h2⟩
  | some x =>
    constructor
    · rintro ⟨⟨h1, h2⟩, h3⟩
      have h1 : (cd z).length ≤ if x < n then x else n := h1
      refine ⟨⟨h2, h3, fun h q => ?_⟩, ?_⟩
      · cases q
        split at h1 <;> omega
      · split at h1 <;> omega
    · rintro ⟨⟨h1, h2, h4⟩, h3⟩
      have := h4 x rfl
      refine ⟨⟨?_, h1⟩, h2⟩
      show (cd z).length ≤ if x < n then x else n
      split <;> omega
def longR (n : Nat) (r : RunD) (u : Str) : List Str := ((partsR n r).filter fun p => decide ((cd u).length + (cd p).length ≤ n)).map fun p => u ++ p
def longL (n : Nat) (r : RunD) (found : List Str) : List Str := found.flatMap (longR n r)
/-- what is found behind some runs -/
structure Found (n : Nat) (rs : List RunD) (l : List Str) : Prop where
  nd : l.Nodup
  mem : ∀ z, z ∈ l ↔ Fil rs (cd z) ∧ (cd z).length ≤ n
theorem found_nil (n : Nat) : Found n [] [""] := ⟨by simp, fun z => by
  constructor
  · intro h
    rw [List.mem_singleton.mp h]
    exact ⟨rfl, Nat.zero_le _⟩
  · rintro ⟨h, _⟩
    have h : cd z = [] := h
    exact List.mem_singleton.mpr (cd_inj h)⟩
theorem mem_longL {n : Nat} {rs : List RunD} {r : RunD} {l : List Str} (f : Found n rs l) {z : Str} : z ∈ longL n r l ↔ Fil (rs ++ [r]) (cd z) ∧ (cd z).length ≤ n := by
  constructor
  · intro h
    obtain ⟨u, hu, h⟩ := List.mem_flatMap.mp h
    obtain ⟨p, hp, rfl⟩ := List.mem_map.mp h
    obtain ⟨hp, le⟩ := List.mem_filter.mp hp
    have le := of_decide_eq_true le
    rw [cd_app, List.length_append]
    exact ⟨fil_app.mpr ⟨cd u, cd p, rfl, ((f.mem u).mp hu).1, fil_one.mpr (mem_parts.mp hp).1⟩, le⟩
  · rintro ⟨h, le⟩
    obtain ⟨u, v, e, h1, h2⟩ := fil_app.mp h
    have le2 : u.length + v.length ≤ n := by rw [e, List.length_append] at le; exact le
    refine List.mem_flatMap.mpr ⟨tx u, (f.mem _).mpr ⟨h1, by rw [cd_tx]; omega⟩, List.mem_map.mpr ⟨tx v, List.mem_filter.mpr ⟨mem_parts.mpr ⟨fil_one.mp h2, by rw [cd_tx]; omega⟩, decide_eq_true le2⟩, cd_inj ?_⟩⟩
    rw [cd_app, e]
    rfl
theorem found_step {n : Nat} {rs : List RunD} {r : RunD} {l m : List Str} (f : Found n rs l) (nd : m.Nodup) (h : ∀ z, z ∈ m ↔ z ∈ longL n r l) : Found n (rs ++ [r]) m := ⟨nd, fun z => (h z).trans (mem_longL f)⟩
/-! ### how many there are -/
theorem texts_nodup {cs : List Nat} (nd : cs.Nodup) : ∀ k, (pre cs k).Nodup
  | 0 => by simp [pre]
  | k + 1 => by
    rw [pre, List.nodup_append]
    refine ⟨texts_nodup nd k, ?_, ?_⟩
    · rw [level_wds]
      exact nodup_map (fun x _ y _ e => by rw [← cd_tx x, e, cd_tx]) (wds_nodup nd k)
    · rintro x hx y hy rfl
      have h1 := (mem_pre.mp hx).1
      have h2 := (mem_level.mp hy).1
      omega
theorem found_few {n : Nat} {rs : List RunD} {l : List Str} {cs : List Nat} (f : Found n rs l) (sub : ∀ r ∈ rs, ∀ c ∈ r.signs, c ∈ cs) : l.length ≤ (textsTo cs n).length :=
  nodup_len f.nd fun z hz => by
    obtain ⟨h1, h2⟩ := (f.mem z).mp hz
    refine mem_texts.mpr ⟨h2, fun c hc => ?_⟩
    obtain ⟨r, hr, hs⟩ := fil_signs h1 c hc
    exact sub r hr c hs
theorem texts121 {cs : List Nat} (h : cs.length ≤ 3) : (textsTo cs 4).length ≤ 121 := by
  have e : (textsTo cs 4).length = 0 + cs.length ^ 0 + cs.length ^ 1 + cs.length ^ 2 + cs.length ^ 3 + cs.length ^ 4 := by
    show (pre cs 5).length = _
    simp only [pre, List.length_append, level_len, List.length_nil]
  rw [e]
  generalize cs.length = n at h
  have : n = 0 ∨ n = 1 ∨ n = 2 ∨ n = 3 := by omega
  rcases this with rfl | rfl | rfl | rfl <;> decide
theorem parts_nodup {n : Nat} {r : RunD} (nd : r.signs.Nodup) : (partsR n r).Nodup := (texts_nodup nd _).filter _
/-- the pairs that are put together are few -/
theorem long_few {n : Nat} {rs : List RunD} {r : RunD} {l : List Str} {cs : List Nat} (f : Found n rs l) (nd : r.signs.Nodup) (sub : ∀ q ∈ rs ++ [r], ∀ c ∈ q.signs, c ∈ cs) : (longL n r l).length ≤ (textsTo cs n).length * (n + 1) := by
  have key : ((l.flatMap fun u => ((partsR n r).filter fun p => decide ((cd u).length + (cd p).length ≤ n)).map fun p => (u ++ p, (cd u).length))).length ≤ ((textsTo cs n).flatMap fun z => (List.range (n + 1)).map fun i => (z, i)).length := by
    refine nodup_len (nodup_flat f.nd (fun u _ => nodup_map (fun x _ y _ e => ?_) ((parts_nodup nd).filter _)) ?_) fun x hx => ?_
    · have e1 : u ++ x = u ++ y := (Prod.mk.inj e).1
      have := congrArg cd e1
      rw [cd_app, cd_app] at this
      exact cd_inj (List.append_cancel_left this)
    · intro u _ u' _ ne b hb hb'
      obtain ⟨p, _, rfl⟩ := List.mem_map.mp hb
      obtain ⟨p', _, e⟩ := List.mem_map.mp hb'
      have e1 := congrArg cd (Prod.mk.inj e).1
      have e2 : (cd u').length = (cd u).length := (Prod.mk.inj e).2
      rw [cd_app, cd_app] at e1
      exact ne (cd_inj (List.append_inj e1 e2).1.symm)
    · obtain ⟨u, hu, hx⟩ := List.mem_flatMap.mp hx
      obtain ⟨p, hp, rfl⟩ := List.mem_map.mp hx
      have hz : u ++ p ∈ longL n r l := List.mem_flatMap.mpr ⟨u, hu, List.mem_map.mpr ⟨p, hp, rfl⟩⟩
      obtain ⟨h1, h2⟩ := (mem_longL f).mp hz
      have le := of_decide_eq_true (List.mem_filter.mp hp).2
      refine List.mem_flatMap.mpr ⟨u ++ p, mem_texts.mpr ⟨h2, fun c hc => ?_⟩, List.mem_map.mpr ⟨(cd u).length, List.mem_range.mpr (by omega), rfl⟩⟩
      obtain ⟨q, hq, hs⟩ := fil_signs h1 c hc
      exact sub q hq c hs
  have e1 : (longL n r l).length = (l.flatMap fun u => ((partsR n r).filter fun p => decide ((cd u).length + (cd p).length ≤ n)).map fun p => (u ++ p, (cd u).length)).length := by
    unfold longL longR
    rw [List.length_flatMap, List.length_flatMap]
    congr 1
    refine List.map_congr_left fun u _ => ?_
    rw [List.length_map, List.length_map]
  have e2 : ∀ L : List Str, (L.flatMap fun z => (List.range (n + 1)).map fun i => (z, i)).length = L.length * (n + 1) := fun L => by
    rw [List.length_flatMap]
    induction L with
    | nil => simp
    | cons a L ih => rw [List.map_cons, List.sum_cons, ih, List.length_map, List.length_range, List.length_cons, Nat.add_mul, Nat.one_mul, Nat.add_comm]
  rw [e2] at key
  rw [e1]
  exact key
/-- those of one length are as many as are counted -/
theorem found_count {n m : Nat} {rs : List RunD} {l : List Str} {a : List Nat} (f : Found n rs l) (nd : a.Nodup) (g : Good rs) (hm : m ≤ n) (sub : ∀ r ∈ rs, ∀ c ∈ r.signs, c ∈ a) : (l.filter fun z => decide ((cd z).length = m)).length = cnt a rs m := by
  have := cnt_of (l := a) (rs := rs) (m := m) (M := (l.filter fun z => decide ((cd z).length = m)).map cd) nd g (nodup_map (fun x _ y _ e => cd_inj e) (f.nd.filter _)) fun t => ?_
  · rw [this, List.length_map]
  · constructor
    · intro h
      obtain ⟨z, hz, rfl⟩ := List.mem_map.mp h
      obtain ⟨h1, h2⟩ := List.mem_filter.mp hz
      obtain ⟨h3, _⟩ := (f.mem z).mp h1
      refine ⟨⟨of_decide_eq_true h2, fun s hs => ?_⟩, h3⟩
      obtain ⟨r, hr, q⟩ := fil_signs h3 s hs
      exact sub r hr s q
    · rintro ⟨⟨h1, _⟩, h2⟩
      exact List.mem_map.mpr ⟨tx t, List.mem_filter.mpr ⟨(f.mem _).mpr ⟨by rw [cd_tx]; exact h2, by rw [cd_tx, h1]; exact hm⟩, decide_eq_true (by rw [cd_tx]; exact h1)⟩, cd_tx t⟩
end K0
end
/-! ### SetL -/
section
set_option Elab.async false
set_option linter.all false
set_option maxRecDepth 100000
set_option maxHeartbeats 4000000
/-! set(l) of a list of texts. -/
namespace SetTx
open PySem PySem.Spec PyProof.Rows L2 PySem.Froz
section
variable {P : Program} {w : World} {A : Around} {E : Value → Shared → Prop} {s : Shared}
theorem call_set_txtL {a : Addr} {items : Array Value} {zs : List Str} {Q : Value → Shared → Prop} (hh : A.handled = none) (ht : s.heap.IsList a items) (its : StrsAre items.toList zs) (room : zs.length + 1 < scanBound)
    (q : ∀ (h' : Heap) (tk : Nat) (l : List Str), (∀ b o, s.heap.get? b = some o → h'.get? b = some o) → Holds P w h' s.heap.objs.size l → l.Nodup → (∀ z, z ∈ l ↔ z ∈ zs) → l.length ≤ zs.length → Q (.ref s.heap.objs.size) { s with heap := h', toks := tk }) :
    wpAny (model P w) A (call (.type "set") [.ref a]) Q E s := by
  have size : items.size = zs.length := by
    have z := StrsAre.length its
    rw [Array.length_toList] at z
    exact z
  obtain ⟨c0, tl0, mro0⟩ := F.called_set.mro
  have mk0 := F.called_set.made
  have sb0 := F.called_set.sub
  have nt0 := F.called_set.notType
  have cc0 := F.called_set.canCreate
  have tc0 := F.typeCall_set_1 (.ref a)
  refine wpAny_call (codeAny_of_tree (show wpAny _ _ (callAny (.type "set") _) _ _ _ from wpAny_pure ⟨Code.quiet_builtin _ (by decide +kernel), codeAny_builtin F.entry_type_call ?_⟩))
  rw [Around.under_plain (weight_type_call_type "set" [.ref a] []) rfl]
  repeat (any_goals (first | assumption | wp_step))
  refine codeAny_mono (code_set_led1 (.ref a) (E := E) (Q₁ := fun obj s₁ => obj = .ref s.heap.objs.size ∧ s₁ = { s with heap := s.heap.push (freshSet w) }) ⟨rfl, rfl⟩) fun r s₁ hr => ?_
  match r, hr with
  | .error e, hr => exact hr
  | .ok (.ret obj), hr =>
    obtain ⟨rfl, rfl⟩ := hr
    have hS : (s.heap.push (freshSet w)).get? s.heap.objs.size = some (freshSet w) := Heap.get?_push_size _ rfl
    have ty : Shared.TypeIs { s with heap := s.heap.push (freshSet w) } (.ref s.heap.objs.size) "set" := ⟨_, hS, rfl⟩
    have lk0 := F.called_set.init.lookup
    have bd0 := F.called_set.init.bind (.ref s.heap.objs.size)
    repeat (any_goals (first | assumption | wp_step))
    let Got : Shared → Prop := fun s₂ => ∃ (h' : Heap) (tk : Nat) (l : List Str), s₂ = { s with heap := h', toks := tk } ∧ (∀ b o, s.heap.get? b = some o → h'.get? b = some o) ∧ Holds P w h' s.heap.objs.size l ∧ l.Nodup ∧ (∀ z, z ∈ l ↔ z ∈ zs) ∧ l.length ≤ zs.length
    refine codeAny_mono (codeAny_call_builtin (R := wants (fun r s₂ => r = .none ∧ Got s₂) E) F.called_set.init.plain F.entry_set_init (check_set_init_1 ty ?_)) fun r₂ s₂ h₂ => ?_
    · obtain ⟨⟨oc, od, odt, osl⟩, hot, ct, nt, dt⟩ := ht
      simp only at ct dt
      subst ct dt
      have hot1 : (s.heap.push (freshSet w)).get? a = some { cls := .type "list", dict := od, data := .seq items nt, slots := osl } := Heap.get?_push_of_some _ hot
      have u1 := F.sub_list_set
      have u2 := F.sub_list_frozenset
      have u3 : (Value.type "list" == Value.type "dict") = false := by decide
      have isT : (s.heap.push (freshSet w)).IsList a items := ⟨_, hot1, rfl, nt, rfl⟩
      have aS : a < s.heap.objs.size := Heap.lt_size hot
      unfold Builtin.«set.__init__» noKeywords Builtin.Frozenset.updateFrom
      generalize held : pyIter = PI
      wp_walk
      subst held
      refine wpAny_pyIter_list isT (wpAny_bind (wpAny_runValue ?_))
      have sz1 : (s.heap.push (freshSet w)).objs.size = s.heap.objs.size + 1 := Heap.size_push ..
      have apart : a ≠ (s.heap.push (freshSet w)).objs.size := by
        rw [sz1]
        exact Nat.ne_of_lt (Nat.lt_succ_of_lt aS)
      have far : s.heap.objs.size ∉ [(s.heap.push (freshSet w)).objs.size, a] := fun z => by
        rw [sz1] at z
        rcases List.mem_cons.mp z with z | z
        · exact absurd z (Nat.ne_of_lt (Nat.lt_succ_self _))
        · exact absurd (List.mem_singleton.mp z) (Nat.ne_of_gt aS)
      have h3 : A.in1.in1.in1.handled = none := by simp [hh]
      refine fill (Walks.toS (Walks.list h3 (s.heap.push (freshSet w)).objs.size a apart items)) far size room (fun i v hv => ?_) 0 _ [] (Nat.zero_le _) ⟨⟨_, Heap.get?_push_size _ rfl, rfl, rfl⟩, isT.push _⟩ (Nat.le_refl _) List.nodup_nil (fun z => by simp) (Holds.new (Heap.get?_push_of_some _ hS)) fun s' l' mv a1 a2 a3 a4 => ?_
      · have lt : i < zs.length := by
          rw [← size]
          exact (Array.getElem?_eq_some_iff.mp hv).1
        obtain ⟨t, e⟩ := L2S.strs_get its i v (by rw [Array.getElem?_toList]; exact hv)
        exact ⟨_, t, List.getElem?_eq_getElem lt, e lt⟩
      · obtain ⟨h', g2, d', tk', os'⟩ := s'
        obtain rfl : g2 = s.gens := mv.gens
        obtain rfl : d' = s.drawn := mv.drawn
        obtain rfl : os' = s.os := mv.os
        show wpAny _ _ _ _ _ _
        refine wpAny_pure ?_
        show wpAny _ _ (ret Value.none) _ _ _
        refine wpAny_pure ⟨rfl, h', tk', l', rfl, fun b o e => ?_, a4, a2, a3, by rw [← size]; exact a1⟩
        have b1 : b < s.heap.objs.size := Heap.lt_size e
        refine mv.heap b o (fun z => ?_) (Heap.get?_push_of_some _ (Heap.get?_push_of_some _ e))
        rcases List.mem_cons.mp z with z | z
        · exact absurd z (Nat.ne_of_lt b1)
        · have z2 := List.mem_singleton.mp z
          rw [sz1] at z2
          exact absurd z2 (Nat.ne_of_lt (Nat.lt_succ_of_lt b1))
    · match r₂, h₂ with
      | .error e, h₂ => exact h₂
      | .ok (.ret r), h₂ =>
        obtain ⟨rfl, h', tk, l, rfl, k1, k2, k3, k4, k5⟩ := h₂
        repeat (any_goals (first | assumption | wp_step))
        exact q _ _ _ k1 k2 k3 k4 k5
end
end SetTx
end
/-! ### SetL2 -/
section
set_option Elab.async false
set_option linter.all false
set_option maxRecDepth 100000
set_option maxHeartbeats 4000000
/-! set(l) of a list of texts, as a call over the abstract heap. -/
namespace SetTx
open PySem PySem.Spec PyProof.Rows L2
section
variable {X : Cx}
def rSetTxL (K : PySem.W.Frag) (P : Program) (w : World) : List V → Hp → VK → Prop := fun xs H Q => ∃ (t : Addr) (zs : List Str), xs = [V.ref t] ∧ SqL K H t (zs.map V.str) ∧ zs.length < 1000 ∧
  ∀ a l, H a = none → l.Nodup → (∀ z, z ∈ l ↔ z ∈ zs) → l.length ≤ zs.length → Q (.ref a) (upd H a (TxO P w a l))
theorem cr_setTxL (hc : X.calm = true) : CallR X (.type "set") (rSetTxL X.K X.prog X.w) := by
  intro pins s σ H xs us Q I r h
  obtain ⟨t, zs, rfl, ht, hl, q⟩ := h
  rw [Vals.ref1 r]
  obtain ⟨its, rv, pl, hz⟩ := I.list ht
  have hn : H s.heap.objs.size = none := I.hok.fresh (Nat.le_refl _)
  refine call_set_txtL (P := X.prog) (w := X.w) (zs := zs) (I.ok.hd hc) pl.isList (by simpa using rv.strs) (by show _ < 4096; omega) fun h' tk l k R nd mem le => ?_
  exact ⟨.ref s.heap.objs.size, upd H s.heap.objs.size (TxO X.prog X.w s.heap.objs.size l), I.laid (t' := tk) k (Nat.le_refl _) (txO_new R), rfl, q _ l hn nd mem le⟩
end
end SetTx
end
/-! ### SK0 -/
section
set_option Elab.async false
set_option linter.all false
set_option maxRecDepth 100000
set_option maxHeartbeats 4000000
/-! A lambda text: (len(text), text), called on the bare heap. -/
namespace SK
open PySem PySem.Calls PyProof.Rows PySem.W
section
variable {P : Program} {w : World} {A : Around} {s : Shared} {f c' : Addr} {q : Str} {params : Arguments} {scope : Scope} {pm ctv : Value} {mg mb : Str → Option Value} {p1 p2 p3 p4 p5 : Pos} {k : Nat}
abbrev sTx : Str := "text"
abbrev sLn : Str := "len"
abbrev keyB (p1 p2 p3 p4 p5 : Pos) (k : Nat) : Expr := .Tuple [.Call (.Name "len" p1) [.Name "text" p2] [] p3, .Name "text" p4] k p5
theorem key_code {x : Str} {t : Tok} (room : A.depth < recursionLimit) (hf : s.heap.get? f = some (kla_obj "<lambda>" q params (keyB p1 p2 p3 p4 p5 k) scope [] pm c' ctv)) (hc : s.heap.CodeRec (.ref c') q)
    (kind : scope.kind = .function) (co : scope.isCoroutine = false) (gen : scope.isGenerator = false) (loc : scope.names.lookup sTx = some NameKind.local) (gl : scope.names.lookup sLn = some NameKind.globalImplicit)
    (hbind : ∀ v, bindArgs (kla_fn "<lambda>" q params (keyB p1 p2 p3 p4 p5 k) scope [] pm (.ref c') ctv) ⟨[v], []⟩ = pure [(sTx, v)]) (lim : s.heap.NoLimit) (ng : s.heap.Ns mainGlobals mg) (nb : s.heap.Ns builtinsNs mb) (hm : mg sLn = none) (hb : mb sLn = some (.builtin "len")) (hx : x.length ≤ sizeLine) :
    codeAny (model P w) A (.call (.ref f) ⟨[.str x t], []⟩) (fun r s' => ∃ v, r = .ok (.ret v) ∧ KeyPure (.tuple [.int x.length, .str x]) s v s') s := by
  refine kla_callFunE room hf rfl co gen rfl hc ?_
  rw [hbind]
  refine wpAny_pure (wpAny_newFunctionEnv_cells kind (fun y hy => .inl ?_) fun env he s1 X => ?_)
  · rw [List.mem_singleton.mp hy]; exact loc
  subst he
  have N := X.toInCall
  obtain ⟨h1, tk, rfl, kp⟩ := X.done
  refine ⟨lim.keeps kp, kla_codeExpr ?_⟩
  have kO : ∀ env : Env, env.scope = scope → env.kindOf sTx = some .local := fun env e => by
    show env.scope.names.lookup sTx = _
    rw [e]; exact loc
  have ns := N.ns
  have name : ∀ {Q : Value → Shared → Prop} {E : Value → Shared → Prop} {B : Around} {tk' : Tok} {pos : Pos}, Q (.str x t) { s with heap := h1, toks := tk' } →
      wpAny (model P w) B (eval (.Name sTx pos) (newEnv scope s.heap.objs.size mainGlobals (cellsFrom (s.heap.objs.size + 1) scope.names []) (q ++ ".<locals>.") (some f) (.ref c') none builtinsNs)) Q E { s with heap := h1, toks := tk' } := fun h =>
    wpAny_Name (wpAny_loadName_local kind (kO _ rfl) ns (by
      show bindL _ [(sTx, Value.str x t)] (fun _ => none) sTx = _
      unfold bindL
      simp only [bindL, show (newEnv scope s.heap.objs.size mainGlobals (cellsFrom (s.heap.objs.size + 1) scope.names []) (q ++ ".<locals>.") (some f) (.ref c') none builtinsNs).kindOf sTx = some .local from kO _ rfl]
      simp) h) (by decide)
  refine wpAny_Tuple_spliced ?_
  refine spliced_cons (wpAny_Call_Name_kw (Name_function_global kind (by exact gl) (loadGlobal_builtin (ng.keeps kp) hm (nb.keeps kp) hb ?_) (by decide)))
  refine PyProof.Rows.callWith_builtin1 ?_ (by rfl) (by rfl)
  refine spliced_cons (name (spliced_nil ?_))
  have sl : sizeLine = 16777216 := by rfl
  refine len_str (by omega) ?_
  refine spliced_cons (name (spliced_nil ?_))
  refine ⟨by show 2 ≤ sizeLine; decide, _, rfl, _, _, rfl, fun b o e => Heap.get?_push_of_some _ (kp b o e), ?_⟩
  exact Reads.tuple (as := []) (Heap.get?_push_size _ rfl) rfl rfl (ReadsAll.cons (as := []) (bs := []) (Reads.int _ _) (ReadsAll.cons (as := []) (bs := []) (Reads.str _ _) ReadsAll.nil))
end
end SK
end
/-! ### SK1 -/
section
set_option Elab.async false
set_option linter.all false
set_option maxRecDepth 100000
set_option maxHeartbeats 4000000
/-! sorted(xs, key=lambda text: (len(text), text)) of a list of texts. -/
namespace SK
open PySem PySem.Spec PyProof.Rows L2 LamX
def keyD (z : Str) : PyData := .tuple [.int z.length, .str z]
theorem key_depth (z : Str) : (keyD z).depth ≤ 2 := by
  unfold keyD
  simp [PyData.depth, PyData.depthAll]
def tSortLam (T : List (Addr × Str)) (te : TE) : TE := fun σ H Q => te σ H fun v H1 => ∃ (a : Addr) (zs : List Str), v = .ref a ∧ H1 a = some (.lst (zs.map V.str)) ∧ (∀ z ∈ zs, z.length ≤ sizeLine) ∧ Tabs T H1 ∧
  ∀ (H2 : Hp) (p : Addr) (ys : List Str), ExtN H1 H2 → Tabs T H2 → ys.Perm zs → H2 p = none → Q (.ref p) (upd H2 p (.lst (ys.map V.str)))
theorem each_strs : ∀ {out : List Value} {ys : List Str}, PySem.W.EachIs (fun v z => ∃ t, v = Value.str z t) out ys → StrsAre out ys
  | _, _, .nil => .nil
  | _, _, .cons ⟨t, e⟩ r => by subst e; exact .cons _ t (each_strs r)
theorem strs_each : ∀ {out : List Value} {ys : List Str}, StrsAre out ys → PySem.W.EachIs (fun v z => ∃ t, v = Value.str z t) out ys
  | _, _, .nil => .nil
  | _, _, .cons _ t r => .cons ⟨t, rfl⟩ (strs_each r)
section
variable {X : Cx} {T : List (Addr × Str)} {c P : Addr} {e : Expr} {te : TE} {params : Arguments} {scope : Scope} {p p1 p2 p3 p4 p5 pos lpos kpos : Pos} {k : Nat}
theorem pe_sortedLam (hg : Gl X "sorted") (hm : X.mg "sorted" = none) (hl : X.mg "len" = none) (he : PE X e te) (TB : TabB X.base X.mg c P) (hcode : X.env.code = .ref c) (hmT : (P, X.env.qual ++ "<lambda>") ∈ T) (hu : ∀ q ∈ T, q.1 = P → q.2 = X.env.qual ++ "<lambda>")
    (hr : Room 4 X.A) (hdef : defaultsOf params X.env = ([], [])) (kind : scope.kind = .function) (co : scope.isCoroutine = false) (gen : scope.isGenerator = false) (hn : scope.names = [(sTx, NameKind.local), (sLn, NameKind.globalImplicit)])
    (hbind : ∀ (q : Str) (pm cv ctv v : Value), bindArgs (PySem.W.kla_fn "<lambda>" q params (keyB p1 p2 p3 p4 p5 k) scope [] pm cv ctv) ⟨[v], []⟩ = pure [(sTx, v)])
    (hst : starEach [e] X.env = (false, eval e X.env) :: starEach [] X.env := by rfl) (hb1 : backTo pos (starEach [e] X.env) = (false, eval e X.env) :: backTo pos (starEach [] X.env) := by rfl) (hpl : (backTo pos (starEach [e] X.env)).any (·.1) = false := by rfl) :
    PE X (.Call (.Name "sorted" p) [e] [⟨some "key", .Lambda params (keyB p1 p2 p3 p4 p5 k) scope lpos, kpos⟩] pos) (tSortLam T te) := by
  refine ⟨fun pins s σ H Q I h => ?_⟩
  refine wpAny_Call_Name_kw (ld_blt (u := .builtin "sorted") I hg hm (by decide +kernel) ?_)
  refine PyProof.Rows.callWith_kw (thn ((pa_cons he pa_nil hst).run pos pins s σ H (fun vs H1 => match vs with
    | [v] => ∃ (a : Addr) (zs : List Str), v = .ref a ∧ H1 a = some (.lst (zs.map V.str)) ∧ (∀ z ∈ zs, z.length ≤ sizeLine) ∧ Tabs T H1 ∧ ∀ (H2 : Hp) (p : Addr) (ys : List Str), ExtN H1 H2 → Tabs T H2 → ys.Perm zs → H2 p = none → Q (.ref p) (upd H2 p (.lst (ys.map V.str)))
    | _ => False) I h) fun us s1 ⟨vs, H1, I1, r1, q1⟩ => ?_) hb1 hpl (by rfl) (by rfl)
  match vs, q1, r1 with
  | [v], ⟨a, zs, ev, ha, hz, hT, q⟩, r1 =>
  subst ev
  obtain rfl := Vals.ref1 r1
  show wpAny _ _ (evalAll [do let v ← eval (.Lambda params (keyB p1 p2 p3 p4 p5 k) scope lpos) X.env; standAt pos; pure v]) _ _ _
  have hclo : cloFrom X.env.cells scope.names [] = [] := by rw [hn]; rfl
  refine wpAny_evalAll_cons (wpAny_bind (lam_make2 I1 TB hcode hmT hu hT hdef (fun y hy e => ?_) fun f c' pm ctv H2 s2 I2 eN T2 hf hfn hfr hco => wpAny_bind (wpAny_standAt (wpAny_pure (wpAny_evalAll_nil ?_)))))
  · rw [hn] at hy
    rcases List.mem_cons.mp hy with rfl | hy
    · cases e
    · rw [List.mem_singleton.mp hy] at e; cases e
  rw [hclo] at hf
  have ha2 := eN a _ ha (fun ps e => nomatch e)
  show wpAny _ _ (call (.builtin "sorted") [.ref a] [("key", .ref f)]) _ _ _
  obtain ⟨its, rv, pl, hsz⟩ := I2.list (.of ha2)
  have sa : StrsAre its zs := rv.strs
  have len := StrsAre.length sa
  obtain ⟨⟨oc, cvs, ct, hoc, hdc, hvc⟩, _, _⟩ := I2.hok c' _ hco
  obtain ⟨mb, hmb1, hmb2⟩ := I2.mod.blt
  refine PySem.W.sorted_key_data (R := fun v z => ∃ t, v = Value.str z t) (bs := zs) (b := false) keyD pl.isList (strs_each sa) ?_ ?_ ?_ ?_ (ksk_s1 _ _) (fun _ => ksk_l1 _ _) (fun x => ksk_t1 f x) ?_ ?_
  · intro d hd d' hd'
    obtain ⟨y, _, rfl⟩ := List.mem_map.mp hd
    obtain ⟨z, _, rfl⟩ := List.mem_map.mp hd'
    rfl
  · refine .inl fun d hd => ?_
    obtain ⟨y, _, rfl⟩ := List.mem_map.mp hd
    exact ⟨_, _, rfl⟩
  · rw [← len]
    have := rv.length
    omega
  · intro z _
    have h1 := key_depth z
    have h2 := hr.un
    omega
  · rintro v z ⟨t, rfl⟩ hzm h tk kp
    have room : X.A.in1.in1.depth < recursionLimit := hr.depth
    refine wpAny_call (codeAny_mono (key_code (s := { s2 with heap := h, toks := tk }) (mg := X.mg) (mb := mb) room (kp _ _ hf) ⟨c', oc, cvs, ct, rfl, kp _ _ hoc, hdc, hvc⟩ kind co gen (by rw [hn]; rfl) (by rw [hn]; rfl) (fun v => hbind _ _ _ _ v) ?_ ?_ ?_ hl ?_ (hz z hzm)) fun r s' hq => ?_)
    · exact (I2.mod.nolimit.keeps I2.bk).keeps kp
    · exact (I2.mod.glob.keeps I2.bk).keeps kp
    · exact (hmb1.keeps I2.bk).keeps kp
    · exact (hmb2 _ (by decide)).trans PySem.boot_len
    · obtain ⟨v, rfl, hk⟩ := hq
      exact hk
  · intro out cc h' tk kp fr hout ol eo
    have pm2 : (zs.mergeSort (PySem.W.dataLe false keyD)).Perm zs := List.mergeSort_perm _ _
    have so := each_strs eo
    have hlen : ((zs.mergeSort (PySem.W.dataLe false keyD)).map V.str).length ≤ sizeLine := by
      rw [List.length_map, pm2.length_eq, ← len]
      have := rv.length
      omega
    exact ⟨.ref _, upd H2 (s2.heap.objs.size + 1) (.lst ((zs.mergeSort (PySem.W.dataLe false keyD)).map V.str)), I2.laid (t' := tk) kp (Nat.le_succ _) ⟨hlen, _, cc, vals_of_strs so, hout⟩, rfl, q _ _ _ eN T2 pm2 (I2.hok.fresh (Nat.le_succ _))⟩
end
end SK
end
/-! ### FL -/
section
set_option Elab.async false
set_option linter.all false
set_option maxRecDepth 100000
set_option maxHeartbeats 4000000
/-! _law_fillings. -/
namespace K0
open PySem PySem.Spec PyProof.Rows L2 Rd LamX
abbrev fillN : List Str := ["runs", "upto", "found", "signs", "low", "high", "text", "parts", "longer", "part"]
theorem scFill : FnScope fillN ["runs", "upto"] (defScope (top iLFill)) := ⟨rfl, rfl, rfl, by decide +kernel, rfl, by decide +kernel, by decide +kernel⟩
abbrev fillQ : Str := "_law_fillings.<locals>.<lambda>"
def spFill (K : PySem.W.Frag) (P : Addr) : Sp := fun vs H Q _ => ∃ (p : Addr) (xs : List V) (rs : List RunD) (cs : List Nat), vs = [.ref p, .int 4] ∧ SqT K H p xs ∧ Paired (RunAt K H) xs rs ∧ rs.length ≤ 4 ∧ (∀ r ∈ rs, RunOk r) ∧ cs.length ≤ 3 ∧ (∀ r ∈ rs, ∀ c ∈ r.signs, c ∈ cs) ∧ Tabs [(P, fillQ)] H ∧
  ∀ H' l ys, ExtN H H' → Tabs [(P, fillQ)] H' → (∀ b o, (∀ ps, o ≠ .tbl ps) → H b = some o → b ≠ l) → H' l = some (.lst (ys.map V.str)) → Found 4 rs ys → Q (.ref l) H'
section
variable {P : Program} {w : World} {K : PySem.W.Frag} {mg : Str → Option Value} {base : Heap} {f fT ct PT : Addr} {fd fdT : FuncData}
theorem okC {CX : CXT} {x qual : Str} {params : Arguments} {body : List Stmt} {scope : Scope} {dvs : List V} {kws : List (Str × V)} {N ps : List Str} {k : Nat} {sp : Sp} (F : FunD K x qual params body scope dvs kws f fd) (S : FnScope N ps scope) (len : ∀ vs H Q E, sp vs H Q E → vs.length = ps.length)
    (hbody : ∀ (cdv : Value), fd.code = cdv → ∀ (A : Around) (outer : List Env) (s : Shared) (H : Hp) (vs : List V) (Q : VK) (E : XK), Room k (A.deeper (envOfC qual scope s.heap.objs.size f cdv)) → sp vs H Q E →
      ∃ t, PSs (cxOf CX P w K mg base N qual scope f cdv A outer s H E) body t ∧ t { nx := fun _ H' => Q .non H', rt := Q } (L2.start N vs) H) : FnOk P w K mg base CX (k + 1) f fd ps sp := by
  obtain ⟨oc, od, dV, kV, doc, pm, an, cdv, ct, osl, rfl, lk, hcd, _, _⟩ := F.ex
  exact fn_of lk hcd S len fun A outer s H vs Q E hr hsp => hbody cdv rfl A outer s H vs Q E hr hsp
theorem ok_fill {k : Nat} (F : FnP K "_law_fillings" iLFill f fd) (mmin : mg "min" = none) (mlen : mg "len" = none) (msorted : mg "sorted" = none) (mset : mg "set" = none)
    (FT : FnOk P w K mg base CX0 (k + 4) fT fdT ["signs", "upto"] (spTexts K)) (gT : mg "_law_texts" = some (.ref fT)) (kT : PySem.W.keepIn K (.ref fT) = true) (bT : Binds K fdT ["signs", "upto"] [])
    (hcode : fd.code = .ref ct) (TB : TabB base mg ct PT) : FnOk P w K mg base CX0 (k + 5) f fd ["runs", "upto"] (spFill K PT) := by
  refine okC F scFill (fun vs H Q E h => ?_) (fun cdv hcd A outer s H vs Q E hr h => ?_)
  · obtain ⟨p, xs, rs, cs, rfl, _⟩ := h
    rfl
  · obtain ⟨p, xs, rs, cs, rfl, hT, hP, r4, ok, c3, sub, tabs, q⟩ := h
    obtain rfl : cdv = .ref ct := hcd.symm.trans hcode
    refine ⟨_, PSs.nox (C8.pss_cut (ps_set (i := 2) scFill.nd rfl (.inl rfl) (pe_lst (pa_cons pe_str pa_nil)))
      (C8.pss_cut (ps_for PassesOwn.never rfl (pi_tup (pv 0)) (pg_tup rfl (pgs_cons (pg_name (i := 3) scFill.nd rfl (.inl rfl)) (pgs_cons (pg_name (i := 4) scFill.nd rfl (.inr rfl)) (pgs_cons (pg_name (i := 5) scFill.nd rfl (.inl rfl)) pgs_nil))))
        (C8.pss_cut (ps_setLc (i := 7) (own := [("text", 6)]) (g := gName 6) (te := tVar 6) rfl scFill.nd rfl rfl (sw_true rfl rfl rfl rfl)
            (pi_list (pe_call FT hr (by rfl) gT kT bT .nil pass0 (pa_cons (pv 3) (pa_cons (pe_ifExp (pt_cmp (pc_isN (pv 5))) (pv 1) (pe_callB (call_min2 rfl) (by rfl) mmin (by decide +kernel) (pa_cons (pv 1) (pa_cons (pv 5) pa_nil)))) pa_nil))))
            (blkOk_by (N := fillN) (sc := defScope (top iLFill)) (by decide +kernel)) (fun _ _ _ _ _ => pg_name (i := 6) scFill.nd rfl (Or.inl rfl)) (fun _ _ _ _ _ => pts_one (pt_cmpR op_ge (pe_callB call_len_str (by rfl) mlen PySem.boot_len (pa_cons (pv 6) pa_nil)) (pv 4) (nomark _))) (fun _ _ _ _ _ => pv 6))
        (C8.pss_cut (ps_set (i := 8) scFill.nd rfl (.inl rfl) (pe_lst pa_nil))
        (C8.pss_cut (ps_for PassesOwn.never rfl (pi_list (pv 2)) (pg_name (i := 6) scFill.nd rfl (.inr rfl))
          (pss_one (ps_expr (pe_bm PySem.F.plainAttrs_list PySem.F.slot_list_extend PySem.F.type_list_extend mt_extend (pv 8) (pa_cons (pe_lc (own := [("part", 9)]) (g := gName 9) (te := tOp (fun x y H Q => ∃ i j, x = .str i ∧ y = .str j ∧ i.length + j.length ≤ sizeLine ∧ Q (.str (i ++ j)) H) (tVar 6) (tVar 9)) rfl scFill.nd (pi_list (pv 7)) (blkOk_by (N := fillN) (sc := defScope (top iLFill)) (by decide +kernel))
            (fun _ _ _ _ _ => pg_name (i := 9) scFill.nd rfl (Or.inl rfl)) (fun _ _ _ _ _ => pts_one (pt_cmpR op_le (pe_callB call_len_str (by rfl) mlen PySem.boot_len (pa_cons (pe_op op_add_str (pv 6) (pv 9)) pa_nil)) (pv 1) (nomark _))) (fun _ _ _ _ _ => pe_op op_add_str (pv 6) (pv 9))) pa_nil)))))
        (pss_one (ps_set (i := 2) scFill.nd rfl (.inl rfl) (pe_callB (SetTx.cr_sortedTx rfl) (by rfl) msorted (by decide +kernel) (pa_cons (pe_callTy (SetTx.cr_setTxL rfl) (by rfl) mset (by decide +kernel) (pa_cons (pv 8) pa_nil)) pa_nil))))))))
      (pss_one (ps_ret (SK.pe_sortedLam (T := [(PT, fillQ)]) (by rfl) msorted mlen (pv 2) TB rfl (List.mem_singleton.mpr rfl) (fun x hx _ => by rw [List.mem_singleton.mp hx]; rfl) (Room.mono hr (by omega)) (by rfl) rfl rfl rfl rfl (fun _ _ _ _ _ => by rfl)))))), ?_⟩
    have sl : sizeLine = 16777216 := sizeLine_eq
    have xl := paired_len hP
    refine ⟨fun σ' H' => ∃ l, σ' = [some (.ref p), some (.int 4), some (.ref l), none, none, none, none, none, none, none] ∧ Same H H' ∧ H l = none ∧ H' l = some (.lst (([""] : List Str).map V.str)), ?_, ?_⟩
    · exact ⟨by show 1 ≤ sizeLine; omega, fun l nl => ⟨l, rfl, same_upd nl, nl, upd_same⟩⟩
    rintro σ1 H1 ⟨l0, rfl, s1, nl0, e1⟩
    refine ⟨fun σ' H' => ∃ l ys x3 x4 x5 x6 x7 x8, σ' = [some (.ref p), some (.int 4), some (.ref l), x3, x4, x5, x6, x7, x8, none] ∧ Same H H' ∧ H l = none ∧ H' l = some (.lst (ys.map V.str)) ∧ Found 4 rs ys, ?_, ?_⟩
    · refine ⟨_, rfl, p, rfl, ⟨_, same_tup s1 hT⟩, for_it (walk_tup (xs := xs)) (fun m σ' H' => ∃ l ys x3 x4 x5 x6 x7 x8, σ' = [some (.ref p), some (.int 4), some (.ref l), x3, x4, x5, x6, x7, x8, none] ∧ Same H H' ∧ H l = none ∧ H' l = some (.lst (ys.map V.str)) ∧ Found 4 (rs.take m) ys)
        ⟨l0, [""], none, none, none, none, none, none, rfl, s1, nl0, e1, found_nil 4⟩ (fun m σ' H' _ hP2 => ?_) (fun m x σ' H' H'' hm hP2 hY => ?_) (fun σ' H' hP2 => ?_)⟩
      · obtain ⟨_, _, _, _, _, _, _, _, _, s2, _⟩ := hP2
        exact same_tup s2 hT
      · obtain ⟨l, ys, x3, x4, x5, x6, x7, x8, rfl, s2, nl, e2, fo⟩ := hP2
        obtain ⟨eH, hx⟩ := hY
        subst H''
        obtain ⟨r, hr2, hra⟩ := paired_at' hP hx
        have tk : rs.take (m + 1) = rs.take m ++ [r] := by rw [List.take_succ, hr2]; rfl
        have okr := ok r (List.mem_of_getElem? hr2)
        rw [tk]
        obtain ⟨a, sg, rfl, hrT, hsT⟩ := hra
        have subm : ∀ q ∈ rs.take m ++ [r], ∀ c ∈ q.signs, c ∈ cs := fun q hq => sub q ((List.mem_append.mp hq).elim List.mem_of_mem_take fun z => by rw [List.mem_singleton.mp z]; exact List.mem_of_getElem? hr2)
        have nds : r.signs.Nodup := okr.asc.imp fun h => Nat.ne_of_lt h
        have s3c : r.signs.length ≤ 3 := Nat.le_trans (nodup_len nds fun c hc => sub r (List.mem_of_getElem? hr2) c hc) c3
        refine ⟨a, _, rfl, same_tup s2 hrT, rfl, _, _, rfl, _, _, rfl, _, _, rfl, rfl, ?_⟩
        have sT := same_tup s2 hsT
        have up4 : upR 4 r ≤ 4 := by
          unfold upR
          split
          · exact Nat.le_refl _
          · split <;> omega
        -- parts
        refine ⟨fun σ' H'' => ∃ lp x6, σ' = [some (.ref p), some (.int 4), some (.ref l), some (.ref sg), some (.int ((r.low : Nat) : Int)), some (hiV r.high), x6, some (.ref lp), x8, none] ∧ Same H' H'' ∧ H'' lp = some (.lst ((partsR 4 r).map V.str)), ?_, ?_⟩
        · refine ⟨_, rfl, _, rfl, ?_⟩
          have low1 : ∀ z : Str, z ∈ textsTo r.signs (upR 4 r) → z.length ≤ sizeLine := fun z hz => by
            have := (mem_texts.mp hz).1
            rw [cd_len] at this
            omega
          have few0 : (textsTo r.signs (upR 4 r)).length ≤ 121 := by
            have h1 := nodup_len (texts_nodup nds (upR 4 r + 1)) (m := textsTo r.signs 4) fun z hz => by
              have := mem_pre.mp hz
              exact mem_texts.mpr ⟨by omega, this.2⟩
            exact Nat.le_trans h1 (texts121 s3c)
          cases hh : r.high with
          | none =>
            refine ⟨_, rfl, ite2 (fun _ => ⟨_, rfl, sg, r.signs, upR 4 r, by unfold upR; rw [hh]; rfl, sT, s3c, up4, fun H2 lt s3 e3 => ?_⟩) (fun z => absurd rfl z)⟩
            refine ⟨lt, rfl, ⟨_, .of e3⟩, fun D nD => lc_it (walk_list (xs := (textsTo r.signs (upR 4 r)).map V.str)) (fun j H5 => Same H2 H5 ∧ H5 D = some (.lst ((((textsTo r.signs (upR 4 r)).take j).filter fun z => decide (r.low ≤ (cd z).length)).map V.str))) ⟨same_upd nD, upd_same⟩ (fun j H5 _ hP => .of (hP.1 _ _ e3)) (fun j y H5 H6 hj hP hY => ?_) (fun H5 hP => ?_)⟩
            · obtain ⟨s5, e5⟩ := hP
              obtain ⟨eH, hy⟩ := hY
              subst H6
              have hj2 : j < (textsTo r.signs (upR 4 r)).length := by rw [List.length_map] at hj; exact hj
              rw [List.getElem?_map, List.getElem?_eq_getElem hj2] at hy
              have tk2 : (textsTo r.signs (upR 4 r)).take (j + 1) = (textsTo r.signs (upR 4 r)).take j ++ [(textsTo r.signs (upR 4 r))[j]] := by rw [List.take_succ, List.getElem?_eq_getElem hj2]; rfl
              rw [tk2, List.filter_append]
              have hz := low1 _ (List.getElem_mem hj2)
              have kl : (((textsTo r.signs (upR 4 r)).take j).filter fun z => decide (r.low ≤ (cd z).length)).length ≤ j := Nat.le_trans (List.length_filter_le _ _) (by rw [List.length_take]; omega)
              generalize (textsTo r.signs (upR 4 r))[j] = z at hy hz
              obtain rfl : V.str z = y := Option.some.inj hy
              refine ⟨rfl, _, rfl, z, rfl, hz, _, rfl, _, _, rfl, rfl, _, rfl, ite2 (fun hb => ?_) (fun hb => ?_)⟩
              · have hb2 : decide (r.low ≤ (cd z).length) = true := by
                  have := of_decide_eq_true hb
                  rw [cd_len]
                  exact decide_eq_true (by omega)
                rw [List.filter_cons, if_pos hb2]
                refine ⟨_, rfl, _, e5, by rw [List.length_map]; omega, fun y o u => by rw [upd_ne (ne_of_none u nD)]; exact s5 _ _ u, ?_⟩
                rw [upd_same, List.map_append]
                rfl
              · have hb2 : ¬ decide (r.low ≤ (cd z).length) = true := fun q => hb (decide_eq_true (by
                  have := of_decide_eq_true q
                  rw [cd_len] at this
                  omega))
                rw [List.filter_cons, if_neg hb2, List.filter_nil, List.append_nil]
                exact ⟨s5, e5⟩
            · obtain ⟨s5, e5⟩ := hP
              rw [List.length_map, List.take_length] at e5
              exact ⟨D, _, rfl, s3.trans s5, e5⟩
          | some h =>
            refine ⟨_, rfl, ite2 (fun z => by cases of_decide_eq_true z) (fun _ => ⟨_, rfl, _, rfl, _, _, rfl, sg, r.signs, upR 4 r, ?_, sT, s3c, up4, fun H2 lt s3 e3 => ?_⟩)⟩
            · unfold upR
              rw [hh]
              show [V.ref sg, V.int (if ((h : Nat) : Int) < 4 then ((h : Nat) : Int) else 4)] ++ [] = [V.ref sg, V.int ((if h < 4 then h else 4 : Nat) : Int)]
              by_cases z : h < 4
              · rw [if_pos z, if_pos (by omega)]; rfl
              · rw [if_neg z, if_neg (by omega)]; rfl
            refine ⟨lt, rfl, ⟨_, .of e3⟩, fun D nD => lc_it (walk_list (xs := (textsTo r.signs (upR 4 r)).map V.str)) (fun j H5 => Same H2 H5 ∧ H5 D = some (.lst ((((textsTo r.signs (upR 4 r)).take j).filter fun z => decide (r.low ≤ (cd z).length)).map V.str))) ⟨same_upd nD, upd_same⟩ (fun j H5 _ hP => .of (hP.1 _ _ e3)) (fun j y H5 H6 hj hP hY => ?_) (fun H5 hP => ?_)⟩
            · obtain ⟨s5, e5⟩ := hP
              obtain ⟨eH, hy⟩ := hY
              subst H6
              have hj2 : j < (textsTo r.signs (upR 4 r)).length := by rw [List.length_map] at hj; exact hj
              rw [List.getElem?_map, List.getElem?_eq_getElem hj2] at hy
              have tk2 : (textsTo r.signs (upR 4 r)).take (j + 1) = (textsTo r.signs (upR 4 r)).take j ++ [(textsTo r.signs (upR 4 r))[j]] := by rw [List.take_succ, List.getElem?_eq_getElem hj2]; rfl
              rw [tk2, List.filter_append]
              have hz := low1 _ (List.getElem_mem hj2)
              have kl : (((textsTo r.signs (upR 4 r)).take j).filter fun z => decide (r.low ≤ (cd z).length)).length ≤ j := Nat.le_trans (List.length_filter_le _ _) (by rw [List.length_take]; omega)
              generalize (textsTo r.signs (upR 4 r))[j] = z at hy hz
              obtain rfl : V.str z = y := Option.some.inj hy
              refine ⟨rfl, _, rfl, z, rfl, hz, _, rfl, _, _, rfl, rfl, _, rfl, ite2 (fun hb => ?_) (fun hb => ?_)⟩
              · have hb2 : decide (r.low ≤ (cd z).length) = true := by
                  have := of_decide_eq_true hb
                  rw [cd_len]
                  exact decide_eq_true (by omega)
                rw [List.filter_cons, if_pos hb2]
                refine ⟨_, rfl, _, e5, by rw [List.length_map]; omega, fun y o u => by rw [upd_ne (ne_of_none u nD)]; exact s5 _ _ u, ?_⟩
                rw [upd_same, List.map_append]
                rfl
              · have hb2 : ¬ decide (r.low ≤ (cd z).length) = true := fun q => hb (decide_eq_true (by
                  have := of_decide_eq_true q
                  rw [cd_len] at this
                  omega))
                rw [List.filter_cons, if_neg hb2, List.filter_nil, List.append_nil]
                exact ⟨s5, e5⟩
            · obtain ⟨s5, e5⟩ := hP
              rw [List.length_map, List.take_length] at e5
              exact ⟨D, _, rfl, s3.trans s5, e5⟩
        rintro σ3 H3 ⟨lp, x6, rfl, s3, e3⟩
        refine ⟨fun σ' H'' => ∃ ll, σ' = [some (.ref p), some (.int 4), some (.ref l), some (.ref sg), some (.int ((r.low : Nat) : Int)), some (hiV r.high), x6, some (.ref lp), some (.ref ll), none] ∧ Same H3 H'' ∧ H3 ll = none ∧ H'' ll = some (.lst []), ?_, ?_⟩
        · exact ⟨Nat.zero_le _, fun ll nll => ⟨ll, rfl, same_upd nll, nll, upd_same⟩⟩
        rintro σ4 H4 ⟨ll, rfl, s4, nll, e4⟩
        have e2' := s4 _ _ (s3 _ _ e2)
        have e3' := s4 _ _ e3
        have lle : l ≠ ll := fun z => by have := s3 _ _ e2; rw [z, nll] at this; cases this
        have lpe : lp ≠ ll := fun z => by rw [z, nll] at e3; cases e3
        have nllH : H ll = none := none_back (s2.trans s3) nll
        have f605 : (longL 4 r ys).length ≤ 605 := by
          have h1 := long_few fo nds subm
          have h2 := texts121 c3
          have h3 : (textsTo cs 4).length * (4 + 1) ≤ 121 * 5 := Nat.mul_le_mul h2 (Nat.le_refl 5)
          omega
        have pfew : (partsR 4 r).length ≤ 121 := by
          have h1 := nodup_len (parts_nodup (n := 4) nds) (m := textsTo cs 4) fun z hz => by
            obtain ⟨h1, h2⟩ := mem_parts.mp hz
            exact mem_texts.mpr ⟨h2, fun c hc => sub r (List.mem_of_getElem? hr2) c (h1.1 c hc)⟩
          exact Nat.le_trans h1 (texts121 c3)
        -- the pairs
        refine ⟨fun σ' H'' => ∃ x6, σ' = [some (.ref p), some (.int 4), some (.ref l), some (.ref sg), some (.int ((r.low : Nat) : Int)), some (hiV r.high), x6, some (.ref lp), some (.ref ll), none] ∧ Same H H'' ∧ H'' ll = some (.lst ((longL 4 r ys).map V.str)), ?_, ?_⟩
        · refine ⟨_, rfl, l, rfl, ⟨_, .of e2'⟩, for_it (walk_list (xs := ys.map V.str)) (fun i σ' H'' => ∃ x6, σ' = [some (.ref p), some (.int 4), some (.ref l), some (.ref sg), some (.int ((r.low : Nat) : Int)), some (hiV r.high), x6, some (.ref lp), some (.ref ll), none] ∧ Same H H'' ∧ (H'' l = some (.lst (ys.map V.str)) ∧ H'' lp = some (.lst ((partsR 4 r).map V.str))) ∧ H'' ll = some (.lst ((longL 4 r (ys.take i)).map V.str)))
            ⟨x6, rfl, (s2.trans s3).trans s4, ⟨e2', e3'⟩, e4⟩ (fun i σ' H'' _ hP => ?_) (fun i y σ' H'' H5 hi hP hY => ?_) (fun σ' H'' hP => ?_)⟩
          · obtain ⟨_, _, _, ⟨e, _⟩, _⟩ := hP
            exact .of e
          · obtain ⟨x6', rfl, s5, ⟨e5, e5p⟩, e5l⟩ := hP
            obtain ⟨eH5, hy⟩ := hY
            subst H5
            have hi2 : i < ys.length := by rw [List.length_map] at hi; exact hi
            rw [List.getElem?_map, List.getElem?_eq_getElem hi2] at hy
            have tk3 : ys.take (i + 1) = ys.take i ++ [ys[i]] := by rw [List.take_succ, List.getElem?_eq_getElem hi2]; rfl
            have lens : (longL 4 r (ys.take (i + 1))).length ≤ 605 := by
              refine Nat.le_trans ?_ f605
              conv => rhs; rw [← List.take_append_drop (i + 1) ys]
              unfold longL
              rw [List.flatMap_append, List.length_append]
              exact Nat.le_add_right _ _
            rw [tk3] at lens ⊢
            have hu := (fo.mem _).mp (List.getElem_mem hi2)
            generalize ys[i] = u at hy lens hu
            obtain rfl : V.str u = y := Option.some.inj hy
            have ul : u.length ≤ 4 := by rw [← cd_len]; exact hu.2
            have le2 : longL 4 r (ys.take i ++ [u]) = longL 4 r (ys.take i) ++ longR 4 r u := by
              unfold longL
              rw [List.flatMap_append, List.flatMap_cons, List.flatMap_nil, List.append_nil]
            rw [le2] at lens ⊢
            rw [List.length_append] at lens
            refine ⟨_, rfl, .inl ⟨rfl, _, .of e5l⟩, _, rfl, lp, rfl, ⟨_, .of e5p⟩, fun D nD => lc_it (walk_list (xs := (partsR 4 r).map V.str)) (fun j H6 => Same H'' H6 ∧ H6 D = some (.lst (((((partsR 4 r).take j).filter fun q => decide ((cd u).length + (cd q).length ≤ 4)).map fun q => u ++ q).map V.str))) ⟨same_upd nD, upd_same⟩ (fun j H6 _ hP => .of (hP.1 _ _ e5p)) (fun j y H6 H7 hj hP hY => ?_) (fun H6 hP => ?_)⟩
            · obtain ⟨s6, e6⟩ := hP
              obtain ⟨eH7, hy2⟩ := hY
              subst H7
              have hj2 : j < (partsR 4 r).length := by rw [List.length_map] at hj; exact hj
              rw [List.getElem?_map, List.getElem?_eq_getElem hj2] at hy2
              have tk4 : (partsR 4 r).take (j + 1) = (partsR 4 r).take j ++ [(partsR 4 r)[j]] := by rw [List.take_succ, List.getElem?_eq_getElem hj2]; rfl
              have hq := (mem_parts.mp (List.getElem_mem hj2)).2
              have kl : (((partsR 4 r).take j).filter fun q => decide ((cd u).length + (cd q).length ≤ 4)).length ≤ j := Nat.le_trans (List.length_filter_le _ _) (by rw [List.length_take]; omega)
              rw [tk4, List.filter_append]
              generalize (partsR 4 r)[j] = z at hy2 hq
              obtain rfl : V.str z = y := Option.some.inj hy2
              have zl : z.length ≤ 4 := by rw [← cd_len]; exact hq
              have al : (u ++ z).length = u.length + z.length := add_len u z
              refine ⟨rfl, _, rfl, _, rfl, u, z, rfl, rfl, by omega, u ++ z, rfl, by rw [al]; omega, _, rfl, _, _, rfl, rfl, _, rfl, ite2 (fun hb => ?_) (fun hb => ?_)⟩
              · have hb2 : decide ((cd u).length + (cd z).length ≤ 4) = true := by
                  have := of_decide_eq_true hb
                  rw [cd_len, cd_len]
                  exact decide_eq_true (by omega)
                rw [List.filter_cons, if_pos hb2]
                refine ⟨_, rfl, _, rfl, u, z, rfl, rfl, by omega, _, e6, by rw [List.length_map, List.length_map]; omega, fun y o w => by rw [upd_ne (ne_of_none w nD)]; exact s6 _ _ w, ?_⟩
                rw [upd_same, List.map_append, List.map_append]
                rfl
              · have hb2 : ¬ decide ((cd u).length + (cd z).length ≤ 4) = true := fun w => hb (decide_eq_true (by
                  have := of_decide_eq_true w
                  rw [cd_len, cd_len] at this
                  omega))
                rw [List.filter_cons, if_neg hb2, List.filter_nil, List.append_nil]
                exact ⟨s6, e6⟩
            · obtain ⟨s6, e6⟩ := hP
              rw [List.length_map, List.take_length] at e6
              have e6' : H6 D = some (.lst ((longR 4 r u).map V.str)) := e6
              refine ⟨ll, D, _, _, rfl, rfl, s6 _ _ e5l, e6', by rw [List.length_map, List.length_map]; omega, _, rfl, fun y o w => ?_, ⟨?_, ?_⟩, ?_⟩
              · rw [upd_ne fun z => by rw [z, nllH] at w; cases w]
                exact s6 _ _ (s5 _ _ w)
              · rw [upd_ne lle]; exact s6 _ _ e5
              · rw [upd_ne lpe]; exact s6 _ _ e5p
              · rw [upd_same, List.map_append]
          · obtain ⟨x6', rfl, s5, _, e5l⟩ := hP
            rw [List.length_map, List.take_length] at e5l
            exact ⟨x6', rfl, s5, e5l⟩
        · rintro σ5 H5 ⟨x6', rfl, s5, e5⟩
          refine ⟨_, rfl, ll, longL 4 r ys, rfl, .of e5, by omega, fun sa sl' nsa nd mem le => ⟨sa, sl', rfl, upd_same, nd, by omega, fun zs pz pm so npz => ?_⟩⟩
          have s6 : Same H5 (upd (upd H5 sa (SetTx.TxO P w sa sl')) pz (.lst (zs.map V.str))) := (same_upd nsa).trans (same_upd npz)
          exact ⟨pz, zs, _, _, _, _, _, _, rfl, s5.trans s6, none_back s5 (none_back (same_upd nsa) npz), upd_same, found_step fo (pm.nodup_iff.mpr nd) fun z => (pm.mem_iff).trans (mem z)⟩
      · obtain ⟨l, ys, x3, x4, x5, x6, x7, x8, rfl, s2, nl, e2, fo⟩ := hP2
        rw [xl, List.take_length] at fo
        exact ⟨l, ys, x3, x4, x5, x6, x7, x8, rfl, s2, nl, e2, fo⟩
    · rintro σ2 H2 ⟨l, ys, x3, x4, x5, x6, x7, x8, rfl, s2, nl, e2, fo⟩
      have few := found_few fo sub
      have f121 := texts121 c3
      refine ⟨_, rfl, l, ys, rfl, e2, fun z hz => ?_, tabs.ext s2, fun H3 p3 zs eN T3 pm n3 => ?_⟩
      · have := ((fo.mem z).mp hz).2
        rw [cd_len] at this
        omega
      · have n0 : ∀ b o, (∀ ps, o ≠ .tbl ps) → H b = some o → b ≠ p3 := fun b o nt z e => by
          have z2 := eN b o (s2 b o z) nt
          rw [e, n3] at z2
          cases z2
        refine q _ p3 zs (fun b o e nt => ?_) (T3.ext fun b o e => ?_) n0 upd_same ⟨pm.nodup_iff.mpr fo.nd, fun z => (pm.mem_iff).trans (fo.mem z)⟩
        · rw [upd_ne (n0 b o nt e)]
          exact eN b o (s2 b o e) nt
        · rw [upd_ne (ne_of_none e n3)]
          exact e
end
end K0
end
/-! ### OT0 -/
section
set_option Elab.async false
set_option linter.all false
set_option maxRecDepth 100000
set_option maxHeartbeats 4000000
/-! Other signs in the place of a hole's own ones: the map by a drawn order of all signs. -/
namespace K0
open PySem PySem.Spec PyProof.Rows L2 Rd
def toS (ms : List Nat) (c : Nat) : Nat := ms.getD (sgs.idxOf c) 0
def fromS (ms : List Nat) (d : Nat) : Nat := sgs.getD (ms.idxOf d) 0
section
variable {ms : List Nat} (pm : ms.Perm sgs)
include pm
theorem ms_nodup : ms.Nodup := pm.nodup_iff.mpr sgs_nodup
theorem toS_at {c : Nat} (h : c ∈ sgs) : ∃ i, sgs[i]? = some c ∧ ms[i]? = some (toS ms c) ∧ sgs.idxOf c = i := by
  have hl := List.idxOf_lt_length_of_mem h
  have hl2 : sgs.idxOf c < ms.length := by rw [pm.length_eq]; exact hl
  refine ⟨sgs.idxOf c, by rw [List.getElem?_eq_getElem hl, List.getElem_idxOf], ?_, rfl⟩
  unfold toS
  rw [List.getD_eq_getElem?_getD, List.getElem?_eq_getElem hl2]
  rfl
theorem fromS_at {d : Nat} (h : d ∈ sgs) : ∃ i, ms[i]? = some d ∧ sgs[i]? = some (fromS ms d) ∧ ms.idxOf d = i := by
  have h' : d ∈ ms := pm.mem_iff.mpr h
  have hl := List.idxOf_lt_length_of_mem h'
  have hl2 : ms.idxOf d < sgs.length := by rw [← pm.length_eq]; exact hl
  refine ⟨ms.idxOf d, by rw [List.getElem?_eq_getElem hl, List.getElem_idxOf], ?_, rfl⟩
  unfold fromS
  rw [List.getD_eq_getElem?_getD, List.getElem?_eq_getElem hl2]
  rfl
theorem toS_mem {c : Nat} (h : c ∈ sgs) : toS ms c ∈ sgs := by
  obtain ⟨i, _, h2, _⟩ := toS_at pm h
  exact pm.mem_iff.mp (List.mem_of_getElem? h2)
theorem fromS_mem {d : Nat} (h : d ∈ sgs) : fromS ms d ∈ sgs := by
  obtain ⟨i, _, h2, _⟩ := fromS_at pm h
  exact List.mem_of_getElem? h2
theorem from_to {c : Nat} (h : c ∈ sgs) : fromS ms (toS ms c) = c := by
  obtain ⟨i, h1, h2, _⟩ := toS_at pm h
  obtain ⟨j, h3, h4, _⟩ := fromS_at pm (toS_mem pm h)
  have e : i = j := (List.getElem?_inj (List.getElem?_eq_some_iff.mp h2).1 (ms_nodup pm)).mp (h2.trans h3.symm)
  subst e
  rw [h1] at h4
  exact (Option.some.inj h4).symm
theorem to_from {d : Nat} (h : d ∈ sgs) : toS ms (fromS ms d) = d := by
  obtain ⟨i, h1, h2, _⟩ := fromS_at pm h
  obtain ⟨j, h3, h4, _⟩ := toS_at pm (fromS_mem pm h)
  have e : i = j := (List.getElem?_inj (List.getElem?_eq_some_iff.mp h2).1 sgs_nodup).mp (h2.trans h3.symm)
  subst e
  rw [h1] at h4
  exact (Option.some.inj h4).symm
/-- a run with other signs -/
theorem other_run {r : RunD} (h : RunOk r) {es : List Nat} (pe : es.Perm (r.signs.map (toS ms))) (asc : es.Pairwise (· < ·)) : RunOk ⟨es, r.low, r.high⟩ ∧ OtherR sgs (toS ms) r ⟨es, r.low, r.high⟩ := by
  refine ⟨⟨fun c hc => ?_, asc, fun e => ?_, h.low, h.hi⟩, fun s hs => ?_, rfl, rfl⟩
  · obtain ⟨x, hx, rfl⟩ := List.mem_map.mp (pe.mem_iff.mp hc)
    exact toS_mem pm (h.sub x hx)
  · have e : es = [] := e
    have := pe.length_eq
    rw [e, List.length_map] at this
    exact h.ne (List.length_eq_zero_iff.mp this.symm)
  · show toS ms s ∈ es ↔ _
    rw [pe.mem_iff]
    constructor
    · intro q
      obtain ⟨x, hx, e⟩ := List.mem_map.mp q
      have : s = x := by rw [← from_to pm hs, ← e, from_to pm (h.sub x hx)]
      rw [this]; exact hx
    · exact fun q => List.mem_map.mpr ⟨s, q, rfl⟩
theorem other_nodup {l : List Nat} (nd : l.Nodup) (sub : ∀ c ∈ l, c ∈ sgs) : (l.map (toS ms)).Nodup :=
  nodup_map (fun x hx y hy e => by rw [← from_to pm (sub x hx), e, from_to pm (sub y hy)]) nd
end
/-- the dict: each sign of a list to the sign at its place -/
def kvS (l ms : List Nat) : List (Key × V) := List.zipWith (fun c d => (.inr (oneS c), oneV d)) l ms
theorem valV_kvS : ∀ {l ms : List Nat} {i c d : Nat}, l.Nodup → l[i]? = some c → ms[i]? = some d → valV (kvS l ms) (.inr (oneS c)) = some (oneV d)
  | [], _, _, _, _, _, h, _ => by simp at h
  | _ :: _, [], _, _, _, _, _, h => by simp at h
  | a :: l, b :: ms, 0, c, d, _, h1, h2 => by
    have h1 : a = c := by simpa using h1
    have h2 : b = d := by simpa using h2
    subst h1 h2
    exact valV_pos rfl
  | a :: l, b :: ms, i + 1, c, d, nd, h1, h2 => by
    rw [List.nodup_cons] at nd
    have h1' : l[i]? = some c := by simpa using h1
    have h2' : ms[i]? = some d := by simpa using h2
    have ne : a ≠ c := fun e => nd.1 (e ▸ List.mem_of_getElem? h1')
    show valV ((.inr (oneS a), oneV b) :: kvS l ms) _ = _
    rw [valV_neg (fun z => ne (by
      injection z with z
      injection z with z
      injection z with z
      injection z with z))]
    exact valV_kvS nd.2 h1' h2'
theorem mergeK_new : ∀ (more acc : List (Key × V)), (∀ kv ∈ more, valV acc kv.1 = none) → (more.map (·.1)).Nodup → mergeK acc more = acc ++ more
  | [], acc, _, _ => (List.append_nil acc).symm
  | kv :: more, acc, h, nd => by
    rw [List.map_cons, List.nodup_cons] at nd
    show mergeK (L2.putK acc kv.1 kv.2) more = _
    rw [L2.putK_new kv.2 (h kv List.mem_cons_self)]
    rw [mergeK_new more (acc ++ [(kv.1, kv.2)]) (fun q hq => ?_) nd.2]
    · simp
    · rw [valV_snoc _ _ _ _ (h kv List.mem_cons_self), if_neg fun e => nd.1 (by rw [← e]; exact List.mem_map.mpr ⟨q, hq, rfl⟩)]
      exact h q (List.mem_cons_of_mem _ hq)
theorem merge_kvS {l ms : List Nat} (nd : l.Nodup) : mergeK [] (kvS l ms) = kvS l ms := by
  rw [mergeK_new _ _ (fun _ _ => rfl) ?_]
  · rfl
  · unfold kvS
    induction l generalizing ms with
    | nil => simp
    | cons a l ih =>
      rw [List.nodup_cons] at nd
      cases ms with
      | nil => simp
      | cons b ms =>
        rw [List.zipWith_cons_cons, List.map_cons, List.nodup_cons]
        refine ⟨fun q => ?_, ih nd.2⟩
        obtain ⟨kv, hk, e⟩ := List.mem_map.mp q
        obtain ⟨i, hi⟩ := List.mem_iff_getElem?.mp hk
        rw [List.getElem?_zipWith] at hi
        cases h1 : l[i]? with
        | none => rw [h1] at hi; cases h2 : ms[i]? <;> rw [h2] at hi <;> cases hi
        | some c =>
          cases h2 : ms[i]? with
          | none => rw [h1, h2] at hi; cases hi
          | some d =>
            rw [h1, h2] at hi
            cases hi
            injection e with e
            injection e with e
            injection e with e
            injection e with e
            exact nd.1 (e ▸ List.mem_of_getElem? h1)
end K0
end
/-! ### ZL0 -/
section
set_option Elab.async false
set_option linter.all false
set_option maxRecDepth 100000
set_option maxHeartbeats 4000000
/-! list(zip(..)): the tuples that are given out stay. -/
namespace ZL
open PySem
open PySem.Sem (wp)
theorem zip_no_len : typeLookup (.type "zip") "__len__" = pure none := am_miss_of_fast (by decide +kernel)
theorem zip_no_hint : typeLookup (.type "zip") "__length_hint__" = pure none := am_miss_of_fast (by decide +kernel)
section
variable {prog : Program} {w : World} {A : Around} {E : Value → Shared → Prop} {s : Shared} {z TI TO i1 i2 T : Addr} {f : Bool} {oT : Obj} {fp1 fp2 : List Addr} {n1 n2 i : Nat} {P1 P2 : Nat → Value → Prop} {St1 St2 : Nat → Heap → Prop}
theorem held_item {Q : Value → Shared → Prop} (S : ZipSep2 z TI TO i1 i2 fp1 fp2) (D1 : Draws prog w A i1 fp1 n1 P1 St1) (D2 : Draws prog w A i2 fp2 n2 P2 St2)
    (hz : IsZipHeld s.heap z TI TO T f) (hT : s.heap.get? T = some oT) (hTI : IsTupOf2 s.heap TI (.ref i1) (.ref i2)) (st1 : St1 i s.heap) (st2 : St2 i s.heap) (hlt1 : i < n1) (hlt2 : i < n2)
    (hQ : ∀ x1 x2 h' tk, P1 i x1 → P2 i x2 → IsZipHeld h' z TI TO T true → St1 (i + 1) h' → St2 (i + 1) h' → IsTupOf2 h' s.heap.objs.size x1 x2 → h'.objs.size = s.heap.objs.size + 1 →
      (∀ c o, c ≠ z → c ≠ i1 → c ≠ i2 → s.heap.get? c = some o → h'.get? c = some o) → Q (.ref s.heap.objs.size) { s with heap := h', toks := tk }) :
    wpAny (model prog w) A (Builtin.«zip.__next__» ⟨[.ref z], []⟩) (fun fin s' => ∃ v, fin = .done (.ret v) ∧ Q v s') E s := by
  obtain ⟨hp, g, d, tk0, os⟩ := s
  show wpAny _ _ (field (.ref z) 2 >>= _) _ _ _
  refine wpAny_bind (wpAny_field hz rfl (x := .bool false) rfl ?_)
  show wpAny _ _ (field (.ref z) 3 >>= _) _ _ _
  refine wpAny_bind (wpAny_field hz rfl (x := .ref TI) rfl ?_)
  refine wpAny_bind (wpAny_seqItems hTI rfl ?_)
  show wpAny _ _ (Builtin.SmallTypes.ownedTupleIsFree (.ref z) >>= _) _ _ _
  refine wpAny_bind (wpAny_tupleHeld_zip hz hT fun g0 hz0 hs0 => ?_)
  replace hs0 : Heap.SameBut z hp g0 := hs0
  simp only [Bool.false_eq_true, if_false]
  refine wpAny_bind ?_
  rw [← Array.forIn_toList]
  simp only [List.forIn_cons, List.forIn_nil]
  refine wpAny_bind (wpAny_bind (wpAny_holding ?_))
  show wpAny _ _ (Builtin.SmallTypes.nextOf (.ref i1) >>= _) _ _ ⟨g0, g, d, tk0, os⟩
  refine wpAny_bind (D1.item i _ _ _ hlt1 (D1.over st1 hs0 S.zf1) fun x1 p1 tk1 hx1 sn1 hp1 => wpAny_pure ?_)
  replace hp1 : Heap.SameBut i1 g0 p1 := hp1
  refine wpAny_pure ?_
  refine wpAny_bind (wpAny_bind (wpAny_holding ?_))
  show wpAny _ _ (Builtin.SmallTypes.nextOf (.ref i2) >>= _) _ _ ⟨p1, g, d, tk1, os⟩
  refine wpAny_bind (D2.item i _ _ _ hlt2 (D2.over (D2.over st2 hs0 S.zf2) hp1 S.sep1_2) fun x2 p2 tk2 hx2 sn2 hp2 => wpAny_pure ?_)
  replace hp2 : Heap.SameBut i2 p1 p2 := hp2
  refine wpAny_pure (wpAny_pure ?_)
  show wpAny _ _ (newTuple [x1, x2] >>= _) _ _ ⟨p2, g, d, tk2, os⟩
  refine wpAny_bind (wpAny_newTuple ?_)
  have hsz : p2.objs.size = hp.objs.size := by rw [hp2.1, hp1.1, hs0.1]
  have hzz : IsZipHeld p2 z TI TO T true := hp2.extBut _ _ S.zi2 (hp1.extBut _ _ S.zi1 hz0)
  have hk : ∀ c o, c ≠ z → c ≠ i1 → c ≠ i2 → hp.get? c = some o → p2.get? c = some o := fun c o c1 c2 c3 e => hp2.extBut _ _ c3 (hp1.extBut _ _ c2 (hs0.extBut _ _ c1 e))
  have hj1 : St1 (i + 1) p2 := D1.over sn1 hp2 S.sep2_1
  refine wpAny_pure ⟨_, rfl, ?_⟩
  show Q (.ref p2.objs.size) _
  have hpr : IsTupOf2 (p2.push { cls := .type "tuple", data := .seq #[x1, x2] }) p2.objs.size x1 x2 := Heap.get?_push_size _ rfl
  have hz4 : (p2.push { cls := .type "tuple", data := .seq #[x1, x2] }).objs.size = p2.objs.size + 1 := Heap.size_push ..
  rw [hsz] at hpr hz4 ⊢
  exact hQ x1 x2 _ tk2 hx1 hx2 (Heap.get?_push_of_some _ hzz) (D1.frame _ _ _ hj1 fun b hb o e => Heap.get?_push_of_some _ e) (D2.frame _ _ _ sn2 fun b hb o e => Heap.get?_push_of_some _ e) hpr hz4 fun c o c1 c2 c3 e => Heap.get?_push_of_some _ (hk c o c1 c2 c3 e)
theorem held_end {Q : Fin → Shared → Prop} (S : ZipSep2 z TI TO i1 i2 fp1 fp2) (D1 : Draws prog w A i1 fp1 n1 P1 St1)
    (hz : IsZipHeld s.heap z TI TO T f) (hT : s.heap.get? T = some oT) (hTI : IsTupOf2 s.heap TI (.ref i1) (.ref i2)) (st1 : St1 n1 s.heap)
    (hE : ∀ h' e, (∀ c o, c ≠ z → c ≠ i1 → s.heap.get? c = some o → h'.get? c = some o) → (∃ o, h'.get? e = some o ∧ o.cls = .type "StopIteration") → E (.ref e) { s with heap := h' }) :
    wpAny (model prog w) A (Builtin.«zip.__next__» ⟨[.ref z], []⟩) Q E s := by
  obtain ⟨hp, g, d, tk0, os⟩ := s
  show wpAny _ _ (field (.ref z) 2 >>= _) _ _ _
  refine wpAny_bind (wpAny_field hz rfl (x := .bool false) rfl ?_)
  show wpAny _ _ (field (.ref z) 3 >>= _) _ _ _
  refine wpAny_bind (wpAny_field hz rfl (x := .ref TI) rfl ?_)
  refine wpAny_bind (wpAny_seqItems hTI rfl ?_)
  show wpAny _ _ (Builtin.SmallTypes.ownedTupleIsFree (.ref z) >>= _) _ _ _
  refine wpAny_bind (wpAny_tupleHeld_zip hz hT fun g0 hz0 hs0 => ?_)
  replace hs0 : Heap.SameBut z hp g0 := hs0
  simp only [Bool.false_eq_true, if_false]
  refine wpAny_bind ?_
  rw [← Array.forIn_toList]
  simp only [List.forIn_cons, List.forIn_nil]
  refine wpAny_bind (wpAny_bind (wpAny_holding ?_))
  show wpAny _ _ (Builtin.SmallTypes.nextOf (.ref i1) >>= _) _ _ ⟨g0, g, d, tk0, os⟩
  exact wpAny_bind (D1.done ⟨g0, g, d, tk0, os⟩ _ _ (D1.over st1 hs0 S.zf1) fun q e hq he => hE q e (fun c o c1 c2 x => hq _ _ c2 (hs0.extBut _ _ c1 x)) he)
theorem next_held {Q : Option Value → Shared → Prop} (S : ZipSep2 z TI TO i1 i2 fp1 fp2) (D1 : Draws prog w A.in1 i1 fp1 n1 P1 St1) (D2 : Draws prog w A.in1 i2 fp2 n2 P2 St2)
    (hz : IsZipHeld s.heap z TI TO T f) (hT : s.heap.get? T = some oT) (hTI : IsTupOf2 s.heap TI (.ref i1) (.ref i2)) (st1 : St1 i s.heap) (st2 : St2 i s.heap) (hlt1 : i < n1) (hlt2 : i < n2)
    (hQ : ∀ x1 x2 h' tk, P1 i x1 → P2 i x2 → IsZipHeld h' z TI TO T true → St1 (i + 1) h' → St2 (i + 1) h' → IsTupOf2 h' s.heap.objs.size x1 x2 → h'.objs.size = s.heap.objs.size + 1 →
      (∀ c o, c ≠ z → c ≠ i1 → c ≠ i2 → s.heap.get? c = some o → h'.get? c = some o) → Q (some (.ref s.heap.objs.size)) { s with heap := h', toks := tk }) : wpAny (model prog w) A (pyNext (.ref z)) Q E s := by
  have hTy : s.TypeIs (.ref z) "zip" := ⟨_, hz, rfl⟩
  unfold pyNext
  exact wpAny_bind (wpAny_attempt (wpAny_callSpecial?_slot (name := Str.ofString "__next__") hTy F.slot_zip_next
    (wpAny_call_entry F.slot_zip_next hTy F.entry_zip_next
      (held_item S D1 D2 hz hT hTI st1 st2 hlt1 hlt2 fun x1 x2 h' tk y1 y2 a1 a3 a4 a5 a6 a7 => wpAny_pure (hQ x1 x2 h' tk y1 y2 a1 a3 a4 a5 a6 a7)) (F.args_zip_next_1 _))))
theorem next_end {Q : Option Value → Shared → Prop} (S : ZipSep2 z TI TO i1 i2 fp1 fp2) (D1 : Draws prog w A.in1 i1 fp1 n1 P1 St1)
    (hz : IsZipHeld s.heap z TI TO T f) (hT : s.heap.get? T = some oT) (hTI : IsTupOf2 s.heap TI (.ref i1) (.ref i2)) (st1 : St1 n1 s.heap)
    (hQ : ∀ h', (∀ c o, c ≠ z → c ≠ i1 → s.heap.get? c = some o → h'.get? c = some o) → Q none { s with heap := h' }) : wpAny (model prog w) A (pyNext (.ref z)) Q E s := by
  have hTy : s.TypeIs (.ref z) "zip" := ⟨_, hz, rfl⟩
  unfold pyNext
  refine wpAny_bind (wpAny_attempt (wpAny_callSpecial?_slot (name := Str.ofString "__next__") hTy F.slot_zip_next
    (wpAny_call_entry F.slot_zip_next hTy F.entry_zip_next (held_end S D1 hz hT hTI st1 fun h' e hk he => ?_) (F.args_zip_next_1 _))))
  obtain ⟨o, ho, hc⟩ := he
  refine wpAny_bind (wpAny_isInstance (T := "StopIteration") (b := true) ⟨o, ho, hc⟩ isSubtype_stop ?_)
  exact wpAny_pure (hQ _ hk)
end
end ZL
end
/-! ### ZL1 -/
section
set_option Elab.async false
set_option linter.all false
set_option maxRecDepth 100000
set_option maxHeartbeats 4000000
/-! list(z), z a zip over two iterators with as many items, one at least. -/
namespace ZL
open PySem
open PySem.Sem (wp)
abbrev lstO (acc : Array Value) (c : Nat) : Obj := { cls := .type "list", dict := none, data := .seq acc c, slots := #[] }
structure Far (S z TI TO i1 i2 : Addr) (fp1 fp2 : List Addr) : Prop where
  z : S ≠ z
  TI : S ≠ TI
  TO : S ≠ TO
  i1 : S ≠ i1
  i2 : S ≠ i2
  f1 : S ∉ fp1
  f2 : S ∉ fp2
def ZSt (S z TI TO i1 i2 : Addr) (St1 St2 : Nat → Heap → Prop) (i : Nat) (h : Heap) : Prop := IsTupOf2 h TI (.ref i1) (.ref i2) ∧ St1 i h ∧ St2 i h ∧ (∃ oO, h.get? TO = some oO) ∧
  ((i = 0 ∧ IsZip h z TI TO .none ∧ ∃ a b, IsTupOf2 h TO a b) ∨ ∃ (T : Addr) (f : Bool) (oT : Obj), IsZipHeld h z TI TO T f ∧ h.get? T = some oT ∧ T ≠ z ∧ T ≠ i1 ∧ T ≠ i2 ∧ T ≠ S)
def Pairs (S z TO i1 i2 : Addr) (P1 P2 : Nat → Value → Prop) (acc : Array Value) (i : Nat) (h : Heap) : Prop := (acc.size = i ∧ acc.toList.Nodup) ∧
  ∀ j v, acc[j]? = some v → ∃ (T : Addr) (x1 x2 : Value), v = .ref T ∧ IsTupOf2 h T x1 x2 ∧ P1 j x1 ∧ P2 j x2 ∧ T ∉ [S, z, TO, i1, i2] ∧ S < T
theorem Pairs.keep {S z TO i1 i2 : Addr} {P1 P2 : Nat → Value → Prop} {acc : Array Value} {i : Nat} {h h' : Heap} (p : Pairs S z TO i1 i2 P1 P2 acc i h) (k : ∀ b o, b ∉ [S, z, TO, i1, i2] → h.get? b = some o → h'.get? b = some o) : Pairs S z TO i1 i2 P1 P2 acc i h' := ⟨p.1, fun j v e => by
  obtain ⟨T, x1, x2, e1, e2, e3, e4, e5, e6⟩ := p.2 j v e
  exact ⟨T, x1, x2, e1, k _ _ e5 e2, e3, e4, e5, e6⟩⟩
theorem Pairs.push {S z TO i1 i2 T : Addr} {P1 P2 : Nat → Value → Prop} {acc : Array Value} {i : Nat} {h : Heap} {x1 x2 : Value} (p : Pairs S z TO i1 i2 P1 P2 acc i h) (hT : IsTupOf2 h T x1 x2) (h1 : P1 i x1) (h2 : P2 i x2) (n : T ∉ [S, z, TO, i1, i2]) (lt : S < T) (new : Value.ref T ∉ acc.toList) : Pairs S z TO i1 i2 P1 P2 (acc.push (.ref T)) (i + 1) h := by
  refine ⟨⟨by rw [Array.size_push, p.1.1], by rw [Array.toList_push, List.nodup_append]; exact ⟨p.1.2, by simp, fun a ha b hb => by rw [List.mem_singleton.mp hb]; exact fun e => new (e ▸ ha)⟩⟩, fun j v hj => ?_⟩
  rw [Array.getElem?_push] at hj
  split at hj
  · rename_i e
    rw [p.1.1] at e
    cases hj
    rw [e]
    exact ⟨T, x1, x2, rfl, hT, h1, h2, n, lt⟩
  · exact p.2 j v hj
section
variable {prog : Program} {w : World} {A : Around} {z TI TO i1 i2 S : Addr} {fp1 fp2 : List Addr} {n : Nat} {P1 P2 : Nat → Value → Prop} {St1 St2 : Nat → Heap → Prop} {R : Result → Shared → Prop}
theorem loop (Z : ZipSep2 z TI TO i1 i2 fp1 fp2) (D1 : Draws prog w A.in1.in1 i1 fp1 n P1 St1) (D2 : Draws prog w A.in1.in1 i2 fp2 n P2 St2) (hn1 : 1 ≤ n) (hn : n ≤ sizeLine) (Fr : Far S z TI TO i1 i2 fp1 fp2) (res : Value) :
    ∀ (k i : Nat) (s : Shared) (acc : Array Value) (c : Nat), n - i = k → i ≤ n → ZSt S z TI TO i1 i2 St1 St2 i s.heap → s.heap.get? S = some (lstO acc c) → Pairs S z TO i1 i2 P1 P2 acc i s.heap →
    (∀ h' tk acc' c', (∀ b o, b ∉ [S, z, TO, i1, i2] → s.heap.get? b = some o → h'.get? b = some o) → h'.get? S = some (lstO acc' c') → Pairs S z TO i1 i2 P1 P2 acc' n h' → R (.ok (.ret res)) { s with heap := h', toks := tk }) →
    codeAny (model prog w) A (.builtin "list.extend.loop" ⟨[.ref S, .ref z, res], []⟩) R s := by
  intro k
  induction k with
  | zero =>
    intro i s acc c hk hi hst hS hacc hR
    have hin : i = n := by omega
    subst hin
    refine codeAny_builtin F.entry_extend_loop ?_
    rw [Around.under_plainId F.plain_extend_loop _]
    show wpAny _ A.in1 (pyNext (.ref z) >>= _) _ _ s
    obtain ⟨hTI, st1, st2, ⟨oO, hO⟩, hz⟩ := hst
    rcases hz with ⟨e0, _⟩ | ⟨T, f, oT, hz, hT, r1, r2, r3, r4⟩
    · omega
    · refine wpAny_bind (next_end Z D1 hz hT hTI st1 fun h' hk' => ?_)
      refine wpAny_pure (hR h' s.toks acc c (fun b o hb e => hk' b o (fun q => hb (by simp [q])) (fun q => hb (by simp [q])) e) (hk' S _ Fr.z Fr.i1 hS) (hacc.keep fun b o hb e => hk' b o (fun q => hb (by simp [q])) (fun q => hb (by simp [q])) e))
  | succ k ih =>
    intro i s acc c hk hi hst hS hacc hR
    have hlt : i < n := by omega
    refine codeAny_builtin F.entry_extend_loop ?_
    rw [Around.under_plainId F.plain_extend_loop _]
    show wpAny _ A.in1 (pyNext (.ref z) >>= _) _ _ s
    obtain ⟨hTI, st1, st2, ⟨oO, hO⟩, hz⟩ := hst
    have lt : ∀ {c o}, s.heap.get? c = some o → s.heap.objs.size ≠ c := fun e => Nat.ne_of_gt (Heap.lt_size e)
    have n1 : s.heap.objs.size ≠ i1 := by obtain ⟨_, e⟩ := D1.live _ _ st1; exact lt e
    have n2 : s.heap.objs.size ≠ i2 := by obtain ⟨_, e⟩ := D2.live _ _ st2; exact lt e
    have nS : s.heap.objs.size ≠ S := lt hS
    have nacc : Value.ref s.heap.objs.size ∉ acc.toList := fun q => by
      obtain ⟨j, hj⟩ := List.mem_iff_getElem?.mp q
      rw [Array.getElem?_toList] at hj
      obtain ⟨T, x1, x2, e1, e2, _⟩ := hacc.2 j _ hj
      cases e1
      exact absurd (Heap.lt_size e2) (Nat.lt_irrefl _)
    -- what follows one item
    have go : ∀ (x1 x2 : Value) (h1 : Heap) (tk : Nat), P1 i x1 → P2 i x2 → (∃ (T : Addr) (f : Bool) (oT : Obj), IsZipHeld h1 z TI TO T f ∧ h1.get? T = some oT ∧ T ≠ z ∧ T ≠ i1 ∧ T ≠ i2 ∧ T ≠ S) → St1 (i + 1) h1 → St2 (i + 1) h1 → (∃ oO, h1.get? TO = some oO) → IsTupOf2 h1 s.heap.objs.size x1 x2 → s.heap.objs.size ∉ [S, z, TO, i1, i2] →
        (∀ c o, c ∉ [z, TO, i1, i2] → s.heap.get? c = some o → h1.get? c = some o) →
        wpAny (model prog w) A.in1 (do updateSeq S (·.push (.ref s.heap.objs.size)); again (.builtin "list.extend.loop" ⟨[.ref S, .ref z, res], []⟩)) (fun fin s' => match fin with | .done f => R (.ok f) s' | .again c' => c'.quiet = true ∧ codeAny (model prog w) A c' R s') (fun e s' => R (.error e) s') { s with heap := h1, toks := tk } := by
      intro x1 x2 h1 tk p1 p2 hz' st1' st2' hO' hT' nT kp
      have hS' : h1.get? S = some (lstO acc c) := kp S _ (by simp [Fr.z, Fr.TO, Fr.i1, Fr.i2]) hS
      have hacc' : Pairs S z TO i1 i2 P1 P2 acc i h1 := hacc.keep fun b o hb e => kp b o (fun q => hb (List.mem_cons_of_mem _ q)) e
      refine wpAny_bind ?_
      refine wpAny_updateSeq (s := { s with heap := h1, toks := tk }) hS' rfl ?_ (by rw [hacc.1.1]; omega) (by show (acc.push _).size ≤ sizeLine + 1; rw [Array.size_push, hacc.1.1]; omega)
      refine wpAny_pure ⟨plainId_quiet F.plain_extend_loop _, ?_⟩
      have oth : ∀ b o, b ≠ S → h1.get? b = some o → (h1.update S (Obj.mapSeq (·.push (.ref s.heap.objs.size)))).get? b = some o := fun b o hb e => (Heap.get?_update_other _ _ (Ne.symm hb)).trans e
      have hTI' : IsTupOf2 h1 TI (.ref i1) (.ref i2) := kp TI _ (by simp [Z.TIz, Z.TITO, Z.TIi1, Z.TIi2]) hTI
      refine ih (i + 1) _ (acc.push (.ref s.heap.objs.size)) _ (by omega) hlt ⟨oth _ _ Fr.TI.symm hTI', D1.frame _ _ _ st1' fun b hb o e => oth b o (fun q => Fr.f1 (q ▸ hb)) e, D2.frame _ _ _ st2' fun b hb o e => oth b o (fun q => Fr.f2 (q ▸ hb)) e, hO'.elim fun oo he => ⟨oo, oth _ _ Fr.TO.symm he⟩, .inr ?_⟩ (Heap.get?_update_self _ hS' rfl) ((hacc'.push hT' p1 p2 nT (Heap.lt_size hS) nacc).keep fun b o hb e => oth b o (fun q => hb (by simp [q])) e) fun h' tk' acc' c' hk' hS'' hacc'' => ?_
      · obtain ⟨T, f, oT, e1, e2, e3, e4, e5, e6⟩ := hz'
        exact ⟨T, f, oT, oth _ _ Fr.z.symm e1, oth _ _ e6 e2, e3, e4, e5, e6⟩
      · exact hR h' tk' acc' c' (fun b o hb e => hk' b o hb (oth b o (fun q => hb (by simp [q])) (kp b o (fun q => hb (List.mem_cons_of_mem _ q)) e))) hS'' hacc''
    rcases hz with ⟨e0, hz, a, b, hTO⟩ | ⟨T, f, oT, hz, hT, r1, r2, r3, r4⟩
    · have nz : s.heap.objs.size ≠ z := lt hz
      have nTO : s.heap.objs.size ≠ TO := lt hTO
      refine wpAny_bind (wpAny_pyNext_zipD2_item Z D1 D2 hz hTI hTO st1 st2 hlt hlt fun x1 x2 h1 tk p1 p2 b1 b2 d1 d2 b5 b6 kp => ?_)
      exact go x1 x2 h1 tk p1 p2 ⟨s.heap.objs.size, false, _, b1, b5, nz, n1, n2, nS⟩ d1 d2 ⟨_, b2⟩ b5 (by simp [nS, nz, nTO, n1, n2]) fun c o hc e => kp c o (fun q => hc (by simp [q])) (fun q => hc (by simp [q])) (fun q => hc (by simp [q])) (fun q => hc (by simp [q])) e
    · have nz : s.heap.objs.size ≠ z := lt hz
      have nTO : s.heap.objs.size ≠ TO := lt hO
      refine wpAny_bind (next_held Z D1 D2 hz hT hTI st1 st2 hlt hlt fun x1 x2 h1 tk p1 p2 b1 d1 d2 b5 b6 kp => ?_)
      exact go x1 x2 h1 tk p1 p2 ⟨T, true, oT, b1, kp _ _ r1 r2 r3 hT, r1, r2, r3, r4⟩ d1 d2 ⟨oO, kp _ _ Z.TOz Z.Ti1 Z.Ti2 hO⟩ b5 (by simp [nS, nz, nTO, n1, n2]) fun c o hc e => kp c o (fun q => hc (by simp [q])) (fun q => hc (by simp [q])) (fun q => hc (by simp [q])) e
end
end ZL
end
/-! ### ZL2 -/
section
set_option Elab.async false
set_option linter.all false
set_option maxRecDepth 100000
set_option maxHeartbeats 4000000
/-! list(z) called; zip(text, list) called. -/
namespace ZL
open PySem
open PySem.Sem (wp)
section
variable {prog : Program} {w : World} {A : Around} {E : Value → Shared → Prop} {s : Shared} {z TI TO i1 i2 S : Addr} {fp1 fp2 : List Addr} {n : Nat} {P1 P2 : Nat → Value → Prop} {St1 St2 : Nat → Heap → Prop} {R : Result → Shared → Prop}
theorem extend (Z : ZipSep2 z TI TO i1 i2 fp1 fp2) (D1 : Draws prog w A.in1.in1 i1 fp1 n P1 St1) (D2 : Draws prog w A.in1.in1 i2 fp2 n P2 St2) (hn1 : 1 ≤ n) (hn : n ≤ sizeLine) (Fr : Far S z TI TO i1 i2 fp1 fp2) (res : Value)
    (hz : IsZip s.heap z TI TO .none) {a b : Value} (hTO : IsTupOf2 s.heap TO a b) (hTI : IsTupOf2 s.heap TI (.ref i1) (.ref i2)) (st1 : St1 0 s.heap) (st2 : St2 0 s.heap) {c₀ : Nat} (hS : s.heap.get? S = some (lstO #[] c₀))
    (hR : ∀ h' tk acc' c', (∀ b o, b ∉ [S, z, TO, i1, i2] → s.heap.get? b = some o → h'.get? b = some o) → h'.get? S = some (lstO acc' c') → Pairs S z TO i1 i2 P1 P2 acc' n h' → R (.ok (.ret res)) { s with heap := h', toks := tk }) :
    wpAny (model prog w) A.in1 (Builtin.List.listExtendWith (.ref S) (.ref z) res)
      (fun fin s' => match fin with | .done f => R (.ok f) s' | .again c' => c'.quiet = true ∧ codeAny (model prog w) A c' R s') (fun e s' => R (.error e) s') s := by
  have hSI : S ≠ z := Fr.z
  have hTy : s.TypeIs (.ref z) "zip" := ⟨_, hz, rfl⟩
  unfold Builtin.List.listExtendWith
  refine wpAny_bind (wpAny_typeOf hTy ?_)
  have h1 : Builtin.List.listSameRef (.ref S) (.ref z) = false := by simp [Builtin.List.listSameRef, hSI]
  have h2 : (Value.type "zip" == Value.type "list") = false := by decide
  have h3 : (Value.type "zip" == Value.type "tuple") = false := by decide
  simp only [h1, h2, h3, Bool.or_false, Bool.false_eq_true, if_false]
  refine wpAny_bind (wpAny_pyIter_zip hz ?_)
  refine wpAny_bind (wpAny_holding ?_)
  unfold Builtin.List.listLengthHint
  refine wpAny_bind (wpAny_specialOf hTy zip_no_len ?_)
  show wpAny _ A.in1 (specialOf (Value.ref z) (Str.ofString "__length_hint__") >>= _) _ _ _
  refine wpAny_bind (wpAny_specialOf hTy zip_no_hint ?_)
  refine wpAny_pure ?_
  show wpAny _ A.in1 (rule "list.extend.makes-room" >>= fun _ => Builtin.List.listTouch (.ref S) >>= fun _ =>
    again (.builtin "list.extend.loop" ⟨[.ref S, .ref z, res], []⟩)) _ _ _
  refine wpAny_bind (wpAny_rule ?_)
  refine wpAny_bind ?_
  show wpAny _ A.in1 (updateSeq S (·.push .none) >>= fun _ => updateSeq S (·.pop)) _ _ _
  refine wpAny_bind (wpAny_updateSeq hS rfl ?_)
  have hS₂ := Heap.get?_update_self (Obj.mapSeq (·.push Value.none)) hS rfl
  refine wpAny_updateSeq (hz := by seq_fits) hS₂ rfl ?_
  have hS₃ := Heap.get?_update_self (Obj.mapSeq (·.pop)) hS₂ rfl
  have oth : ∀ b o, b ≠ S → s.heap.get? b = some o → ((s.heap.update S (Obj.mapSeq (·.push Value.none))).update S (Obj.mapSeq (·.pop))).get? b = some o :=
    fun b o hb e => (Heap.get?_update_other _ _ (Ne.symm hb)).trans ((Heap.get?_update_other _ _ (Ne.symm hb)).trans e)
  refine wpAny_pure ⟨plainId_quiet F.plain_extend_loop _, loop Z D1 D2 hn1 hn Fr res n 0 _ #[] _ rfl (Nat.zero_le _)
    ⟨oth _ _ Fr.TI.symm hTI, D1.frame _ _ _ st1 fun b hb o e => oth b o (fun q => Fr.f1 (q ▸ hb)) e, D2.frame _ _ _ st2 fun b hb o e => oth b o (fun q => Fr.f2 (q ▸ hb)) e, ⟨_, oth _ _ Fr.TO.symm hTO⟩, .inl ⟨rfl, oth _ _ Fr.z.symm hz, a, b, oth _ _ Fr.TO.symm hTO⟩⟩
    hS₃ ⟨⟨rfl, by simp⟩, fun j v h => by simp at h⟩ fun h' tk acc' c' hk hS' hacc => ?_⟩
  exact hR h' tk acc' c' (fun b o hb e => hk b o hb (oth b o (fun q => hb (by simp [q])) e)) hS' hacc
theorem init (Z : ZipSep2 z TI TO i1 i2 fp1 fp2) (D1 : Draws prog w A.in1.in1 i1 fp1 n P1 St1) (D2 : Draws prog w A.in1.in1 i2 fp2 n P2 St2) (hn1 : 1 ≤ n) (hn : n ≤ sizeLine) (Fr : Far S z TI TO i1 i2 fp1 fp2)
    (hz : IsZip s.heap z TI TO .none) {a b : Value} (hTO : IsTupOf2 s.heap TO a b) (hTI : IsTupOf2 s.heap TI (.ref i1) (.ref i2)) (st1 : St1 0 s.heap) (st2 : St2 0 s.heap) (hS : s.heap.get? S = some { cls := .type "list", data := .seq #[] })
    (hR : ∀ h' tk acc' c', (∀ b o, b ∉ [S, z, TO, i1, i2] → s.heap.get? b = some o → h'.get? b = some o) → h'.get? S = some (lstO acc' c') → Pairs S z TO i1 i2 P1 P2 acc' n h' → R (.ok (.ret .none)) { s with heap := h', toks := tk }) :
    wpAny (model prog w) A.in1 (Builtin.«list.__init__» ⟨[.ref S, .ref z], []⟩)
      (fun fin s' => match fin with | .done f => R (.ok f) s' | .again c' => c'.quiet = true ∧ codeAny (model prog w) A c' R s') (fun e s' => R (.error e) s') s := by
  show wpAny _ A.in1 (do let old ← Builtin.List.listItems (.ref S); Builtin.List.listUpdate (.ref S) (fun _ => #[]); letGo old.toList.reverse; Builtin.List.listExtendWith (.ref S) (.ref z) .none) _ _ s
  refine wpAny_bind ?_
  unfold Builtin.List.listItems
  refine wpAny_bind (wpAny_seqItems hS rfl (wpAny_pure ?_))
  show wpAny _ A.in1 (updateSeq S (fun _ => #[]) >>= fun _ => letGo (#[] : Array Value).toList.reverse >>= fun _ => Builtin.List.listExtendWith (.ref S) (.ref z) .none) _ _ s
  refine wpAny_bind (wpAny_updateSeq hS rfl ?_)
  have hS₂ := Heap.get?_update_self (Obj.mapSeq (fun _ => (#[] : Array Value))) hS rfl
  have oth : ∀ b o, b ≠ S → s.heap.get? b = some o → (s.heap.update S (Obj.mapSeq (fun _ => (#[] : Array Value)))).get? b = some o :=
    fun b o hb e => (Heap.get?_update_other _ _ (Ne.symm hb)).trans e
  refine wpAny_bind (wpAny_letGo ?_)
  refine extend Z D1 D2 hn1 hn Fr .none (oth _ _ Fr.z.symm hz) (oth _ _ Fr.TO.symm hTO) (oth _ _ Fr.TI.symm hTI) (D1.frame _ _ _ st1 fun b hb o e => oth b o (fun q => Fr.f1 (q ▸ hb)) e) (D2.frame _ _ _ st2 fun b hb o e => oth b o (fun q => Fr.f2 (q ▸ hb)) e) hS₂ fun h' tk acc' c' hk hS' hacc => ?_
  exact hR h' tk acc' c' (fun b o hb e => hk b o hb (oth b o (fun q => hb (by simp [q])) e)) hS' hacc
theorem call_list {Q : Value → Shared → Prop} (Z : ZipSep2 z TI TO i1 i2 fp1 fp2) (D1 : Draws prog w A.in1.in1.in1 i1 fp1 n P1 St1) (D2 : Draws prog w A.in1.in1.in1 i2 fp2 n P2 St2) (hn1 : 1 ≤ n) (hn : n ≤ sizeLine) (Fr : Far s.heap.objs.size z TI TO i1 i2 fp1 fp2)
    (hz : IsZip s.heap z TI TO .none) {a b : Value} (hTO : IsTupOf2 s.heap TO a b) (hTI : IsTupOf2 s.heap TI (.ref i1) (.ref i2)) (st1 : St1 0 s.heap) (st2 : St2 0 s.heap)
    (hQ : ∀ h' tk acc' c', (∀ b o, b ∉ [z, TO, i1, i2] → s.heap.get? b = some o → h'.get? b = some o) → h'.get? s.heap.objs.size = some (lstO acc' c') → Pairs s.heap.objs.size z TO i1 i2 P1 P2 acc' n h' → Q (.ref s.heap.objs.size) { s with heap := h', toks := tk }) :
    wpAny (model prog w) A (call (.type "list") [.ref z]) Q E s := by
  refine callType_codes (Q₁ := fun obj s₁ => obj = .ref s.heap.objs.size ∧ s₁ = { s with heap := s.heap.push { cls := .type "list", data := .seq #[] } }) F.called_list (F.typeCall_list_1 _) F.entry_list_init
    (code_list_new _ ⟨rfl, rfl⟩) fun obj s₁ h₁ => ?_
  obtain ⟨rfl, rfl⟩ := h₁
  have hS : (s.heap.push { cls := .type "list", data := .seq #[] }).get? s.heap.objs.size = some { cls := .type "list", data := .seq #[] } := Heap.get?_push_size _ rfl
  have up : ∀ b o, s.heap.get? b = some o → (s.heap.push { cls := .type "list", data := .seq #[] }).get? b = some o := fun b o e => Heap.get?_push_of_some _ e
  refine ⟨⟨_, hS, rfl⟩, F.args_list_init_2 _ _, init Z D1 D2 hn1 hn Fr (up _ _ hz) (up _ _ hTO) (up _ _ hTI) (D1.frame _ _ _ st1 fun b _ o e => up b o e) (D2.frame _ _ _ st2 fun b _ o e => up b o e) hS fun h' tk acc' c' hk hS' hacc => ?_⟩
  refine ⟨rfl, hQ h' tk acc' c' (fun b o hb e => hk b o (fun q => ?_) (up b o e)) hS' hacc⟩
  rcases List.mem_cons.mp q with rfl | q
  · rw [Heap.get?_none_of_le (Nat.le_refl _)] at e; cases e
  · exact hb q
end
abbrev zsH1 (h : Heap) (x : Str) (t : Tok) : Heap := h.push { cls := .type "str_ascii_iterator", data := .fields #[.str x t, .int 0 0] }
abbrev zsH2 (h : Heap) (x : Str) (t : Tok) (l2 : Addr) : Heap := (zsH1 h x t).push { cls := .type "list_iterator", data := .fields #[.ref l2, .int 0 0] }
abbrev zsH3 (h : Heap) (x : Str) (t : Tok) (l2 : Addr) : Heap := (zsH2 h x t l2).push { cls := .type "tuple", data := .seq #[.ref h.objs.size, .ref (zsH1 h x t).objs.size] }
abbrev zsH4 (h : Heap) (x : Str) (t : Tok) (l2 : Addr) : Heap := (zsH3 h x t l2).push { cls := .type "tuple", data := .seq #[.none, .none] }
abbrev zsH5 (h : Heap) (x : Str) (t : Tok) (l2 : Addr) : Heap := (zsH4 h x t l2).push { cls := .type "zip", data := .fields #[.none, .bool false, .bool false, .ref (zsH2 h x t l2).objs.size, .ref (zsH3 h x t l2).objs.size] }
theorem meets_zipS_new (x : Str) (t : Tok) (l2 : Addr) (ys : Array Value) (ha : x.cps.all (· < 128) = true) :
    Meets (Builtin.«zip.__new__» ⟨[.type "zip", .str x t, .ref l2], []⟩) (fun _ R s => s.heap.IsList l2 ys ∧
      R (.ok (.ret (.ref (zsH4 s.heap x t l2).objs.size))) { s with heap := zsH5 s.heap x t l2 }) :=
  .of_wp fun prog w A R s h => by
    obtain ⟨hp, g, d, tk, os⟩ := s; obtain ⟨hl2, h⟩ := h
    have hsub := sub_zip
    have hL2 : Heap.IsList (Shared.heap ⟨hp.push { cls := .type "str_ascii_iterator", data := .fields #[.str x t, .int 0 0] }, g, d, tk, os⟩) l2 ys := Heap.IsList.push hl2 _
    wp_walk using wpAny_pyIter_ascii ha, wpAny_pyIter_list hL2
    exact ⟨_, rfl, h⟩
end ZL
end
/-! ### ZL3 -/
section
set_option Elab.async false
set_option linter.all false
set_option maxRecDepth 100000
set_option maxHeartbeats 4000000
/-! list(zip(text, list)) in the layer. -/
namespace ZL
open PySem PySem.Spec PyProof.Rows L2
open K0 (oneV oneS)
section
variable {prog : Program} {w : World} {A : Around} {E : Value → Shared → Prop} {s : Shared}
theorem call_zipS {x : Str} {t : Tok} {l2 : Addr} {ys : Array Value} {Q : Value → Shared → Prop} (ha : x.cps.all (· < 128) = true) (hl2 : s.heap.IsList l2 ys)
    (h : ∀ h', IsZip h' (s.heap.objs.size + 4) (s.heap.objs.size + 2) (s.heap.objs.size + 3) .none → IsTupOf2 h' (s.heap.objs.size + 2) (.ref s.heap.objs.size) (.ref (s.heap.objs.size + 1)) →
      IsTupOf2 h' (s.heap.objs.size + 3) .none .none → h'.IsStrIter s.heap.objs.size "str_ascii_iterator" x t 0 → h'.IsListIter (s.heap.objs.size + 1) l2 0 → h'.objs.size = s.heap.objs.size + 5 →
      (∀ c o, s.heap.get? c = some o → h'.get? c = some o) → Q (.ref (s.heap.objs.size + 4)) { s with heap := h' }) :
    wpAny (model prog w) A (call (.type "zip") [.str x t, .ref l2]) Q E s := by
  refine callType_new F.called_zip (by decide) (F.typeCall_zip_2 _ _) (F.newCall_zip_2 _ _) (fun obj => F.args_object_init_3 obj _ _) F.entry_zip_new
    (meets_zipS_new x t l2 ys ha) ⟨hl2, ?_⟩
  have z1 : (zsH1 s.heap x t).objs.size = s.heap.objs.size + 1 := Heap.size_push ..
  have z2 : (zsH2 s.heap x t l2).objs.size = s.heap.objs.size + 2 := by rw [Heap.size_push, z1]
  have z3 : (zsH3 s.heap x t l2).objs.size = s.heap.objs.size + 3 := by rw [Heap.size_push, z2]
  have z4 : (zsH4 s.heap x t l2).objs.size = s.heap.objs.size + 4 := by rw [Heap.size_push, z3]
  have z5 : (zsH5 s.heap x t l2).objs.size = s.heap.objs.size + 5 := by rw [Heap.size_push, z4]
  have g5 : (zsH5 s.heap x t l2).get? (zsH4 s.heap x t l2).objs.size = some _ := Heap.get?_push_size _ rfl
  have g4 : (zsH5 s.heap x t l2).get? (zsH3 s.heap x t l2).objs.size = some _ := Heap.get?_push_of_some _ (Heap.get?_push_size _ rfl)
  have g3 : (zsH5 s.heap x t l2).get? (zsH2 s.heap x t l2).objs.size = some _ := Heap.get?_push_of_some _ (Heap.get?_push_of_some _ (Heap.get?_push_size _ rfl))
  have g2 : (zsH5 s.heap x t l2).get? (zsH1 s.heap x t).objs.size = some _ := Heap.get?_push_of_some _ (Heap.get?_push_of_some _ (Heap.get?_push_of_some _ (Heap.get?_push_size _ rfl)))
  have g1 : (zsH5 s.heap x t l2).get? s.heap.objs.size = some _ := Heap.get?_push_of_some _ (Heap.get?_push_of_some _ (Heap.get?_push_of_some _ (Heap.get?_push_of_some _ (Heap.get?_push_size _ rfl))))
  show _ ∧ _
  rw [z2, z3, z4] at g5
  rw [z1, z2] at g3
  rw [z3] at g4
  rw [z1] at g2
  rw [z4]
  exact ⟨⟨_, g5, rfl⟩, h _ g5 g3 g4 ⟨_, g1, rfl, rfl⟩ ⟨_, g2, rfl, rfl⟩ z5 fun c o x =>
    Heap.get?_push_of_some _ (Heap.get?_push_of_some _ (Heap.get?_push_of_some _ (Heap.get?_push_of_some _ (Heap.get?_push_of_some _ x))))⟩
end
theorem refs_all : ∀ l : List Value, (∀ v ∈ l, ∃ T, v = Value.ref T) → ∃ ps : List Addr, l = ps.map Value.ref
  | [], _ => ⟨[], rfl⟩
  | v :: l, h => by
    obtain ⟨T, rfl⟩ := h v List.mem_cons_self
    obtain ⟨ps, e⟩ := refs_all l fun u hu => h u (List.mem_cons_of_mem _ hu)
    exact ⟨T :: ps, by rw [e]; rfl⟩
theorem refs_vals : ∀ ps : List Addr, Vals (ps.map V.ref) (ps.map Value.ref)
  | [] => .nil
  | _ :: ps => .cons rfl (refs_vals ps)
/-- the pairs of a text's signs and a list's items, tuples of their own, in a new list -/
def tZipS (K : PySem.W.Frag) (ta : TA) : TE := fun σ H Q => ta σ H fun vs H1 => ∃ (x : Str) (b : Addr) (ys : List V), vs = [.str x, .ref b] ∧ SqL K H1 b ys ∧ x.cps.all (· < 128) = true ∧ x.cps.size = ys.length ∧ 1 ≤ ys.length ∧ ys.length ≤ 1000 ∧
  ∀ (H' : Hp) (p : Addr) (ps : List Addr), (∀ b o, H1 b = some o → H' b = some o) → H1 p = none → H' p = some (.lst (ps.map V.ref)) → ps.length = ys.length → (∀ (j : Nat) (q : Addr), ps[j]? = some q → ∃ (c : Nat) (y : V), x.cps[j]? = some c ∧ ys[j]? = some y ∧ H' q = some (.tup [oneV c, y])) → Q (.ref p) H'
section
variable {X : Cx} {e1 e2 : Expr} {ta : TA} {p p2 pos pos2 : Pos}
theorem pe_listZipS (hg : Gl X "list") (hm : X.mg "list" = none) (hg2 : Gl X "zip") (hm2 : X.mg "zip" = none) (ha : PA X [e1, e2] ta)
    (hs : starEach [.Call (.Name "zip" p2) [e1, e2] [] pos2] X.env = [(false, eval (.Call (.Name "zip" p2) [e1, e2] [] pos2) X.env)] := by rfl)
    (hs2 : starEach [e1, e2] X.env = (false, eval e1 X.env) :: starEach [e2] X.env := by rfl) (hpl2 : (backTo pos2 (starEach [e2] X.env)).any (·.1) = false := by rfl) (hc : X.calm = true) :
    PE X (.Call (.Name "list" p) [.Call (.Name "zip" p2) [e1, e2] [] pos2] [] pos) (tZipS X.K ta) := by
  refine ⟨fun pins s σ H Q I h => ?_⟩
  refine wpAny_Call_Name_kw (ld_blt (u := .type "list") I hg hm (by decide +kernel) ?_)
  refine PyProof.Rows.callWith_type1 (rest := []) ?_ hs (by rfl)
  rw [hs]
  show wpAny _ _ (spliced [(false, eval (.Call (.Name "zip" p2) [e1, e2] [] pos2) X.env)]) _ _ s
  refine Calls.spliced_cons (wpAny_Call_Name_kw (ld_blt (u := .type "zip") I hg2 hm2 PyProof.Rows.boot_zip (PyProof.Rows.callWith_type1 (thn (ha.run pos2 pins s σ H _ I h) fun us s1 ⟨vs, H1, I1, r1, q1⟩ => ?_) hs2 hpl2)))
  obtain ⟨x, b, ys, ev, hb, asc, sz, n1, n1000, q⟩ := q1
  subst ev
  obtain ⟨u1, u2, rfl, ⟨t, rfl⟩, e2⟩ := vals2 r1
  obtain rfl : u2 = Value.ref b := e2
  obtain ⟨its, rv, pl, hz⟩ := I1.list hb
  have il : its.length = ys.length := rv.length.symm
  refine call_zipS asc pl.isList fun h1 hzp hTI hTO hi1 hi2 hsz kp => Calls.spliced_nil ?_
  -- list(z)
  have sl : sizeLine = 16777216 := sizeLine_eq
  have hd := I1.ok.hd hc
  have hl1 : h1.IsList b its.toArray := pl.isList.at fun o e => kp _ o e
  have bl : b < s1.heap.objs.size := by obtain ⟨o, ho, _⟩ := pl.isList; exact Heap.lt_size ho
  have ne : ∀ k : Nat, s1.heap.objs.size + k ≠ b := fun k e => absurd bl (by rw [← e]; exact Nat.not_lt.mpr (Nat.le_add_right _ _))
  have ne0 : s1.heap.objs.size ≠ b := ne 0
  have Z : ZipSep2 (s1.heap.objs.size + 4) (s1.heap.objs.size + 2) (s1.heap.objs.size + 3) s1.heap.objs.size (s1.heap.objs.size + 1) [s1.heap.objs.size] [s1.heap.objs.size + 1, b] := by
    constructor <;> simp [ne, ne0]
  have Fr : Far h1.objs.size (s1.heap.objs.size + 4) (s1.heap.objs.size + 2) (s1.heap.objs.size + 3) s1.heap.objs.size (s1.heap.objs.size + 1) [s1.heap.objs.size] [s1.heap.objs.size + 1, b] := by
    rw [hsz]
    constructor <;> simp [ne, ne0]
  have D1 := Draws.strAscii (prog := X.prog) (w := X.w) (A := X.A.in1.in1.in1) hd s1.heap.objs.size x t
  have D2 := Draws.list (prog := X.prog) (w := X.w) (A := X.A.in1.in1.in1) hd (s1.heap.objs.size + 1) b (ne 1).symm its.toArray
  have n2 : its.toArray.size = x.cps.size := by rw [List.size_toArray, il, sz]
  rw [n2] at D2
  refine call_list (s := { s1 with heap := h1 }) Z D1 D2 (by omega) (by omega) Fr hzp hTO hTI hi1 ⟨hi2, hl1⟩ fun h' tk acc c hk hS hP => ?_
  -- all old objects stand
  have k' : ∀ b o, s1.heap.get? b = some o → h'.get? b = some o := fun b o e => by
    have bl := Heap.lt_size e
    refine hk b o (fun z => ?_) (kp b o e)
    have z : b = s1.heap.objs.size + 4 ∨ b = s1.heap.objs.size + 3 ∨ b = s1.heap.objs.size ∨ b = s1.heap.objs.size + 1 := by simpa using z
    rcases z with z | z | z | z <;> rw [z] at bl <;> first | exact absurd bl (Nat.lt_irrefl _) | exact absurd bl (Nat.not_lt.mpr (Nat.le_add_right _ _))
  have I2 : Inv X pins σ H1 { s1 with heap := h', toks := tk } := I1.kept k'
  obtain ⟨ps, eps⟩ : ∃ ps : List Addr, acc.toList = ps.map Value.ref := refs_all acc.toList fun v hv => by
    obtain ⟨j, hj⟩ := List.mem_iff_getElem?.mp hv
    rw [Array.getElem?_toList] at hj
    obtain ⟨T, _, _, e, _⟩ := hP.2 j v hj
    exact ⟨T, e⟩
  have plen : ps.length = ys.length := by
    have h1 := congrArg List.length eps
    rw [Array.length_toList, List.length_map, hP.1.1] at h1
    omega
  have pnd : ps.Nodup := by
    have h1 := hP.1.2
    rw [eps] at h1
    exact (List.pairwise_map.mp h1).imp fun h e => h (by rw [e])
  have bigS : s1.heap.objs.size ≤ h1.objs.size := by rw [hsz]; exact Nat.le_add_right _ _
  have nS : H1 h1.objs.size = none := I1.hok.fresh bigS
  have I3 : Inv X pins σ (upd H1 h1.objs.size (.lst (ps.map V.ref))) { s1 with heap := h', toks := tk } := by
    refine I2.take (h' := h') (t' := tk) (fun b ob _ e => e) (I1.fpOk bigS nS) ⟨by rw [List.length_map]; omega, acc.toList, c, ?_, hS⟩
    rw [eps]
    exact refs_vals ps
  obtain ⟨H4, I4, g4, p4⟩ := DX.takeT (h' := h') (tk := tk) (P := fun a vs => ∃ (j : Nat) (cc : Nat) (y : V), ps[j]? = some a ∧ x.cps[j]? = some cc ∧ ys[j]? = some y ∧ vs = [oneV cc, y]) I1 ps _ I3 pnd fun a ha => by
    obtain ⟨j, hj⟩ := List.mem_iff_getElem?.mp ha
    have hj2 : acc[j]? = some (.ref a) := by rw [← Array.getElem?_toList, eps, List.getElem?_map, hj]; rfl
    obtain ⟨T, x1, x2, e1, e2, ⟨cc, u, e3, e4⟩, e5, e6, e7⟩ := hP.2 j _ hj2
    cases e1
    subst e4
    have e5 : its[j]? = some x2 := by rw [← List.getElem?_toArray]; exact e5
    have hjl : j < ys.length := by
      have := (List.getElem?_eq_some_iff.mp e5).1
      omega
    obtain ⟨y, hy⟩ : ∃ y, ys[j]? = some y := ⟨_, List.getElem?_eq_getElem hjl⟩
    obtain ⟨u2, hu2, ru2⟩ := rv.get hy
    rw [e5] at hu2
    cases hu2
    have big : s1.heap.objs.size ≤ a := Nat.le_trans bigS (Nat.le_of_lt e7)
    refine ⟨big, ?_, [oneV cc, y], ⟨j, cc, y, hj, e3, hy, rfl⟩, fun H2 => ⟨by show 2 ≤ sizeLine; omega, [.str ⟨#[cc]⟩ u, x2], .cons ⟨u, rfl⟩ (.cons ru2 .nil), ⟨_, e2, rfl, _, rfl⟩⟩⟩
    rw [upd_ne (Nat.ne_of_gt e7)]
    exact I1.hok.fresh big
  refine ⟨.ref h1.objs.size, H4, I4, rfl, q H4 _ ps (fun b o e => g4 _ _ (by rw [upd_ne (ne_of_none e nS)]; exact e)) nS (g4 _ _ upd_same) plen fun j a hj => ?_⟩
  obtain ⟨vs, ⟨j', cc, y, h1', h2', h3', rfl⟩, h5⟩ := p4 a (List.mem_of_getElem? hj)
  have ej : j = j' := (List.getElem?_inj (List.getElem?_eq_some_iff.mp hj).1 pnd).mp (hj.trans h1'.symm)
  subst ej
  exact ⟨cc, y, h2', h3', h5⟩
end
end ZL
end
/-! ### OT -/
section
set_option Elab.async false
set_option linter.all false
set_option maxRecDepth 100000
set_option maxHeartbeats 4000000
/-! _law_other_signs. -/
namespace K0
open PySem PySem.Spec PyProof.Rows L2 Rd
def rTupK (K : PySem.W.Frag) : List V → Hp → VK → Prop := fun xs H Q => ∃ p ys, xs = [.ref p] ∧ ((SqL K H p ys ∧ ∀ l, H l = none → Q (.ref l) (upd H l (.tup ys))) ∨ (SqT K H p ys ∧ Q (.ref p) H))
theorem call_tupleK {X : Cx} (K : PySem.W.Frag) (e : X.K = K) : CallR X (.type "tuple") (rTupK K) := by
  subst e
  exact call_tuple_of
theorem cr_sortedK {X : Cx} (K : PySem.W.Frag) (e : X.K = K) : CallR X (.builtin "sorted") (rSortedS K) := by
  subst e
  exact cr_sortedS
theorem ix_tupK {X : Cx} (K : PySem.W.Frag) (e : X.K = K) : IxR X (rIxT K) := by
  subst e
  exact ix_tup
abbrev otN : List Str := ["dice", "runs", "there", "run", "sign"]
theorem scOther : FnScope otN ["dice", "runs"] (defScope (top iLOther)) := ⟨rfl, rfl, rfl, by decide +kernel, rfl, by decide +kernel, by decide +kernel⟩
def spOther (K : PySem.W.Frag) : Sp := fun vs H Q _ => ∃ (p : Addr) (a b c : Int) (t : Addr) (xs : List V) (rs : List RunD), vs = [.ref p, .ref t] ∧ H p = some (dk a b c) ∧ SqT K (hid p H) t xs ∧ Paired (RunAt K (hid p H)) xs rs ∧ rs.length ≤ 4 ∧ (∀ r ∈ rs, RunOk r) ∧
  ∀ (H' : Hp) (x : Addr) (ys : List V) (rs' : List RunD) (ms : List Nat), Keep p H H' → H' x = some (.tup ys) → x ≠ p → DvAll K (hid p H') ys (rs'.map dataR) → (∀ r ∈ rs', RunOk r) → rs'.length = rs.length → ms.Perm sgs → Others sgs (toS ms) rs rs' → Q (.ref x) H'
theorem paired_of {α β : Type} {F : α → β → Prop} : ∀ {l : List α} {m : List β}, l.length = m.length → (∀ (j : Nat) a b, l[j]? = some a → m[j]? = some b → F a b) → Paired F l m
  | [], [], _, _ => .nil
  | [], _ :: _, h, _ => by cases h
  | _ :: _, [], h, _ => by cases h
  | a :: l, b :: m, h, f => .cons (f 0 a b rfl rfl) (paired_of (by simpa using h) fun j x y h1 h2 => f (j + 1) x y (by simpa using h1) (by simpa using h2))
theorem hid2_same {D p : Addr} {H H' : Hp} (h : ∀ b o, b ≠ D → b ≠ p → H b = some o → H' b = some o) : Same (hid D (hid p H)) (hid D (hid p H')) := fun b o z => by
  by_cases bD : b = D
  · rw [bD] at z
    unfold hid at z
    rw [if_pos rfl] at z
    cases z
  · rw [hid_ne bD] at z ⊢
    by_cases bp : b = p
    · rw [bp] at z
      unfold hid at z
      rw [if_pos rfl] at z
      cases z
    · rw [hid_ne bp] at z ⊢
      exact h b o bD bp z
theorem others_app {l : List Nat} {ρ : Nat → Nat} {r r' : RunD} (o : OtherR l ρ r r') : ∀ {as as' : List RunD}, Others l ρ as as' → Others l ρ (as ++ [r]) (as' ++ [r'])
  | _, _, .nil => .cons o .nil
  | _, _, .cons h t => .cons h (others_app o t)
section
variable {P : Program} {w : World} {K : PySem.W.Frag} {mg : Str → Option Value} {base : Heap} {f fA fM : Addr} {fd fdA fdM : FuncData}
theorem ok_other {k : Nat} (F : FnP K "_law_other_signs" iLOther f fd) (mlist : mg "list" = none) (mtuple : mg "tuple" = none) (msorted : mg "sorted" = none) (mdict : mg "dict" = none) (mzip : mg "zip" = none)
    (FA : FnOk P w K mg base CX0 (k + 2) fA fdA [] spAll) (gA : mg "_law_all_signs" = some (.ref fA)) (kA : PySem.W.keepIn K (.ref fA) = true) (bA : Binds K fdA [] [])
    (FM : FnOk P w K mg base CX0 (k + 2) fM fdM ["dice", "items"] (spMixed K)) (gM : mg "_law_mixed" = some (.ref fM)) (kM : PySem.W.keepIn K (.ref fM) = true) (bM : Binds K fdM ["dice", "items"] []) :
    FnOk P w K mg base CX0 (k + 3) f fd ["dice", "runs"] (spOther K) := by
  refine F.ok scOther (fun vs H Q E h => ?_) (fun cdv A outer s H vs Q E hr h => ?_)
  · obtain ⟨p, a, b, c, t, xs, rs, rfl, _⟩ := h
    rfl
  · obtain ⟨p, a, b, c, t, xs, rs, rfl, hp, hT, hP, r4, ok, q⟩ := h
    refine ⟨_, PSs.nox (C8.pss_cut (ps_set (i := 2) scOther.nd rfl (.inr rfl) (pe_callTy (call_dictP rfl) (by rfl) mdict (by decide +kernel) (pa_cons (ZL.pe_listZipS (by rfl) mlist (by rfl) mzip (pa_cons (pe_call0 FA hr (by rfl) gA kA bA .nil pass0) (pa_cons (pe_call FM hr (by rfl) gM kM bM .nil pass0 (pa_cons (pv 0) (pa_cons (pe_callTy (call_list_txt rfl) (by rfl) mlist (by decide +kernel) (pa_cons (pe_call0 FA hr (by rfl) gA kA bA .nil pass0) pa_nil)) pa_nil))) pa_nil)) (by rfl) (by rfl) (by rfl) rfl) pa_nil)))
      (pss_one (ps_ret (pe_callTy call_tuple_of (by rfl) mtuple (by decide +kernel) (pa_cons (pe_lc (own := [("run", 3)]) (g := gName 3) (tt := tYes)
          (te := tTup (tCons (tCB (rTupK K) (tCons (tCB (rSortedS K) (tCons (tLc (iTup K (tOp (rIxT K) (tVar 3) (tC (.int 0)))) (gName 4) tYes (tDGet (tVar 2) (tVar 4)) [4]) tNil)) tNil)) (tCons (tOp (rIxT K) (tVar 3) (tC (.int 1))) (tCons (tOp (rIxT K) (tVar 3) (tC (.int 2))) tNil)))) rfl scOther.nd (pi_tup (pv 1)) (blkOk_by (N := otN) (sc := defScope (top iLOther)) (by decide +kernel))
          (fun _ _ _ _ _ => pg_name (i := 3) scOther.nd rfl (Or.inl rfl)) (fun _ _ _ _ _ => pts_nil)
          (fun _ _ _ _ _ => pe_tup (pa_cons (pe_callTy (call_tupleK K rfl) (by rfl) mtuple (by decide +kernel) (pa_cons (pe_callB (cr_sortedK K rfl) (by rfl) msorted (by decide +kernel) (pa_cons (pe_lc (own := [("sign", 4)]) (g := gName 4) (tt := tYes) rfl scOther.nd (pi_tup (pe_ix (ix_tupK K rfl) (pv 3) pe_int (fun _ _ => rfl))) (blkOk_by (N := otN) rfl)
              (fun _ _ _ _ _ => pg_name (i := 4) scOther.nd rfl (Or.inl rfl)) (fun _ _ _ _ _ => pts_nil) (fun _ _ _ _ _ => pe_dget (hu_of hr) (pv 2) (pv 4) (fun _ _ => rfl))) pa_nil)) pa_nil))
            (pa_cons (pe_ix (ix_tupK K rfl) (pv 3) pe_int (fun _ _ => rfl)) (pa_cons (pe_ix (ix_tupK K rfl) (pv 3) pe_int (fun _ _ => rfl)) pa_nil))))) pa_nil))))), ?_⟩
    have sl : sizeLine = 16777216 := sizeLine_eq
    have D0 : Dice p H := ⟨a, b, c, hp⟩
    refine ⟨fun σ' H' => ∃ (d : Addr) (ms : List Nat), σ' = [some (.ref p), some (.ref t), some (.ref d), none, none] ∧ Keep p H H' ∧ H' d = some (.dK (kvS sgs ms)) ∧ ms.Perm sgs, ?_, ?_⟩
    · refine ⟨rfl, _, rfl, rfl, allSigns, rfl, by decide +kernel, fun l nl => ?_⟩
      have k1 : Keep p H (upd H l (.lst (signsV allSigns))) := .new hp nl
      obtain ⟨a1, b1, c1, hp1⟩ := k1.2
      refine ⟨p, a1, b1, c1, l, _, rfl, hp1, .of upd_same, by decide +kernel, fun H2 l2 ys k2 pm e2 ne => ?_⟩
      obtain ⟨ms, pc, rfl⟩ := perm_codes (f := oneV) (g := codeV) (fun c => rfl) (l := sgs) pm
      have ml := pc.length_eq
      have l15 : sgs.length = 15 := by decide +kernel
      refine ⟨allSigns, l2, ms.map oneV, rfl, .of e2, by decide +kernel, ?_, ?_, ?_, fun H3 pz ps s3 n3 e3 pl pp => ?_⟩
      · rw [List.length_map, ml]; rfl
      · rw [List.length_map]; omega
      · rw [List.length_map]; omega
      refine ⟨pz, ps, kvS sgs ms, rfl, .of e3, ?_, fun dd nd => ⟨dd, ms, rfl, ?_, ?_, pc⟩⟩
      · refine paired_of (by rw [pl, List.length_map, ml]; unfold kvS; rw [List.length_zipWith, ml]; exact (Nat.min_self _).symm) fun j q kv hq hk => ?_
        obtain ⟨cc, y, h1, h2, h3⟩ := pp j q hq
        unfold kvS at hk
        rw [List.getElem?_zipWith] at hk
        rw [List.getElem?_map] at h2
        have h1' : sgs[j]? = some cc := by rw [← h1, Array.getElem?_toList]
        cases h4 : ms[j]? with
        | none => rw [h4] at h2; cases h2
        | some dd =>
          rw [h4] at h2
          cases h2
          rw [h1', h4] at hk
          cases hk
          exact .of h3
      · obtain ⟨a3, b3, c3, z3⟩ := (k1.trans k2).2
        exact Keep.new2 ⟨fun b o n z => s3 _ _ ((k1.trans k2).1 b o n z), a3, b3, c3, s3 _ _ z3⟩ nd
      · rw [upd_same, merge_kvS sgs_nodup]
    rintro σ1 H1 ⟨d, ms, rfl, k1, e1, pm⟩
    have xl := paired_len hP
    have tH : SqT K H1 t xs := sq_hid (sq_keep hT k1)
    obtain ⟨a1, b1, c1, hp1⟩ := k1.2
    have dp : d ≠ p := fun z => by
      rw [z, hp1] at e1
      injection e1 with e1
      injection e1
    refine ⟨_, rfl, t, rfl, ⟨_, tH⟩, fun D nD => ?_⟩
    have nHD : H1 D = none := nD
    refine lc_it (walk_tup (xs := xs)) (fun m H5 => Same H1 H5 ∧ ∃ ys rs', H5 D = some (.lst ys) ∧ DvAll K (hid D (hid p H5)) ys (rs'.map dataR) ∧ (∀ r ∈ rs', RunOk r) ∧ rs'.length = (rs.take m).length ∧ Others sgs (toS ms) (rs.take m) rs') ⟨same_upd nD, [], [], upd_same, .nil, (fun r h => by cases h), rfl, .nil⟩ (fun m H5 _ hP2 => same_tup hP2.1 tH) (fun m x H5 H6 hm hP2 hY => ?_) (fun H5 hP2 => ?_)
    · obtain ⟨s5, ys, rs', e5, dv, okr, len, ot⟩ := hP2
      obtain ⟨eH, hx⟩ := hY
      subst H6
      obtain ⟨r, hr2, ar, sg, rfl, hrT, hsT⟩ := paired_at' hP hx
      have tk : rs.take (m + 1) = rs.take m ++ [r] := by rw [List.take_succ, hr2]; rfl
      have ok1 := ok r (List.mem_of_getElem? hr2)
      have k5 : Keep p H H5 := ⟨fun b o n z => s5 _ _ (k1.1 b o n z), a1, b1, c1, s5 _ _ hp1⟩
      have rT : SqT K H5 ar [.ref sg, .int ((r.low : Nat) : Int), hiV r.high] := sq_hid (sq_keep hrT k5)
      have gT := sq_hid (sq_keep hsT k5)
      have ed := s5 _ _ e1
      refine ⟨rfl, _, rfl, ar, _, _, _, rfl, rfl, rT, rfl, sg, rfl, ⟨_, gT⟩, fun D2 nD2 => ?_⟩
      refine lc_it (walk_tup (xs := r.signs.map oneV)) (fun j H6 => Same H5 H6 ∧ H6 D2 = some (.lst ((r.signs.take j).map fun c => oneV (toS ms c)))) ⟨same_upd nD2, upd_same⟩ (fun j H6 _ hP => same_tup hP.1 gT) (fun j y H6 H7 hj hP hY => ?_) (fun H6 hP => ?_)
      · obtain ⟨s6, e6⟩ := hP
        obtain ⟨eH, hy⟩ := hY
        subst H7
        have hj2 : j < r.signs.length := by rw [List.length_map] at hj; exact hj
        rw [List.getElem?_map, List.getElem?_eq_getElem hj2] at hy
        have tk2 : r.signs.take (j + 1) = r.signs.take j ++ [r.signs[j]] := by rw [List.take_succ, List.getElem?_eq_getElem hj2]; rfl
        have cin := ok1.sub _ (List.getElem_mem hj2)
        rw [tk2]
        generalize r.signs[j] = cc at hy cin
        obtain rfl : oneV cc = y := Option.some.inj hy
        obtain ⟨i, h1, h2, _⟩ := toS_at pm cin
        have gv := valV_kvS sgs_nodup h1 h2
        have few := signs_few ok1.asc ok1.sub
        refine ⟨rfl, _, rfl, _, rfl, d, _, rfl, .inl ⟨_, .inr (oneS cc), .inl (s6 _ _ ed), rfl, gv.symm⟩, _, e6, by rw [List.length_map, List.length_take]; omega, fun y o z => by rw [upd_ne (ne_of_none z nD2)]; exact s6 _ _ z, ?_⟩
        rw [upd_same, List.map_append]
        rfl
      · obtain ⟨s6, e6⟩ := hP
        rw [List.length_map, List.take_length] at e6
        have few := signs_few ok1.asc ok1.sub
        have etx : (r.signs.map fun c => oneV (toS ms c)) = ((r.signs.map fun c => oneS (toS ms c)).map V.str) := by rw [List.map_map]; rfl
        refine ⟨D2, r.signs.map fun c => oneS (toS ms c), rfl, .of (by rw [e6, etx]), by rw [List.length_map]; omega, fun zs pz pz1 so npz => ⟨pz, _, rfl, .inl ⟨.of upd_same, fun tt ntt => ?_⟩⟩⟩
        have pz2 : zs.Perm ((r.signs.map (toS ms)).map oneS) := by rw [List.map_map]; exact pz1
        obtain ⟨es, pe, rfl⟩ := perm_codes (f := oneS) (g := codeS) (fun c => rfl) pz2
        have asc := sorted_pw so (pe.nodup_iff.mpr (other_nodup pm (ok1.asc.imp fun h => Nat.ne_of_lt h) ok1.sub))
        obtain ⟨ok2, o2⟩ := other_run pm ok1 pe asc
        have s7 : Same H5 (upd (upd H6 pz (.lst ((es.map oneS).map V.str))) tt (.tup ((es.map oneS).map V.str))) := (s6.trans (same_upd npz)).trans (same_upd ntt)
        have ett : upd (upd H6 pz (.lst ((es.map oneS).map V.str))) tt (.tup ((es.map oneS).map V.str)) tt = some (.tup (es.map oneV)) := by rw [upd_same, ones_map]
        generalize upd (upd H6 pz (.lst ((es.map oneS).map V.str))) tt (.tup ((es.map oneS).map V.str)) = H8 at s7 ett
        have rT8 := same_tup s7 rT
        refine ⟨_, rfl, ar, _, _, _, rfl, rfl, rT8, rfl, _, rfl, ar, _, _, _, rfl, rfl, rT8, rfl, by show 3 ≤ sizeLine; omega, fun tr ntr => ?_⟩
        have e5' := s7 _ _ e5
        have hp5 := s7 _ _ (s5 _ _ hp1)
        have dl := dv.length
        rw [List.length_map] at dl
        have r4' : (rs.take m).length ≤ 4 := by rw [List.length_take]; omega
        have trD : tr ≠ D := (ne_of_none e5' ntr).symm
        have trp : tr ≠ p := (ne_of_none hp5 ntr).symm
        have ttD : tt ≠ D := fun z => by rw [z, e5'] at ett; cases ett
        have ttp : tt ≠ p := fun z => by rw [z, hp5] at ett; cases ett
        have Dp : D ≠ p := fun z => by rw [z, hp1] at nHD; cases nHD
        have s8 : Same H8 (upd H8 tr (.tup [.ref tt, .int ((r.low : Nat) : Int), hiV r.high])) := same_upd ntr
        refine ⟨ys, s8 _ _ e5', by omega, fun y o z => ?_, ys ++ [.ref tr], rs' ++ [⟨es, r.low, r.high⟩], upd_same, ?_, fun q hq => ?_, ?_, ?_⟩
        · rw [upd_ne (ne_of_none z nHD)]
          exact s8 _ _ (s7 _ _ (s5 _ _ z))
        · have hs : Same (hid D (hid p H5)) (hid D (hid p (upd (upd H8 tr (.tup [.ref tt, .int ((r.low : Nat) : Int), hiV r.high])) D (.lst (ys ++ [.ref tr]))))) := hid2_same fun b o nb _ z => by
            rw [upd_ne nb]
            exact s8 _ _ (s7 _ _ z)
          rw [List.map_append]
          refine (DvAll.same hs _ _ dv).append (.cons (dv_run (r := ⟨es, r.low, r.high⟩) (s := tt) (.of ?_) (.of ?_)) .nil)
          · rw [hid_ne trD, hid_ne trp, upd_ne trD, upd_same]
          · rw [hid_ne ttD, hid_ne ttp, upd_ne ttD]
            exact s8 _ _ ett
        · rcases List.mem_append.mp hq with hq | hq
          · exact okr q hq
          · rw [List.mem_singleton.mp hq]; exact ok2
        · rw [List.length_append, tk, List.length_append, len]; rfl
        · rw [tk]; exact others_app o2 ot
    · obtain ⟨s5, ys, rs', e5, dv, okr, len, ot⟩ := hP2
      rw [xl, List.take_length] at len ot
      have Dp : D ≠ p := fun z => by rw [z, hp1] at nHD; cases nHD
      refine ⟨D, _, rfl, .inl ⟨.of e5, fun x nx => ?_⟩⟩
      have k5 : Keep p H H5 := ⟨fun b o n z => s5 _ _ (k1.1 b o n z), a1, b1, c1, s5 _ _ hp1⟩
      have xp : x ≠ p := (ne_of_none (s5 _ _ hp1) nx).symm
      refine q _ x ys rs' ms (k5.new2 nx) upd_same xp (DvAll.same (fun b o z => ?_) _ _ dv) okr len pm ot
      by_cases bD : b = D
      · rw [bD] at z
        unfold hid at z
        rw [if_pos rfl] at z
        cases z
      · rw [hid_ne bD] at z
        by_cases bp : b = p
        · rw [bp] at z
          unfold hid at z
          rw [if_pos rfl] at z
          cases z
        · rw [hid_ne bp] at z ⊢
          rw [upd_ne (ne_of_none z nx)]
          exact z
end
end K0
end
/-! ### M7 -/
section
set_option Elab.async false
set_option linter.all false
set_option maxRecDepth 100000
set_option maxHeartbeats 4000000
/-! The numbers that _law_right and law hold against one another. -/
namespace K0
open PySem PySem.Spec PyProof.Rows L2 Rd
theorem sgs_nd : sgs'.Nodup := by decide +kernel
theorem sgs_len : sgs'.length = 15 := by decide +kernel
theorem good_runs {rs : List RunD} (h : ∀ r ∈ rs, RunOk r) (l : rs.length ≤ 4) : Good rs := ⟨l, fun r hr => (h r hr).good⟩
/-- a text of a length is one of finitely many -/
theorem cnt_bound (rs : List RunD) (m : Nat) : Rd.cnt sgs' rs m ≤ 15 ^ m := by
  unfold Rd.cnt tks
  refine Nat.le_trans (List.length_filter_le _ _) ?_
  rw [wds_len, sgs_len]
  exact Nat.le_refl _
/-! ### a sign less -/
def dueL (ys : List Str) (c m : Nat) : List Str := ys.filter fun z => decide ((cd z).length = m) && !decide (c ∈ cd z)
theorem due_gone {n m c : Nat} {rs : List RunD} {ys : List Str} (f : Found n rs ys) (g : gone [c] rs = true) : dueL ys c m = [] := by
  unfold dueL
  rw [List.filter_eq_nil_iff]
  intro z hz q
  obtain ⟨h1, _⟩ := (f.mem z).mp hz
  obtain ⟨s, hs, hb⟩ := gone_fil g h1
  rw [List.mem_singleton.mp hb] at hs
  rw [decide_eq_true hs] at q
  simp at q
theorem due_count {n m c : Nat} {rs : List RunD} {ys : List Str} (f : Found n rs ys) (ok : ∀ r ∈ rs, RunOk r) (l4 : rs.length ≤ 4) (g : gone [c] rs = false) (hm : m ≤ n) : (dueL ys c m).length = Rd.cnt sgs' (barL [c] rs) m := by
  have := cnt_of (l := sgs') (rs := barL [c] rs) (m := m) (M := (dueL ys c m).map cd) sgs_nd (good_bar (good_runs ok l4)) (nodup_map (fun x _ y _ e => cd_inj e) (f.nd.filter _)) fun t => ?_
  · rw [this, List.length_map]
  · rw [bar_fil g]
    constructor
    · intro h
      obtain ⟨z, hz, rfl⟩ := List.mem_map.mp h
      obtain ⟨h1, h2⟩ := List.mem_filter.mp hz
      rw [Bool.and_eq_true, decide_eq_true_iff] at h2
      obtain ⟨h3, _⟩ := (f.mem z).mp h1
      refine ⟨⟨h2.1, fun s hs => ?_⟩, h3, fun s hs e => ?_⟩
      · obtain ⟨r, hr, q⟩ := fil_signs h3 s hs
        exact (ok r hr).sub s q
      · rw [List.mem_singleton.mp e] at hs
        rw [decide_eq_true hs] at h2
        exact absurd h2.2 (by simp)
    · rintro ⟨⟨h1, _⟩, h2, h3⟩
      refine List.mem_map.mpr ⟨tx t, List.mem_filter.mpr ⟨(f.mem _).mpr ⟨by rw [cd_tx]; exact h2, by rw [cd_tx, h1]; exact hm⟩, ?_⟩, cd_tx t⟩
      rw [Bool.and_eq_true, decide_eq_true_iff]
      refine ⟨by rw [cd_tx]; exact h1, ?_⟩
      have : c ∉ cd (tx t) := fun q => h3 c q List.mem_cons_self
      rw [decide_eq_false this]; rfl
/-- where no run is left, the empty text alone is left, or nothing -/
theorem due_none {n m c : Nat} {rs : List RunD} {ys : List Str} (f : Found n rs ys) (g : gone [c] rs = false) (e : barL [c] rs = []) : dueL ys c m = if m = 0 then ([""] : List Str) else [] := by
  have sub : ∀ z ∈ dueL ys c m, z = "" ∧ m = 0 := fun z hz => by
    obtain ⟨h1, h2⟩ := List.mem_filter.mp hz
    rw [Bool.and_eq_true, decide_eq_true_iff] at h2
    obtain ⟨h3, _⟩ := (f.mem z).mp h1
    have b := (bar_fil (b := [c]) g (t := cd z)).mpr ⟨h3, fun s hs q => by
      rw [List.mem_singleton.mp q] at hs
      rw [decide_eq_true hs] at h2
      exact absurd h2.2 (by simp)⟩
    rw [e] at b
    have b : cd z = [] := b
    rw [b] at h2
    exact ⟨cd_inj b, h2.1.symm⟩
  split
  · rename_i hm
    subst hm
    have mem : ("" : Str) ∈ dueL ys c 0 := by
      have b := (bar_fil (b := [c]) g (t := [])).mp (by rw [e]; rfl)
      exact List.mem_filter.mpr ⟨(f.mem _).mpr ⟨b.1, Nat.zero_le _⟩, by
        show (decide (0 = 0) && !decide (c ∈ ([] : List Nat))) = true
        simp⟩
    have nd : (dueL ys c 0).Nodup := f.nd.filter _
    cases h : dueL ys c 0 with
    | nil => rw [h] at mem; cases mem
    | cons x l =>
      rw [h] at nd sub
      have hx := (sub x List.mem_cons_self).1
      cases l with
      | nil => rw [hx]
      | cons y l =>
        have hy := (sub y (List.mem_cons_of_mem _ List.mem_cons_self)).1
        rw [hx, hy] at nd
        exact absurd List.mem_cons_self (List.nodup_cons.mp nd).1
  · rename_i hm
    cases h : dueL ys c m with
    | nil => rfl
    | cons x l =>
      rw [h] at sub
      exact absurd (sub x List.mem_cons_self).2 hm
theorem ite_any {p : Prop} {d1 d2 : Decidable p} (a b : Nat) : @ite Nat p d1 a b = @ite Nat p d2 a b := by
  by_cases h : p
  · rw [if_pos h, if_pos h]
  · rw [if_neg h, if_neg h]
/-! ### a run more -/
theorem cnt_wide {rs : List RunD} {r : RunD} (ok : ∀ q ∈ rs, RunOk q) (l3 : rs.length < 4) (okr : RunOk r) (d : ∀ q ∈ rs, ∀ c ∈ q.signs, c ∉ r.signs) (m : Nat) :
    Rd.cnt sgs' (rs ++ [r]) m = ((List.range (m + 1)).map fun i => Rd.cnt sgs' rs i * ofRun r (m - i)).sum := by
  have g : Good (rs ++ [r]) := good_runs (fun q hq => (List.mem_append.mp hq).elim (ok q) fun z => by rw [List.mem_singleton.mp z]; exact okr) (by rw [List.length_append]; show rs.length + 1 ≤ 4; omega)
  rw [cnt_app sgs_nd g (fun s ⟨q, hq, hs⟩ ⟨q', hq', hs'⟩ => by
    rw [List.mem_singleton.mp hq'] at hs'
    exact d q hq s hs hs') m]
  congr 1
  refine List.map_congr_left fun i _ => ?_
  rw [cnt_one sgs_nd okr.good (okr.asc.imp fun h => Nat.ne_of_lt h) okr.sub]
  exact congrArg _ (ite_any _ _)
/-! ### written holes -/
def rMany : RunD := ⟨sgs', 0, none⟩
theorem cnt_many (m : Nat) : Rd.cnt sgs' [rMany] m = 15 ^ m := by
  rw [cnt_one sgs_nd ⟨by decide, by decide⟩ sgs_nd (fun s h => h), if_pos ⟨Nat.zero_le _, fun h e => nomatch e⟩]
  show sgs'.length ^ m = _
  rw [sgs_len]
def rSame : List RunD := [⟨[97], 0, none⟩, ⟨[97], 1, none⟩, ⟨[97], 0, some 3⟩]
def rBoth : List RunD := [⟨[97, 98], 0, none⟩, ⟨[98], 0, none⟩, ⟨[97, 98], 0, some 1⟩]
def rCode : List RunD := [⟨[48, 49], 1, some 2⟩, ⟨[97], 0, none⟩]
theorem good3 {a b c : RunD} (h1 : GoodR a) (h2 : GoodR b) (h3 : GoodR c) : Good [a, b, c] := ⟨by simp, fun r hr => by
  rcases List.mem_cons.mp hr with rfl | hr
  · exact h1
  rcases List.mem_cons.mp hr with rfl | hr
  · exact h2
  rw [List.mem_singleton.mp hr]; exact h3⟩
theorem cnt_same (m : Nat) : Rd.cnt sgs' rSame m = if 1 ≤ m then 1 else 0 := by
  have g : Good rSame := good3 ⟨by decide, by decide⟩ ⟨by decide, by decide⟩ ⟨by decide, by decide⟩
  have all : ∀ t, Fil rSame t → ∀ s ∈ t, s = 97 := fun t h s hs => by
    obtain ⟨r, hr, q⟩ := fil_signs h s hs
    rcases List.mem_cons.mp hr with rfl | hr
    · exact List.mem_singleton.mp q
    rcases List.mem_cons.mp hr with rfl | hr
    · exact List.mem_singleton.mp q
    rw [List.mem_singleton.mp hr] at q
    exact List.mem_singleton.mp q
  split
  · rename_i hm
    show _ = [List.replicate m 97].length
    refine cnt_of sgs_nd g (by simp) fun t => ⟨fun h => ?_, fun ⟨⟨h1, _⟩, h2⟩ => ?_⟩
    · rw [List.mem_singleton.mp h]
      refine ⟨⟨List.length_replicate, fun s hs => ?_⟩, ?_⟩
      · rw [List.eq_of_mem_replicate hs]; decide +kernel
      · refine ⟨[], List.replicate m 97, rfl, ⟨fun s h => absurd h List.not_mem_nil, Nat.zero_le _, fun h e => nomatch e⟩, List.replicate m 97, [], (List.append_nil _).symm, ⟨fun s hs => ?_, ?_, fun h e => nomatch e⟩, [], [], rfl, ⟨fun s h => absurd h List.not_mem_nil, Nat.zero_le _, fun h e => Nat.zero_le _⟩, rfl⟩
        · rw [List.eq_of_mem_replicate hs]; exact List.mem_cons_self
        · rw [List.length_replicate]; exact hm
    · exact List.mem_singleton.mpr (List.eq_replicate_iff.mpr ⟨h1, all t h2⟩)
  · rename_i hm
    show _ = ([] : List (List Nat)).length
    refine cnt_of sgs_nd g (by simp) fun t => ⟨fun h => (List.not_mem_nil h).elim, ?_⟩
    rintro ⟨⟨h1, _⟩, u, v, e, _, u2, v2, e2, h2, _⟩
    have := h2.2.1
    rw [e, e2, List.length_append, List.length_append] at h1
    have : 1 ≤ u2.length := this
    omega
theorem cnt_both (m : Nat) : Rd.cnt sgs' rBoth m = 2 ^ m := by
  have g : Good rBoth := good3 ⟨by decide, by decide⟩ ⟨by decide, by decide⟩ ⟨by decide, by decide⟩
  have e : (wds [97, 98] m).length = 2 ^ m := wds_len m
  rw [← e]
  refine cnt_of sgs_nd g (wds_nodup (by decide) m) fun t => ?_
  rw [mem_wds]
  constructor
  · rintro ⟨h1, h2⟩
    refine ⟨⟨h1, fun s hs => ?_⟩, t, [], (List.append_nil _).symm, ⟨h2, Nat.zero_le _, fun h e => nomatch e⟩, [], [], rfl, ⟨fun s h => absurd h List.not_mem_nil, Nat.zero_le _, fun h e => nomatch e⟩, [], [], rfl, ⟨fun s h => absurd h List.not_mem_nil, Nat.zero_le _, fun h e => Nat.zero_le _⟩, rfl⟩
    have : ∀ c ∈ [97, 98], c ∈ sgs' := by decide +kernel
    exact this s (h2 s hs)
  · rintro ⟨⟨h1, _⟩, h2⟩
    refine ⟨h1, fun s hs => ?_⟩
    obtain ⟨r, hr, q⟩ := fil_signs h2 s hs
    rcases List.mem_cons.mp hr with rfl | hr
    · exact q
    rcases List.mem_cons.mp hr with rfl | hr
    · rw [List.mem_singleton.mp q]; exact List.mem_cons_of_mem _ List.mem_cons_self
    rw [List.mem_singleton.mp hr] at q
    exact q
def r01r : RunD := ⟨[48, 49], 1, some 2⟩
def rAr : RunD := ⟨[97], 0, none⟩
theorem ok01 : RunOk r01r := ⟨by decide +kernel, by decide, by decide, by decide, fun h e => by cases e; decide⟩
theorem okA : RunOk rAr := ⟨by decide +kernel, by decide, by decide, by decide, fun h e => nomatch e⟩
theorem cnt_code (m : Nat) : Rd.cnt sgs' rCode m = ((List.range (m + 1)).map fun i => ofRun r01r i * ofRun rAr (m - i)).sum := by
  show Rd.cnt sgs' ([r01r] ++ [rAr]) m = _
  rw [cnt_wide (fun q hq => by rw [List.mem_singleton.mp hq]; exact ok01) (by decide) okA (fun q hq c hc => by
    rw [List.mem_singleton.mp hq] at hc
    revert c
    decide) m]
  congr 1
  refine List.map_congr_left fun i _ => ?_
  rw [cnt_one sgs_nd ok01.good (by decide) ok01.sub]
  exact congrArg (· * ofRun rAr (m - i)) (ite_any _ _)
theorem cnt_codes : (List.range 5).map (Rd.cnt sgs' rCode) = [0, 2, 6, 6, 6] := by
  rw [show Rd.cnt sgs' rCode = fun m => ((List.range (m + 1)).map fun i => ofRun r01r i * ofRun rAr (m - i)).sum from funext cnt_code]
  decide
end K0
end
/-! ### TR -/
section
set_option Elab.async false
set_option linter.all false
set_option maxRecDepth 100000
set_option maxHeartbeats 4000000
/-! t[::-1] of a tuple; tuple(text). -/
namespace TR
open PySem PySem.Spec PyProof.Rows L2 HT
section
variable {prog : Program} {w : World} {A : Around} {E : Value → Shared → Prop} {s : Shared}
theorem places_rev (n : Nat) : Builtin.Slice.slicePlaces ((n : Int) - 1) (-1) (-1) = n := by
  unfold Builtin.Slice.slicePlaces
  rw [if_neg (by decide)]
  by_cases h : (n : Int) - 1 > -1
  · rw [if_pos h]
    have e : ((n : Int) - 1 - -1 - 1) / (- -1) + 1 = (n : Int) := by
      rw [show (- -1 : Int) = 1 by decide, Int.ediv_one]
      omega
    rw [e, Int.toNat_natCast]
  · rw [if_neg h]
    show 0 = n
    omega
theorem applied_rev {sl : Addr} {t : Tok} {n : Nat} {Q : Int × Int × Nat → Shared → Prop} (hs : s.heap.IsSliceOf sl .none .none (.int (-1) t)) (h : Q ((n : Int) - 1, -1, n) s) : wpAny (model prog w) A (Builtin.Slice.sliceApplied (.ref sl) (pure (n : Int))) Q E s := by
  obtain ⟨os, hos, hcs, hds⟩ := id hs
  unfold Builtin.Slice.sliceApplied Builtin.Slice.sliceFields
  refine wpAny_bind (wpAny_bind (wpAny_field hos hds (x := .none) rfl (wpAny_bind (wpAny_field hos hds (x := .none) rfl (wpAny_bind (wpAny_field hos hds (x := .int (-1) t) rfl (wpAny_pure ?_)))))))
  refine wpAny_bind (slicePart_int ?_)
  show wpAny _ _ (if ((-1 : Int) == 0) = true then _ else _) _ _ s
  rw [if_neg (by decide)]
  refine wpAny_bind (slicePart_none (wpAny_bind (slicePart_none (wpAny_bind (wpAny_pure ?_)))))
  show wpAny _ _ (pure ((n : Int) - 1, (-1 : Int), Builtin.Slice.slicePlaces ((n : Int) - 1) (-1) (-1))) _ _ s
  rw [places_rev]
  exact wpAny_pure h
theorem fm_congr {α β : Type} {f g : α → Option β} : ∀ {l : List α}, (∀ x ∈ l, f x = g x) → l.filterMap f = l.filterMap g
  | [], _ => rfl
  | x :: l, h => by
    rw [List.filterMap_cons, List.filterMap_cons, h x List.mem_cons_self, fm_congr fun y hy => h y (List.mem_cons_of_mem _ hy)]
theorem pick_rev (xs : Array Value) : ((List.range xs.size).filterMap fun (m : Nat) => xs[(((xs.size : Int) - 1) + (m : Int) * (-1)).toNat]?).toArray = xs.toList.reverse.toArray := by
  have e : (List.range xs.size).filterMap (fun (m : Nat) => xs[(((xs.size : Int) - 1) + (m : Int) * (-1)).toNat]?) = ((List.range xs.size).map fun k => xs.size - 1 - k).filterMap (xs[·]?) := by
    rw [List.filterMap_map]
    refine fm_congr fun m hm => ?_
    have hm := List.mem_range.mp hm
    show xs[_]? = xs[xs.size - 1 - m]?
    rw [show (((xs.size : Int) - 1) + (m : Int) * (-1)).toNat = xs.size - 1 - m by omega]
  rw [e, PySem.W.krv_range, List.filterMap_reverse, PySem.W.krv_all]
theorem getItem_tuple_rev {t sl : Addr} {u : Tok} {items : Array Value} {Q : Value → Shared → Prop} (ht : IsTup s.heap t items) (hs : s.heap.IsSliceOf sl .none .none (.int (-1) u))
    (h : Q (.ref s.heap.objs.size) { s with heap := s.heap.push { cls := .type "tuple", data := .seq items.toList.reverse.toArray } }) (hsz : items.size ≤ sizeLine) : wpAny (model prog w) A (getItem (.ref t) (.ref sl)) Q E s := by
  have htake : sizeOk (.seq items.toList.reverse.toArray) := by
    show items.toList.reverse.toArray.size ≤ sizeLine
    rw [List.size_toArray, List.length_reverse, Array.length_toList]
    exact hsz
  obtain ⟨os, hos, hcs, hds⟩ := id hs
  have hTs : s.TypeIs (.ref sl) "slice" := ⟨os, hos, hcs⟩
  unfold getItem
  try with_reducible refine wpAny_holding ?_
  first | refine wpAny_bind (wpAny_pure ?_) | skip
  refine wpAny_bind (wpAny_sequenceKey ht.typeIs (by decide) ?_)
  refine wpAny_bind (wpAny_callSpecial?_slot (name := Str.ofString "__getitem__") ht.typeIs PyProof.Rows.slot_tuple_getitem
    (wpAny_call_entry PyProof.Rows.slot_tuple_getitem ht.typeIs entry_tuple_getitem ?_ (args_tuple_getitem _ _)))
  show wpAny _ _ (Builtin.Tuple.tupleItemsOf (.ref t) >>= _) _ _ s
  refine wpAny_bind (tupleItemsOf_ ht ?_)
  refine wpAny_bind (wpAny_typeOf hTs ?_)
  rw [if_pos (by decide)]
  refine wpAny_bind (applied_rev hs ?_)
  show wpAny _ _ (if ((((items.size : Int) - 1) == 0 && (-1 : Int) == 1 && items.size == items.size) = true) then _ else _) _ _ s
  rw [if_neg (by
    intro q
    rw [Bool.and_eq_true, Bool.and_eq_true] at q
    exact absurd q.1.2 (by decide)), pick_rev]
  first
    | exact wpAny_bind (m := Builtin.Tuple.tupleExact _) (wpAny_newObj_type (wpAny_pure ⟨_, rfl, wpAny_pure h⟩) htake)
    | exact wpAny_bind (m := Builtin.Tuple.tupleExact _) (wpAny_newObj_type (wpAny_bind (wpAny_pure (wpAny_pure ⟨_, rfl, wpAny_pure h⟩))) htake)
    | exact wpAny_bind (wpAny_bind (m := Builtin.Tuple.tupleExact _) (wpAny_newObj_type (wpAny_pure (wpAny_pure ⟨_, rfl, wpAny_pure h⟩)) htake))
    | exact wpAny_bind (wpAny_bind (m := Builtin.Tuple.tupleExact _) (wpAny_newObj_type (wpAny_pure ⟨_, rfl, wpAny_pure h⟩) htake))
end
def tRevT (K : PySem.W.Frag) (te : TE) : TE := fun σ H Q => te σ H fun x H1 => ∃ a xs, x = .ref a ∧ SqT K H1 a xs ∧ ∀ p, H1 p = none → Q (.ref p) (upd H1 p (.tup xs.reverse))
section
variable {X : Cx}
theorem pe_revT {e : Expr} {te : TE} {k : Nat} {p1 p2 p3 pos : Pos} (he : PE X e te) : PE X (.Subscript e (.Slice none none (some (.UnaryOp .USub (.Constant (.int 1) k p1) p2)) p3) pos) (tRevT X.K te) := by
  refine ⟨fun pins s σ H Q I h => ?_⟩
  refine Subscript_ (thn (he.run pins s σ H _ I h) fun v s1 ⟨x, H1, I1, r1, q1⟩ => ?_)
  obtain ⟨a, xs, ex, hx, q⟩ := q1
  subst ex
  cases r1
  have hst : PO X (some (.UnaryOp .USub (.Constant (.int 1) k p1) p2)) (tPart (tUn (rU fun i => .int (-i)) (tC (.int 1)))) := po_some (pe_un un_neg pe_int)
  refine wpAny_Slice (thn (po_none.run pins s1 σ H1 (fun o H2 => o = none ∧ H2 = H1) I1 ⟨rfl, rfl⟩) fun vl s2 ⟨l, H2, I2, pl, el, e2⟩ => ?_)
  subst el e2
  refine thn (po_none.run pins s2 σ H2 (fun o H3 => o = none ∧ H3 = H2) I2 ⟨rfl, rfl⟩) fun vu s3 ⟨u, H3, I3, pu, eu, e3⟩ => ?_
  subst eu e3
  refine thn (hst.run pins s3 σ H3 (fun o H4 => o = some (-1) ∧ H4 = H3) I3 ⟨1, rfl, -1, rfl, rfl, rfl⟩) fun vs s4 ⟨o, H4, I4, ps, eo, e4⟩ => ?_
  subst eo e4
  cases pl
  cases pu
  cases ps with
  | int i tt =>
  have I5 : Inv X pins σ H4 { s4 with heap := s4.heap.push { cls := .type "slice", data := .fields #[.none, .none, .int (-1) tt] } } := I4.kept (t' := s4.toks) fun b ob q => Heap.get?_push_of_some _ q
  obtain ⟨its, r, ht, hz⟩ := I5.tuple hx
  have hlen := r.length
  show wpAny (model X.prog X.w) X.A (subscriptTail e (.Slice none none (some (.UnaryOp .USub (.Constant (.int 1) k p1) p2)) p3) (.ref a) (.ref s4.heap.objs.size)) (EP X pins σ Q) X.xe { s4 with heap := s4.heap.push { cls := .type "slice", data := .fields #[.none, .none, .int (-1) tt] } }
  refine tail_any (ops := [.ref a, .ref s4.heap.objs.size]) ht.typeIs (PyProof.Rows.slot_tuple_getitem.lookup) ?_ (by with_unfolding_all rfl)
  refine getItem_tuple_rev ht (Heap.IsSliceOf.new _ .none .none (.int (-1) tt)) ?_ (by rw [List.size_toArray]; omega)
  refine ⟨.ref _, _, I5.laid (t' := s4.toks) (o := .tup xs.reverse) (fun b ob q => Heap.get?_push_of_some _ q) (Nat.le_refl _) ?_, rfl, q _ (I5.hok.fresh (Nat.le_refl _))⟩
  exact ⟨by rw [List.length_reverse]; exact hz, its.reverse, r.reverse, _, Heap.get?_push_size _ rfl, rfl, 0, by simp⟩
end
end TR
end
/-! ### LR3 -/
section
set_option Elab.async false
set_option linter.all false
set_option maxRecDepth 100000
set_option maxHeartbeats 4000000
/-! _law_run and _law_hole: the drawn signs are of those handed in. -/
namespace K0
open PySem PySem.Spec PyProof.Rows L2 Rd
def FromL (cs : List Nat) (d : PyData) : Prop := ∃ es l e, d = runData es l e ∧ ∀ c ∈ es, c ∈ cs
theorem FromL.signs {cs : List Nat} {d : PyData} (h : FromL cs d) : ∀ c ∈ (runD d).signs, c ∈ cs := by
  obtain ⟨es, l, e, rfl, m⟩ := h
  have : (runD (runData es l e)).signs = es := by
    show (es.map fun c => PyData.str (oneS c)).map sgD = es
    rw [List.map_map, show ((sgD ∘ fun c => PyData.str (oneS c)) : Nat → Nat) = id from rfl, List.map_id]
  rw [this]
  exact m
def spLRun4 (K : PySem.W.Frag) : Sp := fun vs H Q _ => ∃ (p : Addr) (a b c : Int) (t : Addr) (cs : List Nat), vs = [.ref p, .ref t] ∧ H p = some (dk a b c) ∧ SqT K (hid p H) t (cs.map oneV) ∧ cs ≠ [] ∧ cs.length ≤ 15 ∧ cs.Nodup ∧ (∀ c ∈ cs, c ∈ sgs') ∧
  ∀ H' v d, Keep p H H' → Dv K (hid p H') v d → isRunD d = true → FromL cs d → Q v H'
section
variable {P : Program} {w : World} {K : PySem.W.Frag} {mg : Str → Option Value} {base : Heap} {f fR fM fO : Addr} {fd fdR fdM fdO : FuncData}
theorem ok_lrun4 {k : Nat} (F : FnP K "_law_run" iLRun f fd) (mlist : mg "list" = none) (mtuple : mg "tuple" = none) (msorted : mg "sorted" = none) (mlen : mg "len" = none)
    (FR : FnOk P w K mg base CX0 (k + 2) fR fdR ["dice", "total"] spRoll) (gR : mg "_law_roll" = some (.ref fR)) (kR : PySem.W.keepIn K (.ref fR) = true) (bR : Binds K fdR ["dice", "total"] [])
    (FM : FnOk P w K mg base CX0 (k + 2) fM fdM ["dice", "items"] (spMixed K)) (gM : mg "_law_mixed" = some (.ref fM)) (kM : PySem.W.keepIn K (.ref fM) = true) (bM : Binds K fdM ["dice", "items"] [])
    (FO : FnOk P w K mg base CX0 (k + 2) fO fdO ["dice", "items"] (spOne K)) (gO : mg "_law_one_of" = some (.ref fO)) (kO : PySem.W.keepIn K (.ref fO) = true) (bO : Binds K fdO ["dice", "items"] []) :
    FnOk P w K mg base CX0 (k + 3) f fd ["dice", "signs"] (spLRun4 K) := by
  refine F.ok scLRun (fun vs H Q E h => ?_) (fun cdv A outer s H vs Q E hr h => ?_)
  · obtain ⟨p, a, b, c, t, cs, rfl, _⟩ := h
    rfl
  · obtain ⟨p, a, b, c, t, cs, rfl, hp, hT, cne, cl, cnd, cmem, q⟩ := h
    refine ⟨_, PSs.nox (C8.pss_cut (ps_set (i := 2) scLRun.nd rfl (.inl rfl) (pe_slice sl_list (pe_call FM hr (by rfl) gM kM bM .nil pass0 (pa_cons (pv 0) (pa_cons (pe_callTy call_list_of (by rfl) mlist (by decide +kernel) (pa_cons (pv 1) pa_nil)) pa_nil))) po_none
          (po_some (pe_op op_add pe_int (pe_call FR hr (by rfl) gR kR bR .nil pass0 (pa_cons (pv 0) (pa_cons (pe_callB call_len_seq (by rfl) mlen PySem.boot_len (pa_cons (pv 1) pa_nil)) pa_nil)))))))
      (C8.pss_cut (ps_set (i := 3) scLRun.nd rfl (.inl rfl) (pe_lst (pa_cons (pe_tup (pa_cons pe_int (pa_cons pe_non pa_nil))) (pa_cons (pe_tup (pa_cons pe_int (pa_cons pe_non pa_nil))) (pa_cons (pe_tup (pa_cons pe_int (pa_cons pe_int pa_nil))) (pa_cons (pe_tup (pa_cons pe_int (pa_cons pe_int pa_nil))) (pa_cons (pe_tup (pa_cons pe_int (pa_cons pe_int pa_nil)))
          (pa_cons (pe_tup (pa_cons pe_int (pa_cons pe_non pa_nil))) (pa_cons (pe_tup (pa_cons pe_int (pa_cons pe_int pa_nil))) (pa_cons (pe_tup (pa_cons pe_int (pa_cons pe_int pa_nil))) (pa_cons (pe_tup (pa_cons pe_int (pa_cons pe_non pa_nil))) pa_nil)))))))))))
      (pss_cons (ps_asg (pe_call FO hr (by rfl) gO kO bO .nil pass0 (pa_cons (pv 0) (pa_cons (pv 3) pa_nil))) (pg_tup rfl (pgs_cons (pg_name (i := 4) scLRun.nd rfl (.inl rfl)) (pgs_cons (pg_name (i := 5) scLRun.nd rfl (.inl rfl)) pgs_nil))))
      (pss_one (ps_ret (pe_tup (pa_cons (pe_callTy call_tuple_of (by rfl) mtuple (by decide +kernel) (pa_cons (pe_callB cr_sortedS (by rfl) msorted (by decide +kernel) (pa_cons (pv 2) pa_nil)) pa_nil)) (pa_cons (pv 4) (pa_cons (pv 5) pa_nil))))))))), ?_⟩
    have sl : sizeLine = 16777216 := sizeLine_eq
    refine ⟨fun σ' H' => ∃ (l : Addr) (ds : List Nat), σ' = [some (.ref p), some (.ref t), some (.ref l), none, none, none] ∧ Keep p H H' ∧ H' l = some (.lst (ds.map oneV)) ∧ ds ≠ [] ∧ ds.length ≤ 15 ∧ ds.Nodup ∧ (∀ c ∈ ds, c ∈ cs), ?_, ?_⟩
    · refine ⟨_, rfl, _, rfl, t, _, rfl, .inr (sq_hid hT), fun l nl => ?_⟩
      have kl : Keep p H (upd H l (.lst (cs.map oneV))) := .new hp nl
      obtain ⟨a1, b1, c1, hp1⟩ := kl.2
      refine ⟨p, a1, b1, c1, l, _, rfl, hp1, .of upd_same, by rw [List.length_map]; omega, fun H2 l2 ys k2 pm e2 ne => ?_⟩
      obtain ⟨ms, pc, rfl⟩ := perm_codes (f := oneV) (g := codeV) (fun c => rfl) (l := cs) pm
      have ml := pc.length_eq
      obtain ⟨a2, b2, c2, hp2⟩ := k2.2
      have kk := kl.trans k2
      have c0 : 0 < cs.length := List.length_pos_iff.mpr cne
      refine ⟨_, rfl, _, rfl, t, _, rfl, .inr (sq_hid (sq_keep hT kk)), p, a2, b2, c2, _, rfl, hp2, wide_div (b := 4) (by rw [List.length_map]; omega) (by rw [List.length_map]; omega) (by decide) (by decide), fun a' b' c' r r0 r1 => ⟨_, _, rfl, rfl, _, rfl, l2, _, rfl, .of (by rw [upd_ne ne]; exact e2), fun l3 n3 => ?_⟩⟩
      have kn : ∀ n : Nat, HT.sIx n n (some (1 + r)) = min (1 + r).toNat n := fun n => by
        show (if (1 + r) < 0 then ((1 + r) + (n : Int)).toNat else min (1 + r).toNat n) = min (1 + r).toNat n
        rw [if_neg (by omega)]
      refine ⟨l3, ms.take (min (1 + r).toNat ms.length), rfl, (kk.trans (.dice a' b' c')).new2 n3, ?_, fun e => ?_, ?_, ?_, fun c hc => pc.mem_iff.mp (List.mem_of_mem_take hc)⟩
      · rw [upd_same, cutV_take, kn, List.length_map, ← List.map_take]
      · have z := congrArg List.length e
        rw [List.length_take, List.length_nil] at z
        omega
      · rw [List.length_take]; omega
      · exact (pc.nodup_iff.mpr cnd).sublist (List.take_sublist _ _)
    rintro σ1 H1 ⟨l, ds, rfl, k1, e1, dne, dl, dnd, dmem⟩
    obtain ⟨a1, b1, c1, hp1⟩ := k1.2
    have D1 : Dice p H1 := ⟨a1, b1, c1, hp1⟩
    refine ⟨fun σ' H' => ∃ lb xs, σ' = [some (.ref p), some (.ref t), some (.ref l), some (.ref lb), none, none] ∧ Same H1 H' ∧ H' lb = some (.lst xs) ∧ lb ≠ p ∧ DvAll K (hid p H') xs bnds, ?_, ?_⟩
    · refine rd_lst (ds := bnds) (p := p) (K := K) (ev_cons (ev_tup (ev_cons ev_int (ev_cons ev_non ev_nil)) (by decide)) (ev_cons (ev_tup (ev_cons ev_int (ev_cons ev_non ev_nil)) (by decide)) (ev_cons (ev_tup (ev_cons ev_int (ev_cons ev_int ev_nil)) (by decide)) (ev_cons (ev_tup (ev_cons ev_int (ev_cons ev_int ev_nil)) (by decide)) (ev_cons (ev_tup (ev_cons ev_int (ev_cons ev_int ev_nil)) (by decide))
        (ev_cons (ev_tup (ev_cons ev_int (ev_cons ev_non ev_nil)) (by decide)) (ev_cons (ev_tup (ev_cons ev_int (ev_cons ev_int ev_nil)) (by decide)) (ev_cons (ev_tup (ev_cons ev_int (ev_cons ev_int ev_nil)) (by decide)) (ev_cons (ev_tup (ev_cons ev_int (ev_cons ev_non ev_nil)) (by decide)) ev_nil))))))))) D1 (by decide) fun xs H2 lb s2 v2 n2 => ?_
      exact ⟨lb, xs, rfl, s2.trans (same_upd n2), upd_same, (D1.same s2).ne n2, v2.same (hid_same fun b o _ z => same_upd n2 b o z)⟩
    rintro σ2 H2 ⟨lb, xs, rfl, s2, e2, lbp, v2⟩
    have k2 : Keep p H1 H2 := ⟨fun b o _ z => s2 b o z, a1, b1, c1, s2 _ _ hp1⟩
    have hp2 := s2 _ _ hp1
    have xl := v2.length
    refine ⟨_, rfl, _, rfl, p, a1, b1, c1, _, xs, rfl, hp2, .inl ⟨lb, rfl, .inl (.of e2)⟩, (fun e => by rw [e] at xl; cases xl), (by rw [xl, sl]; decide), fun a' b' c' => .inl ⟨lb, rfl, .inl (.of (by rw [upd_ne lbp]; exact e2))⟩, fun a' b' c' i x hx => ?_⟩
    obtain ⟨d, hd, vd⟩ := v2.get hx
    have bd := List.all_eq_true.mp bnds_ok d (List.mem_of_getElem? hd)
    obtain ⟨lo, hi, rfl, hlo, hhi⟩ := bnd_parts bd
    have vd3 : Dv K (hid p (upd H2 p (dk a' b' c'))) x (.tuple [lo, hi]) := vd.same' (hid_same (Keep.dice a' b' c').1)
    cases vd3 with
    | tup hTb hAb =>
      cases hAb with
      | cons w1 hAb =>
      cases hAb with
      | cons w2 hAb =>
      cases hAb
      rename_i vlo vhi
      refine ⟨_, _, rfl, sq_hid hTb, rfl, vlo, _, rfl, vhi, _, rfl, rfl, ?_⟩
      have e3 : upd H2 p (dk a' b' c') l = some (.lst (ds.map oneV)) := by
        rw [upd_ne (fun q => by
          obtain ⟨a0, b0, c0, z⟩ := k1.2
          have e1' := e1
          rw [q, z] at e1'
          injection e1' with e1'
          injection e1' with e1'
          cases ds with
          | nil => exact dne rfl
          | cons x ds => cases e1')]
        exact s2 _ _ e1
      refine ⟨_, rfl, l, ds.map oneS, rfl, .of (by rw [e3, ones_map]), by rw [List.length_map]; omega, fun ys l4 pm so n4 => ?_⟩
      obtain ⟨es, pe, rfl⟩ := perm_codes (f := oneS) (g := codeS) (fun c => rfl) pm
      have esl := pe.length_eq
      have asc := sorted_pw so (pe.nodup_iff.mpr dnd)
      refine ⟨l4, _, rfl, .inl ⟨.of upd_same, fun t1 n5 => ⟨_, rfl, _, rfl, by show 3 ≤ sizeLine; omega, fun t2 n6 => ?_⟩⟩⟩
      have kA : Keep p H (upd H2 p (dk a' b' c')) := (k1.trans k2).trans (.dice a' b' c')
      have kB := ((kA.new2 n4 (o := .lst ((es.map oneS).map V.str))).new2 n5 (o := .tup ((es.map oneS).map V.str))).new2 n6 (o := .tup [.ref t1, vlo, vhi])
      obtain ⟨aA, bA, cA, hpA⟩ := kA.2
      have n1p : t1 ≠ p := by
        obtain ⟨aB, bB, cB, hpB⟩ := (kA.new2 n4 (o := .lst ((es.map oneS).map V.str))).2
        exact (ne_of_none hpB n5).symm
      have n2p : t2 ≠ p := by
        obtain ⟨aB, bB, cB, hpB⟩ := ((kA.new2 n4 (o := .lst ((es.map oneS).map V.str))).new2 n5 (o := .tup ((es.map oneS).map V.str))).2
        exact (ne_of_none hpB n6).symm
      have kC : Same (hid p (upd H2 p (dk a' b' c'))) (hid p (upd (upd (upd (upd H2 p (dk a' b' c')) l4 (.lst ((es.map oneS).map V.str))) t1 (.tup ((es.map oneS).map V.str))) t2 (.tup [.ref t1, vlo, vhi]))) := hid_same fun b o _ z => same_upd n6 _ _ (same_upd n5 _ _ (same_upd n4 _ _ z))
      refine q _ (.ref t2) (runData es lo hi) kB (.tup (.of (by rw [hid_ne n2p, upd_same])) (.cons (.tup (.of (by rw [hid_ne n1p, same_upd n6 _ _ upd_same])) (by rw [← ones_map]; exact dv_ones es)) (.cons (w1.same' kC) (.cons (w2.same' kC) .nil)))) (runData_ok (fun c hc => cmem c (dmem c (pe.mem_iff.mp hc))) asc (fun e => ?_) hlo hhi) ⟨es, lo, hi, rfl, fun c hc => dmem c (pe.mem_iff.mp hc)⟩
      rw [e] at esl
      cases ds with
      | nil => exact dne rfl
      | cons _ _ => cases esl
end
def spLHole4 (K : PySem.W.Frag) : Sp := fun vs H Q _ => ∃ (p : Addr) (a b c : Int) (t : Addr) (cs : List Nat), vs = [.ref p, .ref t] ∧ H p = some (dk a b c) ∧ SqT K (hid p H) t (cs.map oneV) ∧ cs ≠ [] ∧ cs.length ≤ 15 ∧ cs.Nodup ∧ (∀ c ∈ cs, c ∈ sgs') ∧
  ∀ H' x vs ds, Keep p H H' → H' x = some (.tup vs) → x ≠ p → DvAll K (hid p H') vs ds → holeD ds = true → (∀ d ∈ ds, FromL cs d) → Q (.ref x) H'
section
variable {P : Program} {w : World} {K : PySem.W.Frag} {mg : Str → Option Value} {base : Heap} {f fR fO : Addr} {fd fdR fdO : FuncData}
theorem ok_lhole4 {k : Nat} (F : FnP K "_law_hole" iLHole f fd) (mtuple : mg "tuple" = none) (mrange : mg "range" = none)
    (FR : FnOk P w K mg base CX0 (k + 3) fR fdR ["dice", "signs"] (spLRun4 K)) (gR : mg "_law_run" = some (.ref fR)) (kR : PySem.W.keepIn K (.ref fR) = true) (bR : Binds K fdR ["dice", "signs"] [])
    (FO : FnOk P w K mg base CX0 (k + 3) fO fdO ["dice", "items"] (spOne K)) (gO : mg "_law_one_of" = some (.ref fO)) (kO : PySem.W.keepIn K (.ref fO) = true) (bO : Binds K fdO ["dice", "items"] []) :
    FnOk P w K mg base CX0 (k + 4) f fd ["dice", "signs"] (spLHole4 K) := by
  refine F.ok scLHole (fun vs H Q E h => ?_) (fun cdv A outer s H vs Q E hr h => ?_)
  · obtain ⟨p, a, b, c, t, cs, rfl, _⟩ := h
    rfl
  · obtain ⟨p, a, b, c, t, cs, rfl, hp, hT, cne, cl, cnd, cmem, q⟩ := h
    refine ⟨_, PSs.nox (pss_one (ps_ret (pe_callTy call_tuple_of (by rfl) mtuple (by decide +kernel) (pa_cons (pe_lc (own := [("turn", 2)]) (g := gName 2) (tt := tYes) (te := tCall (spLRun4 K) [] E0 (tCons (tVar 0) (tCons (tVar 1) tNil))) rfl scLHole.nd
        (pi_range1 (by rfl) mrange (pa_cons (pe_call FO hr (by rfl) gO kO bO .nil pass0 (pa_cons (pv 0) (pa_cons (pe_lst (pa_cons pe_int (pa_cons pe_int (pa_cons pe_int (pa_cons pe_int (pa_cons pe_int (pa_cons pe_int (pa_cons pe_int pa_nil)))))))) pa_nil))) pa_nil)) (blkOk_by (N := ["dice", "signs", "turn"]) (sc := defScope (top iLHole)) (by decide +kernel))
        (fun _ _ _ _ _ => pg_name (i := 2) scLHole.nd rfl (Or.inl rfl)) (fun _ _ _ _ _ => pts_nil) (fun _ _ _ _ _ => pe_call FR hr (by rfl) gR kR bR .nil pass0 (pa_cons (pv 0) (pa_cons (pv 1) pa_nil)))) pa_nil)))), ?_⟩
    have sl : sizeLine = 16777216 := sizeLine_eq
    have D0 : Dice p H := ⟨a, b, c, hp⟩
    refine ⟨_, rfl, rd_lst (ds := ns7) (p := p) (K := K) (ev_cons ev_int (ev_cons ev_int (ev_cons ev_int (ev_cons ev_int (ev_cons ev_int (ev_cons ev_int (ev_cons ev_int ev_nil))))))) D0 (by decide) fun xs H1 l1 s1 v1 n1 => ?_⟩
    have xl := v1.length
    have hp1 := s1 _ _ hp
    have lp : l1 ≠ p := (D0.same s1).ne n1
    refine ⟨p, a, b, c, _, xs, rfl, by rw [upd_ne lp.symm]; exact hp1, .inl ⟨l1, rfl, .inl (.of upd_same)⟩, (fun e => by rw [e] at xl; cases xl), (by rw [xl, sl]; decide), fun a' b' c' => .inl ⟨l1, rfl, .inl (.of (by rw [upd_ne lp, upd_same]))⟩, fun a' b' c' i x hx => ?_⟩
    obtain ⟨d, hd, vd⟩ := v1.get hx
    obtain ⟨n, rfl, n1', n4⟩ := ns7_at (List.mem_of_getElem? hd)
    cases vd
    have k1 : Keep p H (upd (upd H1 l1 (.lst xs)) p (dk a' b' c')) := ⟨fun b o nb z => by rw [upd_ne nb]; exact same_upd n1 _ _ (s1 _ _ z), a', b', c', upd_same⟩
    refine ⟨_, rfl, by omega, by omega, fun D nD => ?_⟩
    have hpK := k1.2
    have Dp : D ≠ p := by
      obtain ⟨a0, b0, c0, z⟩ := hpK
      exact (ne_of_none z nD).symm
    have nH : H D = none := by
      cases z : H D with
      | none => rfl
      | some o =>
        have z2 := k1.1 D o Dp z
        rw [nD] at z2
        cases z2
    refine lc_range (lo := 0) (n := n) (fun m H' => Keep p H H' ∧ ∃ vs ds, H' D = some (.lst vs) ∧ vs.length = m ∧ DvAll K (hid p H') vs ds ∧ ds.all isRunD = true ∧ ∀ d ∈ ds, FromL cs d) ⟨k1.new2 nD, [], [], upd_same, rfl, .nil, rfl, fun d h => absurd h List.not_mem_nil⟩ (fun m H' hm hP => ?_) (fun H' hP => ?_)
    · obtain ⟨k2, vs, ds, e2, l2, v2, r2, f2⟩ := hP
      obtain ⟨a2, b2, c2, hp2⟩ := k2.2
      refine ⟨rfl, _, rfl, _, rfl, p, a2, b2, c2, t, cs, rfl, hp2, sq_keep hT k2, cne, cl, cnd, cmem, fun H3 v d k3 vd rd fd' => ?_⟩
      have e3 : H3 D = some (.lst vs) := k3.1 D _ Dp e2
      have e3h : hid p H3 D = some (.lst vs) := by rw [hid_ne Dp]; exact e3
      refine ⟨vs, e3, by omega, ⟨fun y o ny z => ?_, ?_⟩, vs ++ [v], ds ++ [d], upd_same, by rw [List.length_append, l2]; rfl, ?_, ?_, fun x hx => ?_⟩
      · rw [upd_ne (ne_of_none z nH)]
        exact k3.1 y o ny (k2.1 y o ny z)
      · obtain ⟨a3, b3, c3, hp3⟩ := k3.2
        exact ⟨a3, b3, c3, by rw [upd_ne Dp.symm]; exact hp3⟩
      · rw [hid_upd Dp]
        refine DvAll.append (dv_runs (fun a xs z => sqT_lst e3h z) (DvAll.same (hid_same k3.1) ds _ v2) r2) (.cons (dv_runH vd rd fun a xs z => sqT_lst e3h z) .nil)
      · rw [List.all_append, r2]
        show (isRunD d && true) = true
        rw [rd]
        rfl
      · rcases List.mem_append.mp hx with hx | hx
        · exact f2 x hx
        · rw [List.mem_singleton.mp hx]
          exact fd'
    · obtain ⟨k2, vs, ds, e2, l2, v2, r2, f2⟩ := hP
      refine ⟨D, vs, rfl, .inl ⟨.of e2, fun x nx => ?_⟩⟩
      have xp : x ≠ p := by
        obtain ⟨a0, b0, c0, z⟩ := k2.2
        exact (ne_of_none z nx).symm
      have dl := v2.length
      refine q _ x vs ds (k2.new2 nx) upd_same xp (DvAll.same (hid_same fun b o _ z => same_upd nx b o z) ds _ v2) ?_ f2
      unfold holeD
      rw [r2, decide_eq_true (by omega), decide_eq_true (by omega)]
      rfl
end
end K0
end
/-! ### NT -/
section
set_option Elab.async false
set_option linter.all false
set_option maxRecDepth 100000
set_option maxHeartbeats 4000000
/-! What never changes (tuples, instances, tables keyed by texts): it outlives the dice's moves and the tables of code. -/
namespace K0
open PySem PySem.Spec PyProof.Rows L2 Rd LamX
def fzO : HO → Option HO
  | .tup xs => some (.tup xs)
  | .ins c d f => some (.ins c d f)
  | .dK k => some (.dK k)
  | .frz o u => some (.frz o u)
  | _ => none
def fz (H : Hp) : Hp := fun b => (H b).bind fzO
theorem fz_of {H : Hp} {b : Addr} {o : HO} (e : H b = some o) : fz H b = fzO o := by
  unfold fz
  rw [e]
  rfl
theorem fz_out {H : Hp} {b : Addr} {o : HO} (h : fz H b = some o) : H b = some o ∧ (∀ xs, o ≠ .lst xs) ∧ ∀ ps, o ≠ .tbl ps := by
  rcases e : H b with _ | u
  · unfold fz at h; rw [e] at h; cases h
  · rw [fz_of e] at h
    cases u with
    | tup xs => cases h; exact ⟨rfl, (fun _ z => by cases z), (fun _ z => by cases z)⟩
    | ins c d f => cases h; exact ⟨rfl, (fun _ z => by cases z), (fun _ z => by cases z)⟩
    | dK k => cases h; exact ⟨rfl, (fun _ z => by cases z), (fun _ z => by cases z)⟩
    | frz ob u => cases h; exact ⟨rfl, (fun _ z => by cases z), (fun _ z => by cases z)⟩
    | _ => cases h
theorem fz_same {H : Hp} : Same (fz H) H := fun b o h => (fz_out h).1
theorem fz_keep {p : Addr} {H H' : Hp} (d : Dice p H) (k : Keep p H H') : Same (fz H) H' := fun b o h => by
  obtain ⟨e, nl, _⟩ := fz_out h
  obtain ⟨i, j, l, z⟩ := d
  exact k.1 b o (fun q => by rw [q, z] at e; exact nl _ (Option.some.inj e).symm) e
theorem fz_ext {H H' : Hp} (k : ExtN H H') : Same (fz H) H' := fun b o h => k b o (fz_out h).1 (fz_out h).2.2
theorem fz_hid {p : Addr} {H : Hp} (d : Dice p H) : Same (fz H) (hid p H) := fun b o h => by
  obtain ⟨e, nl, _⟩ := fz_out h
  obtain ⟨i, j, l, z⟩ := d
  rw [hid_ne (fun q => by rw [q, z] at e; exact nl _ (Option.some.inj e).symm)]
  exact e
theorem sqT_fz {K : PySem.W.Frag} {H : Hp} {a : Addr} {xs : List V} (h : SqT K H a xs) : SqT K (fz H) a xs := by
  rcases h with (h | ⟨o, h⟩) | h
  · exact .inl (.inl (fz_of h))
  · exact .inl (.inr ⟨o, fz_of h⟩)
  · exact .inr h
theorem FrT.fz {H : Hp} {t : Addr} {xs : List V} (h : FrT H t xs) : FrT (K0.fz H) t xs := let ⟨o, e, z⟩ := h; ⟨o, fz_of e, z⟩
theorem runs_fz {K : PySem.W.Frag} {H : Hp} {vs : List V} {ds : List PyData} (h : DvAll K H vs ds) (r : ds.all isRunD = true) : DvAll K (fz H) vs ds := dv_runs (fun _ _ z => sqT_fz z) h r
theorem ReaderAt.fz {H : Hp} {t : Addr} {rs : List RunD} (h : ReaderAt H t rs) : ReaderAt (K0.fz H) t rs := by
  obtain ⟨tw, tm, sts, ra, h1, h2, h3, h4, h5⟩ := h
  exact ⟨tw, tm, sts, ra, fz_of h1, fz_of h2, fz_of h3, pairedI h4 fun _ _ z => fz_of z, h5⟩
theorem HoleAt.fz {K : PySem.W.Frag} {CH x : Addr} {H : Hp} {ds : List PyData} (h : HoleAt K CH H x ds) : HoleAt K CH (K0.fz H) x ds := by
  obtain ⟨dx, p, t, xs, h1, h2, h3, h4, h5⟩ := h
  exact ⟨dx, p, t, xs, fz_of h1, sqT_fz h2, runs_fz h3 (hole_runs h5), h4.fz, h5⟩
theorem HoleAt.bulk {K : PySem.W.Frag} {CH x : Addr} {H : Hp} {ds : List PyData} (h : HoleAt K CH H x ds) : holeD ds = true := by
  obtain ⟨_, _, _, _, _, _, _, _, h5⟩ := h
  exact h5
theorem hole_len {ds : List PyData} (h : holeD ds = true) : 1 ≤ ds.length ∧ ds.length ≤ 4 := by
  unfold holeD at h
  rw [Bool.and_eq_true, Bool.and_eq_true] at h
  have h1 := of_decide_eq_true h.1.1
  have h2 := of_decide_eq_true h.1.2
  omega
theorem hole_bulk {ds : List PyData} (h : holeD ds = true) : PyData.bulkAll ds ≤ 100000 := by
  obtain ⟨h1, h2⟩ := runs_data (hole_runs h)
  have := bulk_runs h1
  rw [h2, List.length_map] at this
  have := hole_len h
  omega
theorem tabs_keepQ {q : Str} {p P : Addr} {H H' : Hp} (d : Dice p H) (k : Keep p H H') (t : Tabs [(P, q)] H) : Tabs [(P, q)] H' := fun x hx => by
  obtain ⟨a, b, c, e⟩ := d
  obtain ⟨ps, h1, h2, h3⟩ := t x hx
  refine ⟨ps, k.1 _ _ (fun z => ?_) h1, h2, fun pos cv hc => ?_⟩
  · rw [z, e] at h1
    cases h1
  · obtain ⟨cc, e1, e2⟩ := h3 pos cv hc
    refine ⟨cc, e1, k.1 _ _ (fun z => ?_) e2⟩
    rw [z, e] at e2
    have y := Option.some.inj e2
    unfold CodeO dk at y
    cases y
end K0
end
/-! ### RS -/
section
set_option Elab.async false
set_option linter.all false
set_option maxRecDepth 100000
set_option maxHeartbeats 4000000
/-! _law_right: what stands. -/
namespace K0
open PySem PySem.Spec PyProof.Rows L2 Rd LamX
/-- all but the dice and the tables is as it was -/
def KN (p : Addr) (H H' : Hp) : Prop := ∀ b o, b ≠ p → (∀ ps, o ≠ .tbl ps) → H b = some o → H' b = some o
structure RSt (K : PySem.W.Frag) (CH PT : Addr) (H0 : Hp) (p t r x : Addr) (cs : List Nat) (vs : List V) (ds : List PyData) (H : Hp) : Prop where
  dice : Dice p H
  sT : FrT H t (cs.map oneV)
  rT : SqT K H r vs
  dv : DvAll K H vs ds
  ho : HoleAt K CH H x ds
  tab : Tabs [(PT, fillQ)] H
  kn : KN p H0 H
section
variable {K : PySem.W.Frag} {CH PT p t r x : Addr} {cs : List Nat} {vs : List V} {ds : List PyData} {H0 H H' : Hp}
theorem keep_same (d : Dice p H) (s : Same H H') : Keep p H H' := by
  obtain ⟨a, b, c, e⟩ := d
  exact ⟨fun b o _ z => s b o z, a, b, c, s _ _ e⟩
theorem RSt.via (h : RSt K CH PT H0 p t r x cs vs ds H) (s : Same (fz H) H') (d : Dice p H') (tb : Tabs [(PT, fillQ)] H') (kn : KN p H H') : RSt K CH PT H0 p t r x cs vs ds H' :=
  ⟨d, h.sT.fz.same s, same_tup s (sqT_fz h.rT), DvAll.same s _ _ (runs_fz h.dv (hole_runs h.ho.bulk)), h.ho.fz.same s, tb, fun b o n z e => kn b o n z (h.kn b o n z e)⟩
theorem RSt.keep (h : RSt K CH PT H0 p t r x cs vs ds H) (k : Keep p H H') : RSt K CH PT H0 p t r x cs vs ds H' :=
  h.via (fz_keep h.dice k) k.2 (tabs_keepQ h.dice k h.tab) fun b o n _ e => k.1 b o n e
theorem RSt.same (h : RSt K CH PT H0 p t r x cs vs ds H) (s : Same H H') : RSt K CH PT H0 p t r x cs vs ds H' := h.keep (keep_same h.dice s)
theorem RSt.ext (h : RSt K CH PT H0 p t r x cs vs ds H) (k : ExtN H H') (tb : Tabs [(PT, fillQ)] H') : RSt K CH PT H0 p t r x cs vs ds H' := by
  refine h.via (fz_ext k) ?_ tb fun b o _ z e => k b o e z
  obtain ⟨a, b, c, e⟩ := h.dice
  exact ⟨a, b, c, k _ _ e fun _ z => by cases z⟩
theorem HoleAt.keep {y : Addr} {es : List PyData} (h : HoleAt K CH H y es) (d : Dice p H) (k : Keep p H H') : HoleAt K CH H' y es := h.fz.same (fz_keep d k)
end
end K0
end
/-! ### RS2 -/
section
set_option Elab.async false
set_option linter.all false
set_option maxRecDepth 100000
set_option maxHeartbeats 4000000
/-! _law_right: readings. -/
namespace K0
open PySem PySem.Spec PyProof.Rows L2 Rd LamX
section
variable {K : PySem.W.Frag} {CH CN : Addr} {ds : List PyData} {H H' : Hp}
theorem rd_count {E : XK} {i j m : Nat} {x : Addr} {σ : L2.St} {Q : VK} (hx : HoleAt K CH H x ds) (m2 : m ≤ 200) (ei : σ[i]? = some (some (.ref x))) (ej : σ[j]? = some (some (.int (m : Nat)))) (q : ∀ H', Same H H' → Q (.int (Rd.cnt sgs (runsD ds) m : Nat)) H') :
    tMeth CH "count" (spHCount K CH CN) [] E (tVar i) (tCons (tVar j) tNil) σ H Q := by
  obtain ⟨dx, p, t, xs, h1, h2⟩ := id hx
  refine ⟨_, ei, x, dx, _, rfl, h1, rfl, _, ej, x, _, ds, .int (m : Nat), rfl, hx, .int _, fun _ H' s => ?_, fun z => ?_⟩
  · have e : numD (.int ((m : Nat) : Int)) = m := Int.toNat_natCast m
    rw [e]
    exact q H' s
  · have e : isNumD 0 200 (.int ((m : Nat) : Int)) = true := by
      show (decide ((0 : Int) ≤ ((m : Nat) : Int)) && decide (((m : Nat) : Int) ≤ 200)) = true
      rw [Bool.and_eq_true, decide_eq_true_iff, decide_eq_true_iff]
      omega
    rw [e] at z
    cases z
theorem found_few121 {rs : List RunD} {ys : List Str} {cs : List Nat} (f : Found 4 rs ys) (nd : cs.Nodup) (c3 : cs.length ≤ 3) (sub : ∀ r ∈ rs, ∀ c ∈ r.signs, c ∈ cs) : ys.length ≤ 121 :=
  Nat.le_trans (nodup_len f.nd (m := textsTo cs 4) fun z hz => by
    obtain ⟨h1, h2⟩ := (f.mem z).mp hz
    exact mem_texts.mpr ⟨h2, fun c hc => by
      obtain ⟨r, hr, q⟩ := fil_signs h1 c hc
      exact sub r hr c q⟩) (texts121 c3)
theorem dec_len {z : Str} {m : Nat} : decide (V.int ((z.length : Nat) : Int) = V.int (0 + (m : Int))) = decide ((cd z).length = m) := by
  rw [cd_len, Int.zero_add]
  exact decide_eq_decide.mpr ⟨fun h => Int.ofNat.inj (V.int.inj h), fun h => by rw [h]⟩
theorem dvAll_rev : ∀ {es : List PyData} {us : List V}, DvAll K H us es → DvAll K H us.reverse es.reverse
  | [], _, h => by cases h; exact .nil
  | d :: es, _, h => by
    cases h with
    | cons h1 h2 =>
      rw [List.reverse_cons, List.reverse_cons]
      exact DvAll.append (dvAll_rev h2) (.cons h1 .nil)
/-- [text for text in some if test]: text in place 16 of 19 -/
theorem rd_filt {l : Addr} {ys : List Str} {a0 a1 a2 a3 a5 a6 a7 a8 a9 a10 a11 a12 a13 a14 a15 : Option V} {tt : TT} {Q : VK} (f : Str → Bool) (el : H l = some (.lst (ys.map V.str))) (few : ys.length ≤ 121)
    (ht : ∀ z ∈ ys, ∀ (H' : Hp) (R : Bool → Hp → Prop), R (f z) H' → tt [a0, a1, a2, a3, some (.ref l), a5, a6, a7, a8, a9, a10, a11, a12, a13, a14, a15, some (.str z), none, none] H' R)
    (q : ∀ D H', Same H H' → H D = none → H' D = some (.lst ((ys.filter f).map V.str)) → Q (.ref D) H') :
    tLc (iList K (tVar 4)) (gName 16) tt (tVar 16) [16] [a0, a1, a2, a3, some (.ref l), a5, a6, a7, a8, a9, a10, a11, a12, a13, a14, a15, none, none, none] H Q := by
  have sl : sizeLine = 16777216 := sizeLine_eq
  refine ⟨_, rfl, l, rfl, ⟨_, .of el⟩, fun D nD => lc_it (walk_list (xs := ys.map V.str)) (fun j H5 => Same H H5 ∧ H5 D = some (.lst (((ys.take j).filter f).map V.str))) ⟨same_upd nD, upd_same⟩ (fun j H5 _ hP => .of (hP.1 _ _ el)) (fun j y H5 H6 hj hP hY => ?_) (fun H5 hP => ?_)⟩
  · obtain ⟨s5, e5⟩ := hP
    obtain ⟨eH, hy⟩ := hY
    subst H6
    have hj2 : j < ys.length := by rw [List.length_map] at hj; exact hj
    rw [List.getElem?_map, List.getElem?_eq_getElem hj2] at hy
    have tk2 : ys.take (j + 1) = ys.take j ++ [ys[j]] := by rw [List.take_succ, List.getElem?_eq_getElem hj2]; rfl
    rw [tk2, List.filter_append]
    have hz := List.getElem_mem hj2
    have kl : ((ys.take j).filter f).length ≤ j := Nat.le_trans (List.length_filter_le _ _) (by rw [List.length_take]; omega)
    generalize ys[j] = z at hy hz
    obtain rfl : V.str z = y := Option.some.inj hy
    refine ⟨rfl, ht z hz _ _ (ite2 (fun hb => ?_) (fun hb => ?_))⟩
    · rw [List.filter_cons, if_pos hb]
      refine ⟨_, rfl, _, e5, by rw [List.length_map]; omega, fun y o u => by rw [upd_ne (ne_of_none u nD)]; exact s5 _ _ u, ?_⟩
      rw [upd_same, List.map_append]
      rfl
    · rw [List.filter_cons, if_neg hb, List.filter_nil, List.append_nil]
      exact ⟨s5, e5⟩
  · obtain ⟨s5, e5⟩ := hP
    rw [List.length_map, List.take_length] at e5
    exact q D _ s5 nD e5
theorem rd_flen {l : Addr} {ys : List Str} {a0 a1 a2 a3 a5 a6 a7 a8 a9 a10 a11 a12 a13 a14 a15 : Option V} {tt : TT} {Q : VK} (f : Str → Bool) (el : H l = some (.lst (ys.map V.str))) (few : ys.length ≤ 121)
    (ht : ∀ z ∈ ys, ∀ (H' : Hp) (R : Bool → Hp → Prop), R (f z) H' → tt [a0, a1, a2, a3, some (.ref l), a5, a6, a7, a8, a9, a10, a11, a12, a13, a14, a15, some (.str z), none, none] H' R)
    (q : ∀ H', Same H H' → Q (.int (((ys.filter f).length : Nat) : Int)) H') :
    tCB (fun xs H Q => ∃ p zs, xs = [V.ref p] ∧ (SqL K H p zs ∨ SqT K H p zs) ∧ Q (V.int ((zs.length : Nat) : Int)) H) (tCons (tLc (iList K (tVar 4)) (gName 16) tt (tVar 16) [16]) tNil) [a0, a1, a2, a3, some (.ref l), a5, a6, a7, a8, a9, a10, a11, a12, a13, a14, a15, none, none, none] H Q := by
  unfold tCB tCons
  exact rd_filt f el few ht fun D H' s nD e => ⟨D, _, rfl, .inl (.of e), by rw [List.length_map]; exact q H' s⟩
end
theorem rd_fset {K : PySem.W.Frag} {H : Hp} {l : Addr} {ys : List Str} {a0 a1 a2 a3 a5 a6 a7 a8 a9 a10 a11 a12 a13 a14 a15 : Option V} {tt : TT} {i : Nat} {D : Ends} (f : Str → Bool) (el : H l = some (.lst (ys.map V.str))) (few : ys.length ≤ 121)
    (ht : ∀ z ∈ ys, ∀ (H' : Hp) (R : Bool → Hp → Prop), R (f z) H' → tt [a0, a1, a2, a3, some (.ref l), a5, a6, a7, a8, a9, a10, a11, a12, a13, a14, a15, some (.str z), none, none] H' R)
    (q : ∀ d H', Same H H' → H d = none → H' d = some (.lst ((ys.filter f).map V.str)) → D.nx ([a0, a1, a2, a3, some (.ref l), a5, a6, a7, a8, a9, a10, a11, a12, a13, a14, a15, none, none, none].set i (some (.ref d))) H') :
    tAsg (tLc (iList K (tVar 4)) (gName 16) tt (tVar 16) [16]) (gName i) D [a0, a1, a2, a3, some (.ref l), a5, a6, a7, a8, a9, a10, a11, a12, a13, a14, a15, none, none, none] H := by
  unfold tAsg
  exact rd_filt f el few ht fun d H' s nD e => q d H' s nD e
structure RS6 (K : PySem.W.Frag) (CH PT : Addr) (H0 : Hp) (p t r x l y o : Addr) (cs : List Nat) (vs : List V) (ds : List PyData) (ys : List Str) (rs' : List RunD) (H : Hp) : Prop where
  st : RSt K CH PT H0 p t r x cs vs ds H
  el : H l = some (.lst (ys.map V.str))
  hy : HoleAt K CH H y ((ds.map runD).reverse.map dataR)
  ho : HoleAt K CH H o (rs'.map dataR)
section
variable {K : PySem.W.Frag} {CH PT p t r x l y o : Addr} {cs : List Nat} {vs : List V} {ds : List PyData} {ys : List Str} {rs' : List RunD} {H0 H H' : Hp}
theorem RS6.keep (h : RS6 K CH PT H0 p t r x l y o cs vs ds ys rs' H) (lp : l ≠ p) (k : Keep p H H') : RS6 K CH PT H0 p t r x l y o cs vs ds ys rs' H' :=
  ⟨h.st.keep k, k.1 _ _ lp h.el, h.hy.keep h.st.dice k, h.ho.keep h.st.dice k⟩
theorem RS6.same (h : RS6 K CH PT H0 p t r x l y o cs vs ds ys rs' H) (s : Same H H') : RS6 K CH PT H0 p t r x l y o cs vs ds ys rs' H' :=
  ⟨h.st.same s, s _ _ h.el, h.hy.same s, h.ho.same s⟩
end
/-- what _law_less tells -/
def LessAt (K : PySem.W.Frag) (CH : Addr) (H : Hp) (v : V) (c : Nat) (rs : List RunD) : Prop :=
  (gone [c] rs = false ∧ barL [c] rs ≠ [] ∧ ∃ y, v = .ref y ∧ HoleAt K CH H y ((barL [c] rs).map dataR)) ∨ ((gone [c] rs = true ∨ barL [c] rs = []) ∧ v = .non)
theorem LessAt.same {K : PySem.W.Frag} {CH : Addr} {H H' : Hp} {v : V} {c : Nat} {rs : List RunD} (h : LessAt K CH H v c rs) (s : Same H H') : LessAt K CH H' v c rs := by
  rcases h with ⟨a, b, y, e, h⟩ | h
  · exact .inl ⟨a, b, y, e, h.same s⟩
  · exact .inr h
theorem LessAt.keep {K : PySem.W.Frag} {CH p : Addr} {H H' : Hp} {v : V} {c : Nat} {rs : List RunD} (h : LessAt K CH H v c rs) (d : Dice p H) (k : Keep p H H') : LessAt K CH H' v c rs := by
  rcases h with ⟨a, b, y, e, h⟩ | h
  · exact .inl ⟨a, b, y, e, h.keep d k⟩
  · exact .inr h
end K0
end
/-! ### RD -/
section
set_option Elab.async false
set_option linter.all false
set_option maxRecDepth 100000
set_option maxHeartbeats 4000000
/-! _law_right: what is left of all signs; a draw of a list of values; sums. -/
namespace K0
open PySem PySem.Spec PyProof.Rows L2 Rd LamX
theorem rd_draw {K : PySem.W.Frag} {p : Addr} {σ : L2.St} {H : Hp} {Q : VK} {ta : TA} {ds : List PyData} (ev : EvN K p σ ta ds) (D0 : Dice p H) (h0 : ds ≠ []) (hl : ds.length ≤ 1000) (k : ∀ x d H', Keep p H H' → Dv K (hid p H') x d → d ∈ ds → Q x H') :
    tLst ta σ H fun x H1 => ∃ (q : Addr) (a b c : Int) (v : V) (xs : List V), ([.ref p, x] : List V) = [.ref q, v] ∧ H1 q = some (dk a b c) ∧ Its K H1 v xs ∧ xs ≠ [] ∧ xs.length ≤ sizeLine ∧ (∀ a' b' c', Its K (upd H1 q (dk a' b' c')) v xs) ∧ ∀ a' b' c' (i : Nat) x, xs[i]? = some x → Q x (upd H1 q (dk a' b' c')) := by
  refine rd_lst ev D0 hl fun xs H1 l s1 v1 n1 => ?_
  have s2 : Same H (upd H1 l (.lst xs)) := s1.trans (same_upd n1)
  obtain ⟨a, b, c, hp⟩ := D0.same s2
  have nl : l ≠ p := (D0.same s1).ne n1
  have ln := v1.length
  refine ⟨p, a, b, c, .ref l, xs, rfl, hp, .inl ⟨l, rfl, .inl (.of upd_same)⟩, fun z => ?_, by rw [ln]; exact Nat.le_of_lt (small1000 hl), fun a' b' c' => .inl ⟨l, rfl, .inl (.of (by rw [upd_ne nl, upd_same]))⟩, fun a' b' c' i x hx => ?_⟩
  · rw [z] at ln
    cases ds with
    | nil => exact h0 rfl
    | cons d ds => cases ln
  · obtain ⟨d, hd, hv⟩ := v1.get hx
    exact k x d _ (keep_of s2 a' b' c') (hv.same (hid_same fun y o n z => by rw [upd_ne n]; exact same_upd n1 _ _ z)) (List.mem_of_getElem? hd)
def wrongs : List PyData := [.int (-1), .int 201, .bool true, .none, .str "1", .int (10 ^ Int.toNat 39), .int (10 ^ Int.toNat 40), .tuple []]
theorem wrong_fit : wrongs.all (fun d => !isNumD 0 200 d && fitB (.tuple [.str "number", d])) = true := by decide +kernel
theorem wrong_ok {d : PyData} (h : d ∈ wrongs) : isNumD 0 200 d = false ∧ Fit7 (.tuple [.str "number", d]) := by
  have := List.all_eq_true.mp wrong_fit d h
  obtain ⟨h1, h2⟩ := Bool.and_eq_true_iff.mp this
  exact ⟨by simpa using h1, fitB_ok h2⟩
theorem kept_many {cs : List Nat} (nd : cs.Nodup) : 15 ≤ (keptL cs sgs').length + cs.length := by
  have e : sgs'.length = (sgs'.filter fun s => decide (s ∈ cs)).length + (keptL cs sgs').length := by
    unfold keptL
    rw [← List.countP_eq_length_filter, ← List.countP_eq_length_filter]
    have := List.length_eq_countP_add_countP (p := fun s => decide (s ∈ cs)) (l := sgs')
    rw [this]
    congr 1
    exact List.countP_congr fun a _ => by simp
  have h : (sgs'.filter fun s => decide (s ∈ cs)).length ≤ cs.length := nodup_len (sgs_nd.filter _) fun z hz => of_decide_eq_true (List.mem_filter.mp hz).2
  have e15 : sgs'.length = 15 := sgs_len
  omega
/-- the run more -/
def moreR (cs : List Nat) (lo : Nat) (hi : Option Nat) : RunD := ⟨(keptL cs sgs').take 2, lo, hi⟩
theorem more_ok {cs : List Nat} {lo : Nat} {hi : Option Nat} (nd : cs.Nodup) (c3 : cs.length ≤ 3) (l2 : lo ≤ 2) (h3 : hi = none ∨ hi = some 3) : RunOk (moreR cs lo hi) where
  sub := fun c hc => (List.mem_filter.mp (List.mem_of_mem_take hc)).1
  asc := by
    have : sgs'.Pairwise (· < ·) := by decide +kernel
    exact (this.filter _).sublist (List.take_sublist _ _)
  ne := fun z => by
    have h := congrArg List.length z
    have k := kept_many nd
    have h : min 2 (keptL cs sgs').length = 0 := by rw [← List.length_take]; exact h
    omega
  low := by show lo ≤ 3; omega
  hi := fun h e => by
    have e : hi = some h := e
    rcases h3 with z | z
    · rw [z] at e; cases e
    · rw [z] at e; cases e
      show (if 1 > lo then 1 else lo) ≤ 3 ∧ 3 ≤ 3
      split <;> omega
theorem more_out {cs : List Nat} {lo : Nat} {hi : Option Nat} : ∀ c ∈ (moreR cs lo hi).signs, c ∉ cs := fun c hc => by
  have := (List.mem_filter.mp (List.mem_of_mem_take hc)).2
  simpa using this
theorem sum_cast : ∀ (l : List Nat), (l.map fun n => ((n : Nat) : Int)).sum = ((l.sum : Nat) : Int)
  | [] => rfl
  | n :: l => by rw [List.map_cons, List.sum_cons, List.sum_cons, sum_cast l]; omega
end K0
end
/-! ### RT -/
section
set_option Elab.async false
set_option linter.all false
set_option maxRecDepth 100000
set_option maxHeartbeats 4000000
/-! _law_right: the term. -/
namespace K0
open PySem PySem.Spec PyProof.Rows L2 Rd DN StX LamX TR
abbrev rtN : List Str := ["dice", "signs", "runs", "made", "some", "size", "back", "other", "sign", "far", "less", "due", "free", "more", "wide", "wrong", "text", "one", "at"]
theorem scRight : FnScope rtN ["dice"] (defScope (top iRight)) := ⟨rfl, rfl, rfl, by decide +kernel, rfl, by decide +kernel, by decide +kernel⟩
def spRight4 (PT : Addr) : Sp := fun vs H Q _ => ∃ (p : Addr) (a b c : Int), vs = [.ref p] ∧ H p = some (dk a b c) ∧ Tabs [(PT, fillQ)] H ∧ ∀ H', KN p H H' → Tabs [(PT, fillQ)] H' → Q (.bl true) H'
section
variable {P : Program} {w : World} {K : PySem.W.Frag} {mg : Str → Option Value} {base : Heap} {f fS fH fMd fF fC fO fOn fR fL fA fW fT CH CN PT : Addr} {fd fdS fdH fdMd fdF fdC fdO fdOn fdR fdL fdA fdW fdT : FuncData}
theorem ok_right {n : Nat} (F : FnP K "_law_right" iRight f fd) (T : HoleM K CH) (sb : sysB K = true) (mrepr : mg "repr" = none) (mlen : mg "len" = none) (mrange : mg "range" = none) (mtuple : mg "tuple" = none) (msum : mg "sum" = none)
    (FS : FnOk P w K mg base CX0 (n + 3) fS fdS ["dice", "upto"] spSigns) (gS : mg "_law_signs" = some (.ref fS)) (kS : PySem.W.keepIn K (.ref fS) = true) (bS : Binds K fdS ["dice", "upto"] [])
    (FH : FnOk P w K mg base CX0 (n + 4) fH fdH ["dice", "signs"] (spLHole4 K)) (gH : mg "_law_hole" = some (.ref fH)) (kH : PySem.W.keepIn K (.ref fH) = true) (bH : Binds K fdH ["dice", "signs"] [])
    (FMd : FnOk P w K mg base CX0 (n + 7) fMd fdMd ["runs"] (spMade4 K CH)) (gMd : mg "_law_made_hole" = some (.ref fMd)) (kMd : PySem.W.keepIn K (.ref fMd) = true) (bMd : Binds K fdMd ["runs"] [])
    (FF : FnOk P w K mg base CX0 (n + 5) fF fdF ["runs", "upto"] (spFill K PT)) (gF : mg "_law_fillings" = some (.ref fF)) (kF : PySem.W.keepIn K (.ref fF) = true) (bF : Binds K fdF ["runs", "upto"] [])
    (me : Meth K CH "count" fC) (FC : FnOk P w K mg base (L2.CX P w) (n + 3) fC fdC ["self", "many"] (spHCount K CH CN)) (bC : Binds K fdC ["self", "many"] [])
    (FO : FnOk P w K mg base CX0 (n + 3) fO fdO ["dice", "runs"] (spOther K)) (gO : mg "_law_other_signs" = some (.ref fO)) (kO : PySem.W.keepIn K (.ref fO) = true) (bO : Binds K fdO ["dice", "runs"] [])
    (FOn : FnOk P w K mg base CX0 (n + 2) fOn fdOn ["dice", "items"] (spOne K)) (gOn : mg "_law_one_of" = some (.ref fOn)) (kOn : PySem.W.keepIn K (.ref fOn) = true) (bOn : Binds K fdOn ["dice", "items"] [])
    (FR : FnOk P w K mg base CX0 (n + 2) fR fdR ["dice", "total"] spRoll) (gR : mg "_law_roll" = some (.ref fR)) (kR : PySem.W.keepIn K (.ref fR) = true) (bR : Binds K fdR ["dice", "total"] [])
    (FL : FnOk P w K mg base CX0 (n + 7) fL fdL ["made", "sign"] (spLess K CH)) (gL : mg "_law_less" = some (.ref fL)) (kL : PySem.W.keepIn K (.ref fL) = true) (bL : Binds K fdL ["made", "sign"] [])
    (FA : FnOk P w K mg base CX0 (n + 2) fA fdA [] spAll) (gA : mg "_law_all_signs" = some (.ref fA)) (kA : PySem.W.keepIn K (.ref fA) = true) (bA : Binds K fdA [] [])
    (FW : FnOk P w K mg base CX0 (n + 2) fW fdW ["run", "size"] (spOfRun K)) (gW : mg "_law_of_run" = some (.ref fW)) (kW : PySem.W.keepIn K (.ref fW) = true) (bW : Binds K fdW ["run", "size"] [])
    (FT : FnOk P w K mg base CX0 (n + 4) fT fdT ["made", "size"] (spTold4 K CH)) (gT : mg "_law_told" = some (.ref fT)) (kT : PySem.W.keepIn K (.ref fT) = true) (bT : Binds K fdT ["made", "size"] []) :
    FnG P w K mg base CX0 (n + 8) f fd ["dice"] (spRight4 PT) := by
  refine fnG_ofC F scRight (fun vs H Q E h => ?_) (fun cdv _ A outer s H vs Q E gd hr h => ?_)
  · obtain ⟨p, a, b, c, rfl, _⟩ := h
    rfl
  · obtain ⟨p, a, b, c, rfl, hp, tabs, q⟩ := h
    have hr2 := hr.mono (show n + 2 ≤ n + 7 by omega)
    have hr3 := hr.mono (show n + 3 ≤ n + 7 by omega)
    have hr4 := hr.mono (show n + 4 ≤ n + 7 by omega)
    have hr5 := hr.mono (show n + 5 ≤ n + 7 by omega)
    have cnt0 : ∀ {e1 e2 : Expr}, True := trivial
    refine ⟨_, PSs.nox (C8.pss_cut (ps_set (i := 1) scRight.nd rfl (.inr rfl) (pe_call FS hr3 (by rfl) gS kS bS .nil pass0 (pa_cons (pv 0) (pa_cons pe_int pa_nil))))
      (C8.pss_cut (ps_set (i := 2) scRight.nd rfl (.inl rfl) (pe_call FH hr4 (by rfl) gH kH bH .nil pass0 (pa_cons (pv 0) (pa_cons (pv 1) pa_nil))))
      (C8.pss_cut (ps_set (i := 3) scRight.nd rfl (.inr rfl) (pe_call FMd hr (by rfl) gMd kMd bMd .nil pass0 (pa_cons (pv 2) pa_nil)))
      (C8.pss_cut (ps_set (i := 4) scRight.nd rfl (.inl rfl) (pe_call FF hr5 (by rfl) gF kF bF .nil pass0 (pa_cons (pv 2) (pa_cons pe_int pa_nil))))
      (C8.pss_cut (ps_for PassesOwn.never rfl (pi_range1 (by rfl) mrange (pa_cons pe_int pa_nil)) (pg_name (i := 5) scRight.nd rfl (.inr rfl))
        (pss_one (ps_if (pt_cmpR op_ne (pe_meth (E := fun _ _ _ => False) (pv 3) T.cl me FC hr3 bC .nil (passes_call L2.takes0 fun _ _ _ _ z => z) (pa_cons (pv 5) pa_nil)) (pe_callB call_len_seq (by rfl) mlen PySem.boot_len (pa_cons (pe_lc (own := [("text", 16)]) (g := gName 16) (te := tVar 16) rfl scRight.nd (pi_list (pv 4)) (blkOk_by (N := rtN) (sc := defScope (top iRight)) (by decide +kernel))
            (fun _ _ _ _ _ => pg_name (i := 16) scRight.nd rfl (Or.inl rfl)) (fun _ _ _ _ _ => pts_one (pt_cmpR op_eq (pe_callB call_len_str (by rfl) mlen PySem.boot_len (pa_cons (pv 16) pa_nil)) (pv 5) (nomark _))) (fun _ _ _ _ _ => pv 16)) pa_nil)) (nomark _)) (pss_one (ps_ret pe_bl)) pss_nil)))
      (C8.pss_cut (ps_par (i := 6) (j := 7) (by rfl) scRight.nd rfl rfl (by decide) rfl rfl (pa_cons (pe_call FMd hr (by rfl) gMd kMd bMd .nil pass0 (pa_cons (pe_revT (pv 2)) pa_nil)) (pa_cons (pe_call FMd hr (by rfl) gMd kMd bMd .nil pass0 (pa_cons (pe_call FO hr3 (by rfl) gO kO bO .nil pass0 (pa_cons (pv 0) (pa_cons (pv 2) pa_nil))) pa_nil)) pa_nil)) (by rfl))
      (C8.pss_cut (ps_asg (pe_tup (pa_cons (pe_call FOn hr2 (by rfl) gOn kOn bOn .nil pass0 (pa_cons (pv 0) (pa_cons (pv 1) pa_nil))) (pa_cons (pe_call FR hr2 (by rfl) gR kR bR .nil pass0 (pa_cons (pv 0) (pa_cons (pe_ifExp (pt_cmpR op_lt (pe_callB call_len_seq (by rfl) mlen PySem.boot_len (pa_cons (pv 2) pa_nil)) pe_int (nomark _)) pe_int pe_int) pa_nil))) pa_nil))) (pg_tup rfl (pgs_cons (pg_name (i := 8) scRight.nd rfl (.inr rfl)) (pgs_cons (pg_name (i := 9) scRight.nd rfl (.inl rfl)) pgs_nil))))
      (C8.pss_cut (ps_set (i := 10) scRight.nd rfl (.inl rfl) (pe_call FL hr (by rfl) gL kL bL .nil pass0 (pa_cons (pv 3) (pa_cons (pv 8) pa_nil))))
      (C8.pss_cut (ps_for PassesOwn.never rfl (pi_tup (pe_tup (pa_cons (pv 9) (pa_cons pe_int (pa_cons pe_int pa_nil))))) (pg_name (i := 5) scRight.nd rfl (.inr rfl))
        (pss_cons (ps_if (PW.pt (pw_or (pt_cmpR op_ne (pe_meth (E := fun _ _ _ => False) (pv 3) T.cl me FC hr3 bC .nil (passes_call L2.takes0 fun _ _ _ _ z => z) (pa_cons (pv 5) pa_nil)) (pe_meth (E := fun _ _ _ => False) (pv 6) T.cl me FC hr3 bC .nil (passes_call L2.takes0 fun _ _ _ _ z => z) (pa_cons (pv 5) pa_nil)) (nomark _)) (pw_or1 (pt_cmpR op_ne (pe_meth (E := fun _ _ _ => False) (pv 3) T.cl me FC hr3 bC .nil (passes_call L2.takes0 fun _ _ _ _ z => z) (pa_cons (pv 5) pa_nil)) (pe_meth (E := fun _ _ _ => False) (pv 7) T.cl me FC hr3 bC .nil (passes_call L2.takes0 fun _ _ _ _ z => z) (pa_cons (pv 5) pa_nil)) (nomark _))))) (pss_one (ps_ret pe_bl)) pss_nil)
        (pss_one (ps_if (PW.pt (pw_and (pt_cmp (pc_notN (pv 10))) (pw_and1 (pt_cmpR op_gt (pe_meth (E := fun _ _ _ => False) (pv 10) T.cl me FC hr3 bC .nil (passes_call L2.takes0 fun _ _ _ _ z => z) (pa_cons (pv 5) pa_nil)) (pe_meth (E := fun _ _ _ => False) (pv 3) T.cl me FC hr3 bC .nil (passes_call L2.takes0 fun _ _ _ _ z => z) (pa_cons (pv 5) pa_nil)) (nomark _))))) (pss_one (ps_ret pe_bl)) pss_nil))))
      (C8.pss_cut (ps_for PassesOwn.never rfl (pi_range1 (by rfl) mrange (pa_cons pe_int pa_nil)) (pg_name (i := 5) scRight.nd rfl (.inr rfl))
        (C8.pss_cut (ps_setLc (i := 11) (own := [("text", 16)]) (g := gName 16) (te := tVar 16) rfl scRight.nd rfl rfl (sw_true rfl rfl rfl rfl) (pi_list (pv 4)) (blkOk_by (N := rtN) (sc := defScope (top iRight)) (by decide +kernel))
            (fun _ _ _ _ _ => pg_name (i := 16) scRight.nd rfl (Or.inl rfl)) (fun _ _ _ _ _ => pts_one (PW.pt (pw_and (pt_cmpR op_eq (pe_callB call_len_str (by rfl) mlen PySem.boot_len (pa_cons (pv 16) pa_nil)) (pv 5) (nomark _)) (pw_and1 (pt_cmpR op_notInS (pv 8) (pv 16) rfl))))) (fun _ _ _ _ _ => pv 16))
        (pss_one (ps_if (PW.pt (pw_and (pt_cmpR op_ne (pe_ifExp (pt_cmp (pc_isN (pv 10))) pe_int (pe_meth (E := fun _ _ _ => False) (pv 10) T.cl me FC hr3 bC .nil (passes_call L2.takes0 fun _ _ _ _ z => z) (pa_cons (pv 5) pa_nil))) (pe_callB call_len_seq (by rfl) mlen PySem.boot_len (pa_cons (pv 11) pa_nil)) (nomark _)) (pw_and1 (pt_cmpR (op_neD hr.units) (pv 11) (pe_lst (pa_cons pe_str pa_nil)) (nomark _))))) (pss_one (ps_ret pe_bl)) pss_nil))))
      (C8.pss_cut (ps_set (i := 12) scRight.nd rfl (.inl rfl) (pe_callTy call_tuple_of (by rfl) mtuple (by decide +kernel) (pa_cons (pe_lc (own := [("one", 17)]) (g := gName 17) (te := tVar 17) rfl scRight.nd (pi_str (pe_call0 FA hr2 (by rfl) gA kA bA .nil pass0)) (blkOk_by (N := rtN) (sc := defScope (top iRight)) (by decide +kernel))
            (fun _ _ _ _ _ => pg_name (i := 17) scRight.nd rfl (Or.inl rfl)) (fun _ _ _ _ _ => pts_one (pt_cmpR (op_notInK K rfl) (pv 17) (pv 1) rfl)) (fun _ _ _ _ _ => pv 17)) pa_nil)))
      (C8.pss_cut (ps_set (i := 13) scRight.nd rfl (.inr rfl) (pe_tup (pa_cons (pe_slice sl_tupA (pv 12) po_none (po_some pe_int)) (pa_cons (pe_call FR hr2 (by rfl) gR kR bR .nil pass0 (pa_cons (pv 0) (pa_cons pe_int pa_nil))) (pa_cons (pe_call FOn hr2 (by rfl) gOn kOn bOn .nil pass0 (pa_cons (pv 0) (pa_cons (pe_lst (pa_cons pe_non (pa_cons pe_int pa_nil))) pa_nil))) pa_nil)))))
      (C8.pss_cut (ps_if (pt_cmpR op_lt (pe_callB call_len_seq (by rfl) mlen PySem.boot_len (pa_cons (pv 2) pa_nil)) pe_int (nomark _))
        (C8.pss_cut (ps_set (i := 14) scRight.nd rfl (.inl rfl) (pe_call FMd hr (by rfl) gMd kMd bMd .nil pass0 (pa_cons (pe_op op_catA (pv 2) (pe_tup (pa_cons (pv 13) pa_nil))) pa_nil)))
        (pss_one (ps_for PassesOwn.never rfl (pi_list (pe_lst (pa_cons pe_int (pa_cons pe_int pa_nil)))) (pg_name (i := 5) scRight.nd rfl (.inr rfl))
          (pss_one (ps_if (pt_cmpR op_ne (pe_meth (E := fun _ _ _ => False) (pv 14) T.cl me FC hr3 bC .nil (passes_call L2.takes0 fun _ _ _ _ z => z) (pa_cons (pv 5) pa_nil)) (pe_callB (cr_sum rfl) (by rfl) msum (by decide +kernel) (pa_cons (pe_lc (own := [("at", 18)]) (g := gName 18) (tt := tYes) (te := tOp (rI CMul fun i j => .int (i * j)) (tMeth CH "count" (spHCount K CH CN) [] (fun _ _ _ => False) (tVar 3) (tCons (tVar 18) tNil)) (tCall (spOfRun K) [] E0 (tCons (tVar 13) (tCons (tOp (rI0 fun i j => .int (i - j)) (tVar 5) (tVar 18)) tNil)))) rfl scRight.nd (pi_range1 (by rfl) mrange (pa_cons (pe_op op_add (pv 5) pe_int) pa_nil)) (blkOk_by (N := rtN) (sc := defScope (top iRight)) (by decide +kernel))
            (fun _ _ _ _ _ => pg_name (i := 18) scRight.nd rfl (Or.inl rfl)) (fun _ _ _ _ _ => pts_nil) (fun _ _ _ _ _ => pe_op op_mul (pe_meth (E := fun _ _ _ => False) (pv 3) T.cl me FC hr3 bC .nil (passes_call L2.takes0 fun _ _ _ _ z => z) (pa_cons (pv 18) pa_nil)) (pe_call FW hr2 (by rfl) gW kW bW .nil pass0 (pa_cons (pv 13) (pa_cons (pe_op op_sub (pv 5) (pv 18)) pa_nil))))) pa_nil)) (nomark _)) (pss_one (ps_ret pe_bl)) pss_nil))))) pss_nil)
      (C8.pss_cut (ps_set (i := 15) scRight.nd rfl (.inl rfl) (pe_call FOn hr2 (by rfl) gOn kOn bOn .nil pass0 (pa_cons (pv 0) (pa_cons (pe_lst (pa_cons (pe_un un_neg pe_int) (pa_cons pe_int (pa_cons pe_bl (pa_cons pe_non (pa_cons pe_str (pa_cons (pe_op op_powBits pe_int pe_int) (pa_cons (pe_op op_powBits pe_int pe_int) (pa_cons (pe_tup pa_nil) pa_nil))))))))) pa_nil))))
      (pss_one (ps_ret (pe_cmpR op_eq (pe_callB (call_repr sb gd hr.units) (by rfl) mrepr boot_repr (pa_cons (pe_call FT hr4 (by rfl) gT kT bT .nil pass0 (pa_cons (pv 3) (pa_cons (pv 15) pa_nil))) pa_nil)) (pe_callB (call_repr sb gd hr.units) (by rfl) mrepr boot_repr (pa_cons (pe_tup (pa_cons pe_str (pa_cons (pv 15) pa_nil))) pa_nil)) (nomark _)))))))))))))))))), ?_⟩
    have sl : sizeLine = 16777216 := sizeLine_eq
    refine ⟨fun σ' H' => ∃ t cs, σ' = [some (.ref p), some (.ref t), none, none, none, none, none, none, none, none, none, none, none, none, none, none, none, none, none] ∧ Keep p H H' ∧ FrT H' t (cs.map oneV) ∧ cs.Pairwise (· < ·) ∧ cs ≠ [] ∧ (∀ c ∈ cs, c ∈ sgs') ∧ cs.length ≤ 3, ?_, ?_⟩
    · refine ⟨_, rfl, p, a, b, c, 3, rfl, hp, by decide, by decide, fun H1 t cs k1 fT asc ne sub le => ⟨t, cs, rfl, k1, fT, asc, ne, sub, by omega⟩⟩
    rintro σ1 H1 ⟨t, cs, rfl, k1, fT1, asc, cne, sub, c3⟩
    have t1 := tabs_keepQ ⟨a, b, c, hp⟩ k1 tabs
    have D1 : Dice p H1 := k1.2
    have nd : cs.Nodup := asc.imp fun h => Nat.ne_of_lt h
    have g1 := k1.1
    clear hp tabs k1
    refine ⟨fun σ' H' => ∃ r vs ds, σ' = [some (.ref p), some (.ref t), some (.ref r), none, none, none, none, none, none, none, none, none, none, none, none, none, none, none, none] ∧ Keep p H1 H' ∧ SqT K H' r vs ∧ DvAll K H' vs ds ∧ holeD ds = true ∧ ∀ d ∈ ds, FromL cs d, ?_, ?_⟩
    · obtain ⟨a1, b1, c1, hp1⟩ := D1
      refine ⟨_, rfl, _, rfl, p, a1, b1, c1, t, cs, rfl, hp1, (fT1.fz.same (fz_hid ⟨a1, b1, c1, hp1⟩)).sq, cne, by omega, nd, sub, fun H2 r vs ds k2 e2 rp dv hd fl => ⟨r, vs, ds, rfl, k2, .of e2, DvAll.same hid_out _ _ dv, hd, fl⟩⟩
    rintro σ2 H2 ⟨r, vs, ds, rfl, k2, rT2, dv2, hd, fl⟩
    have fT2 := fT1.fz.same (fz_keep D1 k2)
    have t2 := tabs_keepQ D1 k2 t1
    have D2 : Dice p H2 := k2.2
    have g2 := k2.1
    clear k2 D1 fT1 t1
    refine ⟨fun σ' H' => ∃ x, σ' = [some (.ref p), some (.ref t), some (.ref r), some (.ref x), none, none, none, none, none, none, none, none, none, none, none, none, none, none, none] ∧ RSt K CH PT H p t r x cs vs ds H', ?_, ?_⟩
    · refine ⟨_, rfl, r, vs, ds, rfl, rT2, dv2, hole_bulk hd, hd, fun H3 x s3 nx h3 => ⟨x, rfl, ?_⟩⟩
      have k3 := keep_same D2 s3
      exact ⟨k3.2, fT2.same s3, same_tup s3 rT2, DvAll.same s3 _ _ dv2, h3, tabs_keepQ D2 k3 t2, fun b o n _ e => s3 _ _ (g2 _ _ n (g1 _ _ n e))⟩
    rintro σ3 H3 ⟨x, rfl, R3⟩
    clear dv2 rT2 fT2 t2 D2 g1 g2
    have rl := hole_len hd
    obtain ⟨rok, rdat⟩ := runs_data (hole_runs hd)
    have l4 : (ds.map runD).length ≤ 4 := by rw [List.length_map]; omega
    have rsub : ∀ r ∈ ds.map runD, ∀ c ∈ r.signs, c ∈ cs := fun r hr => by
      obtain ⟨d, hd, rfl⟩ := List.mem_map.mp hr
      exact (fl d hd).signs
    refine ⟨fun σ' H' => ∃ l ys, σ' = [some (.ref p), some (.ref t), some (.ref r), some (.ref x), some (.ref l), none, none, none, none, none, none, none, none, none, none, none, none, none, none] ∧ RSt K CH PT H p t r x cs vs ds H' ∧ l ≠ p ∧ H' l = some (.lst (ys.map V.str)) ∧ Found 4 (ds.map runD) ys, ?_, ?_⟩
    · refine ⟨_, rfl, r, vs, ds.map runD, cs, rfl, R3.rT, (runs_at R3.dv (hole_runs hd)).1, l4, rok, c3, rsub, R3.tab, fun H4 l ys e4 tb4 ap el fo => ⟨l, ys, rfl, R3.ext e4 tb4, ?_, el, fo⟩⟩
      obtain ⟨a3, b3, c3', e3⟩ := R3.dice
      exact fun z => ap p _ (fun ps z => by cases z) e3 z.symm
    rintro σ4 H4 ⟨l, ys, rfl, R4, lp, el, fo⟩
    clear R3
    have few := found_few121 fo nd c3 rsub
    have good := good_runs rok l4
    have len16 : ∀ z ∈ ys, z.length ≤ 4 := fun z hz => by
      rw [← cd_len]
      exact ((fo.mem z).mp hz).2
    refine ⟨fun σ' H' => ∃ x5, σ' = [some (.ref p), some (.ref t), some (.ref r), some (.ref x), some (.ref l), x5, none, none, none, none, none, none, none, none, none, none, none, none, none] ∧ RSt K CH PT H p t r x cs vs ds H' ∧ H' l = some (.lst (ys.map V.str)), ?_, ?_⟩
    · refine ⟨5, rfl, by decide, by decide, for_range (lo := 0) (n := 5) (fun m σ' H' => ∃ x5, σ' = [some (.ref p), some (.ref t), some (.ref r), some (.ref x), some (.ref l), x5, none, none, none, none, none, none, none, none, none, none, none, none, none] ∧ RSt K CH PT H p t r x cs vs ds H' ∧ H' l = some (.lst (ys.map V.str))) ⟨_, rfl, R4, el⟩ (fun m σ' H' hm hP => ?_) (fun σ' H' hP => hP)⟩
      obtain ⟨x5, rfl, R5, e5⟩ := hP
      refine rd_count R5.ho (m := m) (by omega) rfl (by rw [Int.zero_add]; rfl) fun H6 s6 => ?_
      refine rd_flen (fun z => decide ((cd z).length = m)) (s6 _ _ e5) few (fun z hz H' R hR => ?_) (fun H7 s7 => ?_)
      · have := len16 z hz
        refine ⟨_, rfl, z, rfl, by omega, _, rfl, rfl, _, rfl, ?_⟩
        rw [dec_len]
        exact hR
      · refine ⟨rfl, _, rfl, ite2 (fun e => ?_) (fun _ => ⟨_, rfl, (R5.same s6).same s7, s7 _ _ (s6 _ _ e5)⟩)⟩
        rw [found_count (a := sgs') fo sgs_nd good (by omega) (fun r hr => (rok r hr).sub)] at e
        simp at e
    rintro σ5 H5 ⟨x5, rfl, R5, e5⟩
    clear R4 el H4
    have rvd : ((ds.map runD).reverse.map dataR) = ds.reverse := by rw [List.map_reverse, rdat]
    have rvok : ∀ r ∈ (ds.map runD).reverse, RunOk r := fun r hr => rok r (List.mem_reverse.mp hr)
    have rne : ds.map runD ≠ [] := fun z => by
      have := congrArg List.length z
      rw [List.length_map, List.length_nil] at this
      omega
    refine ⟨fun σ' H' => ∃ (x5 : Option V) (y o : Addr) (rs' : List RunD) (ms : List Nat), σ' = [some (.ref p), some (.ref t), some (.ref r), some (.ref x), some (.ref l), x5, some (.ref y), some (.ref o), none, none, none, none, none, none, none, none, none, none, none] ∧ RSt K CH PT H p t r x cs vs ds H' ∧ H' l = some (.lst (ys.map V.str)) ∧
      HoleAt K CH H' y ((ds.map runD).reverse.map dataR) ∧ HoleAt K CH H' o (rs'.map dataR) ∧ (∀ r ∈ rs', RunOk r) ∧ ms.Perm sgs ∧ Others sgs (toS ms) (ds.map runD) rs', ?_, ?_⟩
    · refine ⟨_, rfl, r, vs, rfl, R5.rT, fun b nb => ?_⟩
      have sb' : Same H5 (upd H5 b (.tup vs.reverse)) := same_upd nb
      refine ⟨b, vs.reverse, (ds.map runD).reverse.map dataR, rfl, .of upd_same, ?_, hole_bulk (holeD_of rvok (by simpa using rne) (by rw [List.length_reverse]; exact l4)), holeD_of rvok (by simpa using rne) (by rw [List.length_reverse]; exact l4), fun H6 y s6 ny hy => ?_⟩
      · rw [rvd]
        exact dvAll_rev (DvAll.same sb' _ _ R5.dv)
      have R6 := (R5.same sb').same s6
      have e6 := s6 _ _ (sb' _ _ e5)
      obtain ⟨a6, b6, c6, hp6⟩ := R6.dice
      have F6 := fz_hid (H := H6) ⟨a6, b6, c6, hp6⟩
      refine ⟨_, rfl, _, rfl, p, a6, b6, c6, r, vs, ds.map runD, rfl, hp6, same_tup F6 (sqT_fz R6.rT), (runs_at (DvAll.same F6 _ _ (runs_fz R6.dv (hole_runs hd))) (hole_runs hd)).1, l4, rok, fun H7 u zs rs' ms k7 eu up dvu ok' ln pm oth => ?_⟩
      have ne' : rs' ≠ [] := fun z => by
        rw [z, List.length_map, List.length_nil] at ln
        omega
      have hd' := holeD_of ok' ne' (by omega)
      refine ⟨u, zs, rs'.map dataR, rfl, .of eu, DvAll.same hid_out _ _ dvu, hole_bulk hd', hd', fun H8 o s8 no ho => ⟨_, _, rfl, x5, y, o, rs', ms, rfl, (R6.keep k7).same s8, s8 _ _ (k7.1 _ _ lp e6), (hy.keep R6.dice k7).same s8, ho, ok', pm, oth⟩⟩
    rintro σ6 H6 ⟨x5', y, o, rs', ms, rfl, R6, e6, hy, ho, ok', pm, oth⟩
    clear R5 e5 H5
    have R6' : RS6 K CH PT H p t r x l y o cs vs ds ys rs' H6 := ⟨R6, e6, hy, ho⟩
    clear R6 e6 hy ho
    have fin : ∀ (H7 H8 : Hp) (c0 : Nat) (q0 : Int), RS6 K CH PT H p t r x l y o cs vs ds ys rs' H7 → Keep p H7 H8 → c0 ∈ cs → 0 ≤ q0 → q0 ≤ 200 → ∃ (x5 : Option V) (c0' far : Nat), ([some (.ref p), some (.ref t), some (.ref r), some (.ref x), some (.ref l), x5', some (.ref y), some (.ref o), some (oneV c0), some (.int q0), none, none, none, none, none, none, none, none, none] : L2.St) = [some (.ref p), some (.ref t), some (.ref r), some (.ref x), some (.ref l), x5, some (.ref y), some (.ref o), some (oneV c0'), some (.int (far : Nat)), none, none, none, none, none, none, none, none, none] ∧ c0' ∈ cs ∧ far ≤ 200 ∧ RS6 K CH PT H p t r x l y o cs vs ds ys rs' H8 :=
      fun H7 H8 c0 q0 h k hc h0 h2 => ⟨x5', c0, q0.toNat, by rw [Int.toNat_of_nonneg h0], hc, by omega, h.keep lp k⟩
    refine ⟨fun σ' H' => ∃ (x5 : Option V) (c0 far : Nat), σ' = [some (.ref p), some (.ref t), some (.ref r), some (.ref x), some (.ref l), x5, some (.ref y), some (.ref o), some (oneV c0), some (.int (far : Nat)), none, none, none, none, none, none, none, none, none] ∧ c0 ∈ cs ∧ far ≤ 200 ∧ RS6 K CH PT H p t r x l y o cs vs ds ys rs' H', ?_, ?_⟩
    · obtain ⟨a6, b6, c6, hp6⟩ := R6'.st.dice
      refine ⟨_, rfl, _, rfl, p, a6, b6, c6, _, cs.map oneV, rfl, hp6, .inl ⟨t, rfl, .inr R6'.st.sT.sq⟩, by simpa using cne, by rw [List.length_map]; omega, fun a' b' c' => .inl ⟨t, rfl, .inr (R6'.keep lp (.dice a' b' c')).st.sT.sq⟩, fun a' b' c' i v hv => ?_⟩
      have R7 := R6'.keep lp (.dice a' b' c')
      rw [List.getElem?_map] at hv
      obtain ⟨c0, hc0, rfl⟩ := Option.map_eq_some_iff.mp hv
      have hc := List.mem_of_getElem? hc0
      refine ⟨_, rfl, _, rfl, r, vs, rfl, .inr R7.st.rT, _, _, rfl, rfl, _, rfl, ite2 (fun _ => ?_) (fun _ => ?_)⟩
      · refine ⟨p, a', b', c', 201, rfl, upd_same, wide_div (b := 8) (by decide) (by decide) (by decide) (by decide), fun a2 b2 c2 q0 h0 h1 => ⟨by show 2 ≤ sizeLine; omega, fun tt nt => ⟨_, _, rfl, .of upd_same, rfl, _, _, rfl, _, _, rfl, rfl, fin _ _ c0 q0 R7 ((Keep.dice a2 b2 c2).new2 nt) hc h0 (by omega)⟩⟩⟩
      · refine ⟨p, a', b', c', 25, rfl, upd_same, wide_div (b := 8) (by decide) (by decide) (by decide) (by decide), fun a2 b2 c2 q0 h0 h1 => ⟨by show 2 ≤ sizeLine; omega, fun tt nt => ⟨_, _, rfl, .of upd_same, rfl, _, _, rfl, _, _, rfl, rfl, fin _ _ c0 q0 R7 ((Keep.dice a2 b2 c2).new2 nt) hc h0 (by omega)⟩⟩⟩
    rintro σ7 H7 ⟨x57, c0, far, rfl, hc0, far2, R7⟩
    clear fin R6' H6
    refine ⟨fun σ' H' => ∃ (x5 : Option V) (lv : V), σ' = [some (.ref p), some (.ref t), some (.ref r), some (.ref x), some (.ref l), x5, some (.ref y), some (.ref o), some (oneV c0), some (.int (far : Nat)), some lv, none, none, none, none, none, none, none, none] ∧ LessAt K CH H' lv c0 (ds.map runD) ∧ RS6 K CH PT H p t r x l y o cs vs ds ys rs' H', ?_, ?_⟩
    · exact ⟨_, rfl, _, rfl, x, ds, c0, rfl, R7.st.ho, sub c0 hc0, fun g ne H8 lv s8 n8 h8 => ⟨x57, _, rfl, .inl ⟨g, ne, lv, rfl, h8⟩, R7.same s8⟩, fun z H8 s8 => ⟨x57, _, rfl, .inr ⟨z, rfl⟩, R7.same s8⟩⟩
    rintro σ8 H8 ⟨x58, lv, rfl, L8, R8⟩
    clear R7 H7
    have eback : ∀ m, Rd.cnt sgs (runsD ((ds.map runD).reverse.map dataR)) m = Rd.cnt sgs (runsD ds) m := fun m => by
      show Rd.cnt sgs (((ds.map runD).reverse.map dataR).map runD) m = _
      rw [(data_runs rvok).2]
      exact cnt_rev sgs_nd good m
    have l4' : rs'.length ≤ 4 := by
      have := (hole_len R8.ho.bulk).2
      rwa [List.length_map] at this
    have eoth : ∀ m, Rd.cnt sgs (runsD (rs'.map dataR)) m = Rd.cnt sgs (runsD ds) m := fun m => by
      show Rd.cnt sgs ((rs'.map dataR).map runD) m = _
      rw [(data_runs ok').2]
      exact cnt_other sgs_nd good (good_runs ok' l4') (fun s => toS_mem pm) (fun s => fromS_mem pm) (fun s => from_to pm) (fun s => to_from pm) oth m
    refine ⟨fun σ' H' => ∃ (x5 : Option V), σ' = [some (.ref p), some (.ref t), some (.ref r), some (.ref x), some (.ref l), x5, some (.ref y), some (.ref o), some (oneV c0), some (.int (far : Nat)), some lv, none, none, none, none, none, none, none, none] ∧ LessAt K CH H' lv c0 (ds.map runD) ∧ RS6 K CH PT H p t r x l y o cs vs ds ys rs' H', ?_, ?_⟩
    · refine ⟨_, rfl, by show 3 ≤ sizeLine; omega, fun b nb => ⟨b, rfl, ⟨_, .of upd_same⟩, for_it (walk_tup (xs := [.int (far : Nat), .int 5, .int 9])) (fun m σ' H' => ∃ (x5 : Option V), σ' = [some (.ref p), some (.ref t), some (.ref r), some (.ref x), some (.ref l), x5, some (.ref y), some (.ref o), some (oneV c0), some (.int (far : Nat)), some lv, none, none, none, none, none, none, none, none] ∧ SqT K H' b [.int (far : Nat), .int 5, .int 9] ∧ LessAt K CH H' lv c0 (ds.map runD) ∧ RS6 K CH PT H p t r x l y o cs vs ds ys rs' H') ⟨_, rfl, .of upd_same, L8.same (same_upd nb), R8.same (same_upd nb)⟩ (fun m σ' H' _ hP => ?_) (fun m u σ' H' H'' hm hP hY => ?_) (fun σ' H' hP => ?_)⟩⟩
      · obtain ⟨_, _, h, _⟩ := hP
        exact h
      · obtain ⟨x59, rfl, bT, L9, R9⟩ := hP
        obtain ⟨eH, hx⟩ := hY
        subst H''
        have hu : ∃ m : Nat, u = .int (m : Nat) ∧ m ≤ 200 := by
          have := List.mem_of_getElem? hx
          rcases List.mem_cons.mp this with rfl | this
          · exact ⟨far, rfl, far2⟩
          rcases List.mem_cons.mp this with rfl | this
          · exact ⟨5, rfl, by omega⟩
          · rw [List.mem_singleton.mp this]
            exact ⟨9, rfl, by omega⟩
        obtain ⟨mm, rfl, m2⟩ := hu
        refine rd_count R9.st.ho m2 rfl rfl fun Ha sa => ?_
        refine rd_count (R9.same sa).hy m2 rfl rfl fun Hb sb => ⟨rfl, _, rfl, ite2 (fun e => ?_) (fun _ => ?_)⟩
        · rw [eback] at e
          simp at e
        have Rb := (R9.same sa).same sb
        have Lb := (L9.same sa).same sb
        have bb := same_tup sb (same_tup sa bT)
        refine rd_count Rb.st.ho m2 rfl rfl fun Hc sc => ?_
        refine rd_count (Rb.same sc).ho m2 rfl rfl fun Hd sd => ⟨rfl, _, rfl, ite2 (fun e => ?_) (fun _ => ?_)⟩
        · rw [eoth] at e
          simp at e
        have Rd' := (Rb.same sc).same sd
        have Ld := (Lb.same sc).same sd
        have bd := same_tup sd (same_tup sc bb)
        refine ⟨_, rfl, _, rfl, ite2 (fun e => ?_) (fun _ => ⟨_, rfl, bd, Ld, Rd'⟩)⟩
        rcases id Ld with ⟨g, ne, z, rfl, hz⟩ | ⟨_, rfl⟩
        · refine rd_count hz m2 rfl rfl fun He se => ?_
          refine rd_count (Rd'.same se).st.ho m2 rfl rfl fun Hf sf => ⟨_, _, rfl, rfl, _, rfl, ite2 (fun e => ?_) (fun _ => ⟨_, rfl, same_tup sf (same_tup se bd), (Ld.same se).same sf, (Rd'.same se).same sf⟩)⟩
          have e2 : Rd.cnt sgs (runsD ((barL [c0] (ds.map runD)).map dataR)) mm ≤ Rd.cnt sgs (runsD ds) mm := by
            show Rd.cnt sgs (((barL [c0] (ds.map runD)).map dataR).map runD) mm ≤ _
            rw [(data_runs (bars_ok rok)).2]
            exact cnt_bar_le sgs_nd good g mm
          have := of_decide_eq_true e
          omega
        · cases e
      · obtain ⟨x59, rfl, _, L9, R9⟩ := hP
        exact ⟨x59, rfl, L9, R9⟩
    rintro σ9 H9 ⟨x59, rfl, L9, R9⟩
    clear R8 L8 H8
    refine ⟨fun σ' H' => ∃ (x5 x11 : Option V), σ' = [some (.ref p), some (.ref t), some (.ref r), some (.ref x), some (.ref l), x5, some (.ref y), some (.ref o), some (oneV c0), some (.int (far : Nat)), some lv, x11, none, none, none, none, none, none, none] ∧ LessAt K CH H' lv c0 (ds.map runD) ∧ RS6 K CH PT H p t r x l y o cs vs ds ys rs' H', ?_, ?_⟩
    · refine ⟨5, rfl, by decide, by decide, for_range (lo := 0) (n := 5) (fun m σ' H' => ∃ (x5 x11 : Option V), σ' = [some (.ref p), some (.ref t), some (.ref r), some (.ref x), some (.ref l), x5, some (.ref y), some (.ref o), some (oneV c0), some (.int (far : Nat)), some lv, x11, none, none, none, none, none, none, none] ∧ LessAt K CH H' lv c0 (ds.map runD) ∧ RS6 K CH PT H p t r x l y o cs vs ds ys rs' H') ⟨_, _, rfl, L9, R9⟩ (fun m σ' H' hm hP => ?_) (fun σ' H' hP => hP)⟩
      obtain ⟨x5a, x11, rfl, La, Ra⟩ := hP
      refine ⟨fun σ' H' => ∃ (d : Addr), σ' = [some (.ref p), some (.ref t), some (.ref r), some (.ref x), some (.ref l), some (.int (0 + (m : Int))), some (.ref y), some (.ref o), some (oneV c0), some (.int (far : Nat)), some lv, some (.ref d), none, none, none, none, none, none, none] ∧ LessAt K CH H' lv c0 (ds.map runD) ∧ RS6 K CH PT H p t r x l y o cs vs ds ys rs' H' ∧ H' d = some (.lst ((dueL ys c0 m).map V.str)), ?_, ?_⟩
      · refine rd_fset (fun z => decide ((cd z).length = m) && !decide (c0 ∈ cd z)) Ra.el few (fun z hz H' R hR => ?_) (fun d H'' s'' nd' ed => ⟨d, rfl, La.same s'', Ra.same s'', ed⟩)
        have := len16 z hz
        refine ⟨_, rfl, z, rfl, by omega, _, rfl, rfl, _, rfl, ?_⟩
        rw [dec_len]
        refine ite2 (fun e => ?_) (fun e => ?_)
        · refine ⟨_, rfl, _, rfl, c0, z, rfl, rfl, _, rfl, ?_⟩
          rw [e] at hR
          exact hR
        · rw [Bool.eq_false_iff.mpr e] at hR
          exact hR
      rintro σb Hb ⟨d, rfl, Lb, Rb, ed⟩
      rcases id Lb with ⟨g, ne, z, rfl, hz⟩ | ⟨hn, rfl⟩
      · have hc : Rd.cnt sgs (runsD ((barL [c0] (ds.map runD)).map dataR)) m = (dueL ys c0 m).length := by
          show Rd.cnt sgs (((barL [c0] (ds.map runD)).map dataR).map runD) m = _
          rw [(data_runs (bars_ok rok)).2]
          exact (due_count fo rok l4 g (by omega)).symm
        refine ⟨_, rfl, _, rfl, ite2 (fun e => by cases e) (fun _ => ?_)⟩
        refine rd_count hz (m := m) (by omega) rfl (by rw [Int.zero_add]; rfl) fun Hc sc => ⟨_, rfl, d, _, rfl, .inl (.of (sc _ _ ed)), rfl, _, rfl, ite2 (fun e => ?_) (fun _ => ⟨_, _, rfl, Lb.same sc, Rb.same sc⟩)⟩
        rw [hc, List.length_map] at e
        simp at e
      · refine ⟨_, rfl, _, rfl, ite2 (fun _ => ?_) (fun e => absurd rfl e)⟩
        refine ⟨_, rfl, d, _, rfl, .inl (.of ed), rfl, _, rfl, ite2 (fun e => ?_) (fun _ => ⟨_, _, rfl, Lb, Rb⟩)⟩
        rw [List.length_map] at e
        have key : dueL ys c0 m = ([""] : List Str) := by
          cases g : gone [c0] (ds.map runD) with
          | true =>
            rw [due_gone fo g] at e
            simp at e
          | false =>
            have b0 : barL [c0] (ds.map runD) = [] := by
              rcases hn with h | h
              · rw [g] at h
                cases h
              · exact h
            have dn := due_none (m := m) fo g b0
            rw [dn] at e ⊢
            by_cases m0 : m = 0
            · rw [if_pos m0]
            · rw [if_neg m0] at e
              simp at e
        rw [key] at ed
        refine ⟨_, rfl, by show 1 ≤ sizeLine; omega, fun b nb => ⟨.list [.str ""], .list [.str ""], .lst (.of (same_upd nb _ _ ed)) (.cons (.str _) .nil), .lst (.of upd_same) (.cons (.str _) .nil), by decide +kernel, by decide +kernel, _, rfl, ite2 (fun e => ?_) (fun _ => ⟨_, _, rfl, Lb.same (same_upd nb), Rb.same (same_upd nb)⟩)⟩⟩
        exact absurd e (by decide +kernel)
    rintro σ10 H10 ⟨x5b, x11, rfl, L10, R10⟩
    clear R9 L9 H9
    refine ⟨fun σ' H' => ∃ (u : Addr), σ' = [some (.ref p), some (.ref t), some (.ref r), some (.ref x), some (.ref l), x5b, some (.ref y), some (.ref o), some (oneV c0), some (.int (far : Nat)), some lv, x11, some (.ref u), none, none, none, none, none, none] ∧ SqT K H' u ((keptL cs sgs').map oneV) ∧ RS6 K CH PT H p t r x l y o cs vs ds ys rs' H', ?_, ?_⟩
    · refine ⟨rfl, allSigns, rfl, fun D nD => lc_it (walk_str (z := allSigns)) (fun j H5 => Same H10 H5 ∧ H5 D = some (.lst ((keptL cs (sgs'.take j)).map oneV))) ⟨same_upd nD, upd_same⟩ (fun _ _ _ _ => trivial) (fun j v H5 H6 hj hP hY => ?_) (fun H5 hP => ?_)⟩
      · obtain ⟨s5, e5⟩ := hP
        obtain ⟨eH, c, hc, rfl⟩ := hY
        subst H6
        have hc' : sgs'[j]? = some c := by rw [Array.getElem?_toList]; exact hc
        have tk2 : sgs'.take (j + 1) = sgs'.take j ++ [c] := by rw [List.take_succ, hc']; rfl
        rw [tk2, keptL_snoc]
        refine ⟨rfl, _, rfl, _, rfl, t, _, rfl, .inr ((R10.same s5).st.sT.sq), rfl, flat_ones _, ?_⟩
        refine ⟨_, rfl, ?_⟩
        show (if (!inV (oneV c) (cs.map oneV)) = true then _ else _)
        rw [inV_one]
        have kl : (keptL cs (sgs'.take j)).length ≤ j := Nat.le_trans (List.length_filter_le _ _) (by rw [List.length_take]; omega)
        have j15 : j < 15 := hj
        refine ite2 (fun hc => ?_) (fun hc => ?_)
        · have hc2 : ¬ decide (c ∈ cs) = true := fun z => by rw [z] at hc; cases hc
          rw [if_neg hc2]
          refine ⟨_, rfl, _, e5, by rw [List.length_map]; omega, fun y o z => by rw [upd_ne (ne_of_none z nD)]; exact s5 _ _ z, ?_⟩
          rw [upd_same, List.map_append]
          rfl
        · have hc2 : decide (c ∈ cs) = true := by
            cases z : decide (c ∈ cs) with
            | true => rfl
            | false => rw [z] at hc; exact absurd rfl hc
          rw [if_pos hc2, List.append_nil]
          exact ⟨s5, e5⟩
      · obtain ⟨s5, e5⟩ := hP
        have e15 : sgs'.take allSigns.cps.size = sgs' := List.take_of_length_le (by rw [Array.length_toList]; omega)
        rw [e15] at e5
        refine ⟨D, _, rfl, .inl ⟨.of e5, fun tk nt => ⟨tk, rfl, .of upd_same, (R10.same s5).same (same_upd nt)⟩⟩⟩
    rintro σ11 H11 ⟨u, rfl, uT, R11⟩
    clear R10 L10
    refine ⟨fun σ' H' => ∃ (mo : Addr) (lo : Nat) (hi : Option Nat), σ' = [some (.ref p), some (.ref t), some (.ref r), some (.ref x), some (.ref l), x5b, some (.ref y), some (.ref o), some (oneV c0), some (.int (far : Nat)), some lv, x11, some (.ref u), some (.ref mo), none, none, none, none, none] ∧ lo ≤ 2 ∧ (hi = none ∨ hi = some 3) ∧ RunAt K H' (.ref mo) (moreR cs lo hi) ∧ RS6 K CH PT H p t r x l y o cs vs ds ys rs' H', ?_, ?_⟩
    · have k15 := kept_many nd
      have s2 : ∀ n : Nat, HT.sIx n n (some 2) = min 2 n := fun n => HT.sIx_nat n n 2
      have cutE : cutV ((keptL cs sgs').map oneV) none (some 2) = ((keptL cs sgs').take 2).map oneV := by
        rw [cutV_take, List.map_take, List.length_map]
        rw [s2, Nat.min_eq_left (by omega)]
      refine ⟨_, rfl, _, rfl, u, _, rfl, uT, fun z => ?_, fun _ a1 na => ?_⟩
      · exfalso
        have := z.2
        rw [List.length_map] at this
        rw [s2] at this
        omega
      rw [cutE]
      have Ra := R11.same (same_upd (o := .tup (((keptL cs sgs').take 2).map oneV)) na)
      obtain ⟨a6, b6, c6, hp6⟩ := Ra.st.dice
      refine ⟨_, rfl, p, a6, b6, c6, 3, rfl, hp6, wide_div (b := 8) (by decide) (by decide) (by decide) (by decide), fun a2 b2 c2 q0 h0 h3 => ?_⟩
      have kb : Keep p (upd H11 a1 (.tup (((keptL cs sgs').take 2).map oneV))) (upd (upd H11 a1 (.tup (((keptL cs sgs').take 2).map oneV))) p (dk a2 b2 c2)) := .dice a2 b2 c2
      have Rb := Ra.keep lp kb
      have ap : a1 ≠ p := Ra.st.dice.elim fun _ z => by
        have := R11.st.dice
        exact this.ne na
      have eb : upd (upd H11 a1 (.tup (((keptL cs sgs').take 2).map oneV))) p (dk a2 b2 c2) a1 = some (.tup (((keptL cs sgs').take 2).map oneV)) := kb.1 _ _ ap upd_same
      generalize upd (upd H11 a1 (.tup (((keptL cs sgs').take 2).map oneV))) p (dk a2 b2 c2) = Hb at Rb eb
      refine ⟨_, rfl, rd_draw (K := K) (p := p) (ds := [.none, .int 3]) (ev_cons ev_non (ev_cons ev_int ev_nil)) Rb.st.dice (by simp) (by decide) fun v d H' kk hv hd => ?_⟩
      have Rc := Rb.keep lp kk
      have ec := kk.1 _ _ ap eb
      have hh : ∃ hi, (hi = none ∨ hi = some 3) ∧ v = hiV hi := by
        rcases List.mem_cons.mp hd with rfl | hd
        · cases hv; exact ⟨none, .inl rfl, rfl⟩
        · rw [List.mem_singleton.mp hd] at hv
          cases hv; exact ⟨some 3, .inr rfl, rfl⟩
      obtain ⟨hi, hh, rfl⟩ := hh
      refine ⟨by show 3 ≤ sizeLine; omega, fun tt nt => ⟨tt, q0.toNat, hi, rfl, by omega, hh, ⟨tt, a1, rfl, ?_, .of (same_upd nt _ _ ec)⟩, Rc.same (same_upd nt)⟩⟩
      show SqT K _ tt [.ref a1, .int (((q0.toNat : Nat)) : Int), hiV hi]
      rw [Int.toNat_of_nonneg h0]
      exact .of upd_same
    rintro σ12 H12 ⟨mo, lo, hi, rfl, lo2, hh, rmo, R12⟩
    clear R11 uT
    have okm : RunOk (moreR cs lo hi) := more_ok nd c3 lo2 hh
    have outm : ∀ q ∈ ds.map runD, ∀ c ∈ q.signs, c ∉ (moreR cs lo hi).signs := fun q hq c hc z => more_out c z (rsub q hq c hc)
    refine ⟨fun σ' H' => ∃ x5 x14, σ' = [some (.ref p), some (.ref t), some (.ref r), some (.ref x), some (.ref l), x5, some (.ref y), some (.ref o), some (oneV c0), some (.int (far : Nat)), some lv, x11, some (.ref u), some (.ref mo), x14, none, none, none, none] ∧ RS6 K CH PT H p t r x l y o cs vs ds ys rs' H', ?_, ?_⟩
    · refine ⟨_, rfl, r, _, rfl, .inr R12.st.rT, _, _, rfl, rfl, _, rfl, ite2 (fun e4 => ?_) (fun _ => ⟨_, _, rfl, R12⟩)⟩
      have vl := R12.st.dv.length
      have l3 : (ds.map runD).length < 4 := by
        rw [List.length_map]
        have := of_decide_eq_true e4
        omega
      have lds : ds.length < 4 := by rwa [List.length_map] at l3
      obtain ⟨ma, ms1, em, hm1, hm2⟩ := rmo
      obtain rfl : mo = ma := by cases em; rfl
      have okw : ∀ q ∈ ds.map runD ++ [moreR cs lo hi], RunOk q := fun q hq => (List.mem_append.mp hq).elim (rok q) fun z => by rw [List.mem_singleton.mp z]; exact okm
      have edw : (ds.map runD ++ [moreR cs lo hi]).map dataR = ds ++ [dataR (moreR cs lo hi)] := by rw [List.map_append, rdat]; rfl
      have hdw : holeD (ds ++ [dataR (moreR cs lo hi)]) = true := by
        rw [← edw]
        exact holeD_of okw (by simp) (by rw [List.length_append]; show _ + 1 ≤ 4; omega)
      refine ⟨fun σ' H' => ∃ z, σ' = [some (.ref p), some (.ref t), some (.ref r), some (.ref x), some (.ref l), x5b, some (.ref y), some (.ref o), some (oneV c0), some (.int (far : Nat)), some lv, x11, some (.ref u), some (.ref mo), some (.ref z), none, none, none, none] ∧ RunAt K H' (.ref mo) (moreR cs lo hi) ∧ HoleAt K CH H' z (ds ++ [dataR (moreR cs lo hi)]) ∧ RS6 K CH PT H p t r x l y o cs vs ds ys rs' H', ?_, ?_⟩
      · refine ⟨_, rfl, _, rfl, by show 1 ≤ sizeLine; omega, fun b nb => ⟨r, b, vs, [.ref mo], rfl, rfl, same_tup (same_upd nb) R12.st.rT, .of upd_same, by show _ + 1 ≤ sizeLine; omega, fun z => ?_, fun _ z => (by cases z), fun _ _ w nw => ?_⟩⟩
        · rw [z, List.length_nil] at vl
          omega
        have sw := (same_upd (o := .tup [.ref mo]) nb).trans (same_upd (o := .tup (vs ++ [.ref mo])) nw)
        refine ⟨w, vs ++ [.ref mo], _, rfl, .of upd_same, DvAll.append (DvAll.same sw _ _ R12.st.dv) (.cons (dv_run (same_tup sw hm1) (same_tup sw hm2)) .nil), hole_bulk hdw, hdw, fun H6 z s6 nz hz => ⟨z, rfl, ⟨mo, ms1, rfl, same_tup (sw.trans s6) hm1, same_tup (sw.trans s6) hm2⟩, hz, R12.same (sw.trans s6)⟩⟩
      rintro σ13 H13 ⟨z, rfl, rm13, hz13, R13⟩
      refine ⟨by show 2 ≤ sizeLine; omega, fun b nb => ⟨b, rfl, ⟨_, .of upd_same⟩, for_it (walk_list (xs := [.int 6, .int 12])) (fun m σ' H' => ∃ x5, σ' = [some (.ref p), some (.ref t), some (.ref r), some (.ref x), some (.ref l), x5, some (.ref y), some (.ref o), some (oneV c0), some (.int (far : Nat)), some lv, x11, some (.ref u), some (.ref mo), some (.ref z), none, none, none, none] ∧ SqL K H' b [.int 6, .int 12] ∧ RunAt K H' (.ref mo) (moreR cs lo hi) ∧ HoleAt K CH H' z (ds ++ [dataR (moreR cs lo hi)]) ∧ RS6 K CH PT H p t r x l y o cs vs ds ys rs' H') ?_ (fun m σ' H' _ hP => ?_) (fun m v σ' H' H'' hm hP hY => ?_) (fun σ' H' hP => ?_)⟩⟩
      · obtain ⟨ma, ms2, em, h1, h2⟩ := rm13
        exact ⟨_, rfl, .of upd_same, ⟨ma, ms2, em, same_tup (same_upd nb) h1, same_tup (same_upd nb) h2⟩, hz13.same (same_upd nb), R13.same (same_upd nb)⟩
      · obtain ⟨_, _, h, _⟩ := hP
        exact h
      · obtain ⟨x5, rfl, bL, rmH, hzH, RH⟩ := hP
        obtain ⟨eH, hx⟩ := hY
        subst H''
        have hu : ∃ m : Nat, v = .int (m : Nat) ∧ m ≤ 12 := by
          have := List.mem_of_getElem? hx
          rcases List.mem_cons.mp this with rfl | this
          · exact ⟨6, rfl, by omega⟩
          · rw [List.mem_singleton.mp this]
            exact ⟨12, rfl, by omega⟩
        obtain ⟨mm, rfl, m12⟩ := hu
        have ez : runsD (ds ++ [dataR (moreR cs lo hi)]) = ds.map runD ++ [moreR cs lo hi] := by
          show (ds ++ [dataR (moreR cs lo hi)]).map runD = _
          rw [← edw]
          exact (data_runs okw).2
        refine rd_count hzH (m := mm) (by omega) rfl rfl fun Ha sa => ?_
        have toN : ((((mm : Nat) : Int) + 1)).toNat = mm + 1 := by omega
        refine ⟨_, rfl, _, _, rfl, rfl, _, rfl, by omega, by omega, fun D nD => lc_it (walk_range (lo := 0) (n := (((mm : Nat) : Int) + 1).toNat)) (fun j H5 => Same Ha H5 ∧ H5 D = some (.lst (((List.range j).map fun i => Rd.cnt sgs (runsD ds) i * ofRun (moreR cs lo hi) (mm - i)).map fun n => V.int ((n : Nat) : Int)))) ⟨same_upd nD, upd_same⟩ (fun _ _ _ _ => trivial) (fun j y5 H5 H6 hj hP hY => ?_) (fun H5 hP => ?_)⟩
        · obtain ⟨s5, e5⟩ := hP
          obtain ⟨rfl, rfl⟩ := hY
          have hj2 : j ≤ mm := by omega
          refine ⟨rfl, ?_⟩
          refine rd_count ((RH.same sa).same s5).st.ho (m := j) (by omega) rfl (by show some (some (V.int (0 + (j : Int)))) = _; rw [Int.zero_add]) fun H7 s7 => ?_
          have s17 := (sa.trans s5).trans s7
          obtain ⟨ma, ms2, em, h1, h2⟩ := id rmH
          refine ⟨_, rfl, _, rfl, _, rfl, _, _, rfl, rfl, .ref mo, moreR cs lo hi, mm - j, ?_, ⟨ma, ms2, em, same_tup s17 h1, same_tup s17 h2⟩, by omega, ?_, _, _, rfl, rfl, ?_, ?_⟩
          · show [V.ref mo, V.int (((mm : Nat) : Int) - (0 + (j : Int)))] = _
            rw [show ((mm : Nat) : Int) - (0 + (j : Int)) = ((mm - j : Nat) : Int) by omega]
          · exact Nat.le_trans (nodup_len (okm.asc.imp fun h => Nat.ne_of_lt h) (m := sgs') fun z hz => okm.sub z hz) (by rw [sgs_len]; decide)
          · refine .inl ?_
            have b1 : Rd.cnt sgs (runsD ds) j ≤ 15 ^ 12 := Nat.le_trans (cnt_bound _ _) (Nat.pow_le_pow_right (by decide) (by omega))
            have e12 : (15 : Nat) ^ 12 = 129746337890625 := by decide
            have e64 : (2 : Int) ^ 64 = 18446744073709551616 := by decide
            omega
          · rw [List.range_succ, List.map_append, List.map_append]
            refine ⟨_, s7 _ _ e5, by rw [List.length_map, List.length_map, List.length_range]; omega, fun y o z => by rw [upd_ne (ne_of_none z nD)]; exact s7 _ _ (s5 _ _ z), ?_⟩
            rw [upd_same]
            show _ = some (HO.lst (_ ++ [V.int ((Rd.cnt sgs (runsD ds) j * ofRun (moreR cs lo hi) (mm - j) : Nat) : Int)]))
            rw [Int.natCast_mul]
        · obtain ⟨s5, e5⟩ := hP
          rw [toN] at e5
          have s15 := sa.trans s5
          have R15 := RH.same s15
          obtain ⟨ma, ms2, em, h1, h2⟩ := id rmH
          refine ⟨D, ((List.range (mm + 1)).map fun i => Rd.cnt sgs (runsD ds) i * ofRun (moreR cs lo hi) (mm - i)).map fun n => ((n : Nat) : Int), rfl, .of (e5.trans (congrArg (fun z => some (HO.lst z)) (List.map_map (f := fun n : Nat => ((n : Nat) : Int)) (g := V.int)).symm)), ?_⟩
          rw [sum_cast, ez, cnt_wide rok l3 okm outm mm]
          refine ⟨rfl, _, rfl, ite2 (fun e => ?_) (fun _ => ⟨_, rfl, s15.seq bL, ⟨ma, ms2, em, same_tup s15 h1, same_tup s15 h2⟩, hzH.same s15, R15⟩)⟩
          exfalso
          have e2 : (!decide ((V.int ((((List.range (mm + 1)).map fun i => Rd.cnt sgs' (ds.map runD) i * ofRun (moreR cs lo hi) (mm - i)).sum : Nat) : Int)) = V.int ((((List.range (mm + 1)).map fun i => Rd.cnt sgs' (ds.map runD) i * ofRun (moreR cs lo hi) (mm - i)).sum : Nat) : Int))) = true := e
          rw [decide_eq_true rfl] at e2
          cases e2
      · obtain ⟨x5, rfl, bL, rmH, hzH, RH⟩ := hP
        exact ⟨_, _, rfl, RH⟩
    rintro σ14 H14 ⟨x5c, x14, rfl, R14⟩
    clear R12 rmo
    refine ⟨fun σ' H' => ∃ v d, σ' = [some (.ref p), some (.ref t), some (.ref r), some (.ref x), some (.ref l), x5c, some (.ref y), some (.ref o), some (oneV c0), some (.int (far : Nat)), some lv, x11, some (.ref u), some (.ref mo), x14, some v, none, none, none] ∧ Dv K H' v d ∧ d ∈ wrongs ∧ RS6 K CH PT H p t r x l y o cs vs ds ys rs' H', ?_, ?_⟩
    · refine ⟨_, rfl, rd_draw (K := K) (p := p) (ds := wrongs) (ev_cons ev_neg (ev_cons ev_int (ev_cons ev_bl (ev_cons ev_non (ev_cons ev_str (ev_cons (ev_pow ⟨by decide, by decide +kernel⟩) (ev_cons (ev_pow ⟨by decide, by decide +kernel⟩) (ev_cons (ev_tup ev_nil (by decide)) ev_nil)))))))) R14.st.dice (by simp [wrongs]) (by decide) fun v d H' kk hv hd => ⟨v, d, rfl, Dv.same hid_out _ _ hv, hd, R14.keep lp kk⟩⟩
    rintro σ15 H15 ⟨v, d, rfl, hv, hd, R15⟩
    obtain ⟨nonum, ft⟩ := wrong_ok hd
    refine ⟨_, rfl, _, rfl, x, v, ds, d, rfl, R15.st.ho, hv, fun z => (by rw [nonum] at z; cases z), fun _ H16 t1 s1 e1 => ⟨_, .tuple [.str "number", d], rfl, .tup (.of e1) (.cons (.str _) (.cons (hv.same' s1) .nil)), ft.fit, _, rfl, by show 2 ≤ sizeLine; omega, fun t2 nt2 => ⟨_, .tuple [.str "number", d], rfl, .tup (.of upd_same) (.cons (.str _) (.cons ((hv.same' s1).same' (same_upd nt2)) .nil)), ft.fit, rfl, ?_⟩⟩⟩
    rw [decide_eq_true rfl]
    exact q _ ((R15.same s1).same (same_upd nt2)).st.kn ((R15.same s1).same (same_upd nt2)).st.tab
end
end K0
end
/-! ### MH -/
section
set_option Elab.async false
set_option linter.all false
set_option maxRecDepth 100000
set_option maxHeartbeats 4000000
/-! Hole(..) with written runs. -/
namespace K0
open PySem PySem.Spec PyProof.Rows L2 Rd DN StX
abbrev spInit2 (K : PySem.W.Frag) (CH CE : Addr) : Sp := fun vs H Q E => ∃ ws rest, vs = ws ++ rest ∧ ws.length = 1 ∧ rest.length ≤ sizeLine ∧ ∀ p, H p = Option.none → spInit K CH CE (ws ++ [V.ref p]) (upd H p (.tup rest)) Q E
theorem make_hole {K : PySem.W.Frag} {CH CE : Addr} {H : Hp} {xs : List V} {ds : List PyData} {Q : VK} {E : XK} (hA : DvAll K H xs ds) (sz2 : PyData.bulkAll ds ≤ 100000) (good : holeD ds = true → ∀ H' x, Same H H' → H x = none → HoleAt K CH H' x ds → Q (.ref x) H')
    (bad : holeD ds = false → ∀ H', Same H H' → E (.ref CE) none H') : ∀ x dx, H x = Option.none → H dx = Option.none → dx ≠ x → spInit2 K CH CE (V.ref x :: xs) (upd (upd H dx (.own x)) x (.ins CH dx [])) (fun v H2 => v = .non ∧ Q (.ref x) H2) E := by
  intro x dx nx ndx ne
  have sl : sizeLine = 16777216 := sizeLine_eq
  have dl := bulk_len ds
  have xl := hA.length
  refine ⟨[.ref x], xs, rfl, rfl, by omega, fun p np => ?_⟩
  have s0 : Same H (upd (upd H dx (.own x)) x (.ins CH dx [])) := fun y o u => by
    rw [upd_ne (ne_of_none u nx), upd_ne (ne_of_none u ndx)]
    exact u
  have s1 := s0.trans (same_upd np (o := .tup xs))
  have xp : x ≠ p := ne_of_none upd_same np
  refine ⟨x, dx, p, xs, ds, rfl, by rw [upd_ne xp, upd_same], .of upd_same, DvAll.same s1 ds _ hA, sz2, fun ok H' t s2 nt rd => ⟨rfl, ?_⟩, fun no H' s2 => bad no H' (s1.trans s2)⟩
  have hx' : H' x = some (.ins CH dx []) := s2 _ _ (by rw [upd_ne xp, upd_same])
  have s3 : Same H (upd H' x (.ins CH dx [("_runs", .ref p), ("_reader", .ref t)])) := fun y o u => by
    rw [upd_ne (ne_of_none u nx)]
    exact s2 _ _ (s1 _ _ u)
  refine good ok _ x s3 nx ⟨dx, p, t, xs, upd_same, .of ?_, DvAll.same s3 ds _ hA, rd.keep fun y o u ho => ?_, ok⟩
  · rw [upd_ne xp.symm]
    exact s2 _ _ upd_same
  · rw [upd_ne (fun e => by
      rw [e, hx'] at u
      rcases ho with ⟨_, rfl⟩ | ⟨_, rfl⟩
      · cases u
      · cases u)]
    exact u
section
variable {K : PySem.W.Frag} {σ : L2.St}
def Ec1 (K : PySem.W.Frag) (σ : L2.St) (te : TE) (d : PyData) : Prop := ∀ H Q, (∀ x H', Same H H' → Dv K H' x d → Q x H') → te σ H Q
def EcN (K : PySem.W.Frag) (σ : L2.St) (ta : TA) (ds : List PyData) : Prop := ∀ H Q, (∀ xs H', Same H H' → DvAll K H' xs ds → Q xs H') → ta σ H Q
theorem ec_non : Ec1 K σ (tC .non) .none := fun H Q q => q _ H (Same.refl H) .non
theorem ec_int {i : Int} : Ec1 K σ (tC (.int i)) (.int i) := fun H Q q => q _ H (Same.refl H) (.int i)
theorem ec_str {z : Str} : Ec1 K σ (tC (.str z)) (.str z) := fun H Q q => q _ H (Same.refl H) (.str z)
theorem ec_nil : EcN K σ tNil [] := fun H Q q => q _ H (Same.refl H) .nil
theorem ec_cons {te : TE} {ta : TA} {d : PyData} {ds : List PyData} (h : Ec1 K σ te d) (g : EcN K σ ta ds) : EcN K σ (tCons te ta) (d :: ds) := fun H Q q =>
  h H _ fun x H1 e1 v1 => g H1 _ fun xs H2 e2 v2 => q _ H2 (e1.trans e2) (.cons (v1.same' e2) v2)
theorem ec_tup {ta : TA} {ds : List PyData} (g : EcN K σ ta ds) (hl : ds.length ≤ 1000) : Ec1 K σ (tTup ta) (.tuple ds) := fun H Q q =>
  g H _ fun xs H1 e1 v1 => ⟨by rw [v1.length]; exact Nat.le_of_lt (small1000 hl), fun a na => q _ _ (e1.trans (same_upd na)) (.tup (xs := xs) (.of upd_same) (DvAll.same (same_upd na) ds _ v1))⟩
end
theorem make_hole2 {K : PySem.W.Frag} {CH CE : Addr} {H : Hp} {xs : List V} {ds : List PyData} {G : Addr → Hp → Prop} {E : XK} (hA : DvAll K H xs ds) (sz2 : PyData.bulkAll ds ≤ 100000) (good : holeD ds = true → ∀ H' x, Same H H' → H x = none → HoleAt K CH H' x ds → G x H')
    (bad : holeD ds = false → ∀ H', Same H H' → E (.ref CE) none H') : ∀ x dx, H x = Option.none → H dx = Option.none → dx ≠ x → spInit2 K CH CE (V.ref x :: xs) (upd (upd H dx (.own x)) x (.ins CH dx [])) (fun v H2 => v = .non ∧ G x H2) E :=
  make_hole (Q := fun v H' => match v with | .ref x => G x H' | _ => False) hA sz2 good bad
theorem rd_make {K : PySem.W.Frag} {CH CE : Addr} {σ : L2.St} {H : Hp} {Q : VK} {ta : TA} {ds : List PyData} (ev : EcN K σ ta ds) (sz : PyData.bulkAll ds ≤ 100000) (ok : holeD ds = true) (good : ∀ H' x, Same H H' → HoleAt K CH H' x ds → Q (.ref x) H') :
    tMakeR CH (spInit2 K CH CE) (fun _ _ _ => False) ta σ H Q :=
  ev H _ fun xs H1 s1 v1 => make_hole v1 sz (fun _ H' x s' _ hx => good H' x (s1.trans s') hx) (fun no => absurd (ok.symm.trans no) (by decide))
end K0
end
/-! ### TS -/
section
set_option Elab.async false
set_option linter.all false
set_option maxRecDepth 100000
set_option maxHeartbeats 4000000
/-! tuple(text). -/
namespace K0
open PySem PySem.Spec PyProof.Rows L2
section
variable {prog : Program} {w : World} {A : Around} {E : Value → Shared → Prop} {s : Shared}
theorem code_tuple_new_str {Q₁ : Value → Shared → Prop} (hh : A.handled = none) (x : Str) (t : Tok) (hn : x.cps.size ≤ sizeLine)
    (h : ∀ (h' : Heap) (tk : Nat) (acc : Array Value), (∀ b o, s.heap.get? b = some o → h'.get? b = some o) → ItemsOf (SignAt x) acc x.cps.size →
      Q₁ (.ref h'.objs.size) { s with heap := h'.push { cls := .type "tuple", data := .seq acc }, toks := tk }) :
    codeAny (model prog w) A (.call (.builtin "tuple.__new__") ⟨[.type "tuple", .str x t], []⟩) (wants Q₁ E) s := by
  refine codeAny_of_tree ?_
  show wpAny _ A.in1 (do checkBuiltinCall "tuple.__new__" ⟨[.type "tuple", .str x t], []⟩; again (.builtin "tuple.__new__" ⟨[.type "tuple", .str x t], []⟩)) _ _ s
  refine wpAny_bind (wpAny_of_eq (F.newCall_tuple_1 _) (wpAny_pure ⟨plainId_quiet F.plain_tuple_new _, codeAny_builtin F.entry_tuple_new ?_⟩))
  rw [Around.under_plainId F.plain_tuple_new _]
  have hsub := sub_tuple_self
  have hinit := init_tuple_lookup
  have hmh := madeHere_tuple
  have hTI : s.TypeIs (.str x t) "str" := by first | rfl | exact ⟨rfl⟩ | trivial
  have hh1 : A.in1.handled = none := hh
  wp_walk using wpAny_typeOf hTI, wpAny_collect_str (A := A.in1) hh1 x t
  intro s' acc hk hg hd ho hi
  obtain ⟨h', g', d', t', o'⟩ := s'
  subst hg hd ho
  show wpAny _ _ (Builtin.Tuple.tupleExact acc.toList.toArray >>= fun v => ret v) _ _ _
  unfold Builtin.Tuple.tupleExact
  refine wpAny_bind (wpAny_newObj_type ?_ (by show acc.toList.toArray.size ≤ sizeLine; simp only [Array.toArray_toList]; rw [hi.1]; exact hn))
  refine wpAny_pure ?_
  have e : acc.toList.toArray = acc := by simp
  rw [e]
  exact h h' t' acc hk hi
theorem call_tuple_str {Q : Value → Shared → Prop} (hh : A.handled = none) (x : Str) (t : Tok) (hn : x.cps.size ≤ sizeLine)
    (h : ∀ (h' : Heap) (tk : Nat) (acc : Array Value), (∀ b o, s.heap.get? b = some o → h'.get? b = some o) → ItemsOf (SignAt x) acc x.cps.size →
      Q (.ref h'.objs.size) { s with heap := h'.push { cls := .type "tuple", data := .seq acc }, toks := tk }) :
    wpAny (model prog w) A (call (.type "tuple") [.str x t]) Q E s := by
  refine callType_codes (Q₁ := fun obj s₁ => s₁.TypeIs obj "tuple" ∧ Q obj s₁) F.called_tuple (F.typeCall_tuple_1 _) F.entry_object_init
    (code_tuple_new_str (A := A.in1) hh x t hn fun h' tk acc hk hacc => ⟨⟨_, Heap.get?_push_size _ rfl, rfl⟩, h h' tk acc hk hacc⟩) fun obj s₁ h₁ => ?_
  exact ⟨h₁.1, F.args_object_init_2 obj _, object_init_meets F.called_tuple.init.lookup F.called_tuple.made (by decide) prog w A.in1 _ s₁ ⟨h₁.1, rfl, h₁.2⟩⟩
end
section
variable {X : Cx}
theorem call_tuple_txt (hc : X.calm = true) : CallR X (.type "tuple") (fun xs H Q => ∃ z, xs = [.str z] ∧ z.length ≤ sizeLine ∧ ∀ l, H l = none → Q (.ref l) (upd H l (.tup (signsV z)))) := by
  intro pins s σ H xs us Q I r h
  obtain ⟨z, rfl, hz, q⟩ := h
  obtain ⟨u, rfl, t, rfl⟩ := vals1 r
  refine call_tuple_str (I.ok.hd hc) z t hz (fun h' tk acc kp it => ?_)
  have I1 : Inv X pins σ H { s with heap := h', toks := tk } := I.kept (t' := tk) kp
  have I2 : Inv X pins σ (upd H h'.objs.size (.tup (signsV z))) { s with heap := h'.push { cls := .type "tuple", data := .seq acc }, toks := tk } :=
    I1.laid (t' := tk) (fun b o e => Heap.get?_push_of_some _ e) (Nat.le_refl _) (show ObjOk X.prog X.w _ _ _ (.tup (signsV z)) from ⟨by unfold signsV; rw [List.length_map]; exact hz, acc.toList, signs_vals it, IsTup.new _ _⟩)
  exact ⟨.ref h'.objs.size, upd H h'.objs.size (.tup (signsV z)), I2, rfl, q _ (I1.hok.fresh (Nat.le_refl _))⟩
end
end K0
end
/-! ### LW -/
section
set_option Elab.async false
set_option linter.all false
set_option maxRecDepth 100000
set_option maxHeartbeats 4000000
/-! The law of k04. -/
namespace K0
open PySem PySem.Spec PyProof.Rows L2 Rd DN StX LamX TR
theorem isNum200 {m : Nat} (m2 : m ≤ 200) : isNumD 0 200 (.int (m : Nat)) = true := by
  show (decide ((0 : Int) ≤ ((m : Nat) : Int)) && decide (((m : Nat) : Int) ≤ 200)) = true
  rw [Bool.and_eq_true, decide_eq_true_iff, decide_eq_true_iff]
  omega
theorem rd_countC {K : PySem.W.Frag} {CH CN : Addr} {ds : List PyData} {H : Hp} {E : XK} {i m : Nat} {n : Int} {x : Addr} {σ : L2.St} {Q : VK} (hx : HoleAt K CH H x ds) (m2 : m ≤ 200) (ei : σ[i]? = some (some (.ref x))) (en : n = ((m : Nat) : Int)) (q : ∀ H', Same H H' → Q (.int (Rd.cnt sgs (runsD ds) m : Nat)) H') :
    tMeth CH "count" (spHCount K CH CN) [] E (tVar i) (tCons (tC (.int n)) tNil) σ H Q := by
  subst en
  obtain ⟨dx, p, t, xs, h1, h2⟩ := id hx
  refine ⟨_, ei, x, dx, _, rfl, h1, rfl, x, _, ds, .int (m : Nat), rfl, hx, .int _, fun _ H' s => ?_, fun z => by rw [isNum200 m2] at z; cases z⟩
  have e : numD (.int ((m : Nat) : Int)) = m := Int.toNat_natCast m
  rw [e]
  exact q H' s
theorem cons_i {te : TE} {ta : TA} {σ : L2.St} {H : Hp} {Q : List V → Hp → Prop} (h : te σ H fun x H1 => ta σ H1 fun xs H2 => Q (x :: xs) H2) : tCons te ta σ H Q := h
theorem par_i {i j : Nat} {ta : TA} {D : Ends} {σ : L2.St} {H : Hp} (h : ta σ H fun vs H1 => ∃ x y, vs = [x, y] ∧ D.nx ((σ.set i (some x)).set j (some y)) H1) : tPar i j ta D σ H := h
theorem sql_kn {K : PySem.W.Frag} {H H' : Hp} {a : Addr} {xs : List V} (h : SqL K H a xs) (k : ∀ o, H a = some o → (∀ ps, o ≠ .tbl ps) → H' a = some o) : SqL K H' a xs := by
  rcases h with (h | ⟨o, h⟩) | h
  · exact .inl (.inl (k _ h fun ps z => by cases z))
  · exact .inl (.inr ⟨o, k _ h fun ps z => by cases z⟩)
  · exact .inr h
theorem dvs_ones {K : PySem.W.Frag} {H : Hp} (z : Str) : DvAll K H (signsV z) (z.cps.toList.map fun c => .str ⟨#[c]⟩) := dv_ones (K := K) (H := H) z.cps.toList
def manyD : PyData := .tuple [.tuple (allSigns.cps.toList.map fun c => .str ⟨#[c]⟩), .int 0, .none]
def s1D : PyData := .tuple [.tuple [.str "a"], .int 0, .none]
def s2D : PyData := .tuple [.tuple [.str "a"], .int 1, .none]
def s3D : PyData := .tuple [.tuple [.str "a"], .int 0, .int 3]
def b1D : PyData := .tuple [.tuple [.str "a", .str "b"], .int 0, .none]
def b2D : PyData := .tuple [.tuple [.str "b"], .int 0, .none]
def b3D : PyData := .tuple [.tuple [.str "a", .str "b"], .int 0, .int 1]
def c1D : PyData := .tuple [.tuple [.str "0", .str "1"], .int 1, .int 2]
theorem ho_many : holeD [manyD] = true := by decide +kernel
theorem ho_same : holeD [s1D, s2D, s3D] = true := by decide +kernel
theorem ho_both : holeD [b1D, b2D, b3D] = true := by decide +kernel
theorem ho_code : holeD [c1D, s1D] = true := by decide +kernel
theorem rs_many : runsD [manyD] = [rMany] := rfl
theorem rs_same : runsD [s1D, s2D, s3D] = rSame := rfl
theorem rs_both : runsD [b1D, b2D, b3D] = rBoth := rfl
theorem rs_code : runsD [c1D, s1D] = rCode := rfl
def told1 : PyData := .list [.int ((15 ^ 200 : Nat) : Int), .int 1, .int 0, .int 1, .int 1]
theorem told1_sh : SeqAt.shaped told1 = true := by decide +kernel
theorem told1_eq : PyData.eqv told1 told1 = true := by decide +kernel
def told2 : PyData := .list [.int 1, .int 2, .int 32, .int ((2 ^ 150 : Nat) : Int), .int 0, .int 2, .int 6, .int 6, .int 6]
theorem told2_sh : SeqAt.shaped told2 = true := by decide +kernel
theorem told2_eq : PyData.eqv told2 told2 = true := by decide +kernel
def sizes : List Nat := [0, 1, 5, 150]
theorem codes_eq : ((List.range 5).map fun m => V.int ((Rd.cnt sgs rCode m : Nat) : Int)) = [.int 0, .int 2, .int 6, .int 6, .int 6] := by
  have h := congrArg (fun l : List Nat => l.map fun n => V.int ((n : Nat) : Int)) cnt_codes
  rw [List.map_map] at h
  exact h
theorem boths_eq : (sizes.map fun m => V.int ((Rd.cnt sgs rBoth m : Nat) : Int)) = [.int 1, .int 2, .int 32, .int ((2 ^ 150 : Nat) : Int)] := by
  rw [show (fun m => V.int ((Rd.cnt sgs rBoth m : Nat) : Int)) = fun m => V.int ((2 ^ m : Nat) : Int) from funext fun m => by rw [cnt_both]]
  rfl
theorem code_at {i : Nat} {n : Nat} (h : i < 5) (e : ([0, 2, 6, 6, 6] : List Nat)[i]? = some n) : Rd.cnt sgs rCode i = n := by
  have h2 : ((List.range 5).map (Rd.cnt sgs rCode))[i]? = some n := by
    rw [show (List.range 5).map (Rd.cnt sgs rCode) = [0, 2, 6, 6, 6] from cnt_codes]
    exact e
  rw [List.getElem?_map, List.getElem?_range h] at h2
  exact Option.some.inj h2
abbrev lawN : List Str := ["script", "at", "many", "same", "told", "both", "code", "size"]
theorem scLaw : FnScope lawN ["script"] (defScope (top iLaw)) := ⟨rfl, rfl, rfl, by decide +kernel, rfl, by decide +kernel, by decide +kernel⟩
def spLaw (K : PySem.W.Frag) (PT : Addr) : Sp := fun vs H Q _ => ∃ (p : Addr) (ns : List Int), vs = [.ref p] ∧ SqL K H p (ns.map V.int) ∧ Tabs [(PT, fillQ)] H ∧ ∀ H', Q (.bl true) H'
section
variable {P : Program} {w : World} {K : PySem.W.Frag} {mg : Str → Option Value} {base : Heap} {f fD fRi fA fC fN fP CH CE CN PT : Addr} {fd fdD fdRi fdA fdC fdP : FuncData}
theorem ok_law {n : Nat} (F : FnP K "law" iLaw f fd) (T : HoleM K CH) (mlen : mg "len" = none) (mrange : mg "range" = none) (mtuple : mg "tuple" = none) (mmax : mg "max" = none) (mmin : mg "min" = none)
    (gH : mg "Hole" = some (.ref CH)) (M : Mk K CH fN) (FN : FnR P w K mg base (L2.CX P w) (n + 4) fN (spInit2 K CH CE))
    (me : Meth K CH "count" fC) (FC : FnOk P w K mg base (L2.CX P w) (n + 3) fC fdC ["self", "many"] (spHCount K CH CN)) (bC : Binds K fdC ["self", "many"] [])
    (FA : FnOk P w K mg base CX0 (n + 2) fA fdA [] spAll) (gA : mg "_law_all_signs" = some (.ref fA)) (kA : PySem.W.keepIn K (.ref fA) = true) (bA : Binds K fdA [] [])
    (FP : FnOk P w K mg base CX0 (n + 1) fP fdP ["base", "size"] spPower) (gP : mg "_law_power" = some (.ref fP)) (kP : PySem.W.keepIn K (.ref fP) = true) (bP : Binds K fdP ["base", "size"] [])
    (FD : FnOk P w K mg base CX0 (n + 8) fD fdD ["script", "at"] (spDice K)) (gD : mg "_law_dice" = some (.ref fD)) (kD : PySem.W.keepIn K (.ref fD) = true) (bD : Binds K fdD ["script", "at"] [])
    (FRi : FnG P w K mg base CX0 (n + 8) fRi fdRi ["dice"] (spRight4 PT)) (gRi : mg "_law_right" = some (.ref fRi)) (kRi : PySem.W.keepIn K (.ref fRi) = true) (bRi : Binds K fdRi ["dice"] []) :
    FnG P w K mg base CX0 (n + 9) f fd ["script"] (spLaw K PT) := by
  refine fnG_ofC F scLaw (fun vs H Q E h => ?_) (fun cdv _ A outer s H vs Q E gd hr h => ?_)
  · obtain ⟨p, ns, rfl, _⟩ := h
    rfl
  · obtain ⟨p, ns, rfl, hS, tabs, q⟩ := h
    have hr1 := hr.mono (show n + 1 ≤ n + 8 by omega)
    have hr2 := hr.mono (show n + 2 ≤ n + 8 by omega)
    have hr3 := hr.mono (show n + 3 ≤ n + 8 by omega)
    have hr5 := hr.mono (show n + 5 ≤ n + 8 by omega)
    refine ⟨_, PSs.nox (C8.pss_cut (ps_for PassesOwn.never rfl (pi_range1 (by rfl) mrange (pa_cons (pe_callB (call_max2 rfl) (by rfl) mmax boot_max (pa_cons pe_int (pa_cons (pe_callB (call_min2 rfl) (by rfl) mmin boot_min (pa_cons pe_int (pa_cons (pe_callB call_len_seq (by rfl) mlen PySem.boot_len (pa_cons (pv 0) pa_nil)) pa_nil))) pa_nil))) pa_nil)) (pg_name (i := 1) scLaw.nd rfl (.inl rfl))
        (pss_one (ps_if (pt_not (pt_val (peG FRi gd hr (by rfl) gRi kRi bRi pass0 (pa_cons (pe_call FD hr (by rfl) gD kD bD .nil pass0 (pa_cons (pv 0) (pa_cons (pv 1) pa_nil))) pa_nil)))) (pss_one (ps_ret pe_bl)) pss_nil)))
      (C8.pss_cut (ps_par (i := 2) (j := 3) (by rfl) scLaw.nd rfl rfl (by decide) rfl rfl (pa_cons (pe_makeR (E := fun _ _ _ => False) M FN hr5 (by rfl) gH (passes_call L2.takes0 fun _ _ _ _ z => z) (pa_cons (pe_tup (pa_cons (pe_callTy (call_tuple_txt rfl) (by rfl) mtuple (by decide +kernel) (pa_cons (pe_call0 FA hr2 (by rfl) gA kA bA .nil pass0) pa_nil)) (pa_cons pe_int (pa_cons pe_non pa_nil)))) pa_nil))
        (pa_cons (pe_makeR (E := fun _ _ _ => False) M FN hr5 (by rfl) gH (passes_call L2.takes0 fun _ _ _ _ z => z) (pa_cons (pe_tup (pa_cons (pe_tup (pa_cons pe_str pa_nil)) (pa_cons pe_int (pa_cons pe_non pa_nil)))) (pa_cons (pe_tup (pa_cons (pe_tup (pa_cons pe_str pa_nil)) (pa_cons pe_int (pa_cons pe_non pa_nil)))) (pa_cons (pe_tup (pa_cons (pe_tup (pa_cons pe_str pa_nil)) (pa_cons pe_int (pa_cons pe_int pa_nil)))) pa_nil)))) pa_nil)) (by rfl))
      (C8.pss_cut (ps_set (i := 4) scLaw.nd rfl (.inl rfl) (pe_lst (pa_cons (pe_meth (E := fun _ _ _ => False) (pv 2) T.cl me FC hr3 bC .nil (passes_call L2.takes0 fun _ _ _ _ z => z) (pa_cons pe_int pa_nil)) (pa_cons (pe_meth (E := fun _ _ _ => False) (pv 2) T.cl me FC hr3 bC .nil (passes_call L2.takes0 fun _ _ _ _ z => z) (pa_cons pe_int pa_nil)) (pa_cons (pe_meth (E := fun _ _ _ => False) (pv 3) T.cl me FC hr3 bC .nil (passes_call L2.takes0 fun _ _ _ _ z => z) (pa_cons pe_int pa_nil)) (pa_cons (pe_meth (E := fun _ _ _ => False) (pv 3) T.cl me FC hr3 bC .nil (passes_call L2.takes0 fun _ _ _ _ z => z) (pa_cons pe_int pa_nil)) (pa_cons (pe_meth (E := fun _ _ _ => False) (pv 3) T.cl me FC hr3 bC .nil (passes_call L2.takes0 fun _ _ _ _ z => z) (pa_cons pe_int pa_nil)) pa_nil)))))))
      (C8.pss_cut (ps_if (pt_cmpR (op_neD hr.units) (pv 4) (pe_lst (pa_cons (pe_call FP hr1 (by rfl) gP kP bP .nil pass0 (pa_cons pe_int (pa_cons pe_int pa_nil))) (pa_cons pe_int (pa_cons pe_int (pa_cons pe_int (pa_cons pe_int pa_nil)))))) (nomark _)) (pss_one (ps_ret pe_bl)) pss_nil)
      (C8.pss_cut (ps_set (i := 5) scLaw.nd rfl (.inr rfl) (pe_makeR (E := fun _ _ _ => False) M FN hr5 (by rfl) gH (passes_call L2.takes0 fun _ _ _ _ z => z) (pa_cons (pe_tup (pa_cons (pe_tup (pa_cons pe_str (pa_cons pe_str pa_nil))) (pa_cons pe_int (pa_cons pe_non pa_nil)))) (pa_cons (pe_tup (pa_cons (pe_tup (pa_cons pe_str pa_nil)) (pa_cons pe_int (pa_cons pe_non pa_nil)))) (pa_cons (pe_tup (pa_cons (pe_tup (pa_cons pe_str (pa_cons pe_str pa_nil))) (pa_cons pe_int (pa_cons pe_int pa_nil)))) pa_nil)))))
      (C8.pss_cut (ps_set (i := 6) scLaw.nd rfl (.inr rfl) (pe_makeR (E := fun _ _ _ => False) M FN hr5 (by rfl) gH (passes_call L2.takes0 fun _ _ _ _ z => z) (pa_cons (pe_tup (pa_cons (pe_tup (pa_cons pe_str (pa_cons pe_str pa_nil))) (pa_cons pe_int (pa_cons pe_int pa_nil)))) (pa_cons (pe_tup (pa_cons (pe_tup (pa_cons pe_str pa_nil)) (pa_cons pe_int (pa_cons pe_non pa_nil)))) pa_nil))))
      (C8.pss_cut (ps_set (i := 4) scLaw.nd rfl (.inl rfl) (pe_op op_cat
          (pe_lc (own := [("size", 7)]) (g := gName 7) (tt := tYes) (te := tMeth CH "count" (spHCount K CH CN) [] (fun _ _ _ => False) (tVar 5) (tCons (tVar 7) tNil)) rfl scLaw.nd (pi_tup (pe_tup (pa_cons pe_int (pa_cons pe_int (pa_cons pe_int (pa_cons pe_int pa_nil)))))) (blkOk_by (N := lawN) (sc := defScope (top iLaw)) (by decide +kernel))
            (fun _ _ _ _ _ => pg_name (i := 7) scLaw.nd rfl (Or.inl rfl)) (fun _ _ _ _ _ => pts_nil) (fun _ _ _ _ _ => pe_meth (E := fun _ _ _ => False) (pv 5) T.cl me FC hr3 bC .nil (passes_call L2.takes0 fun _ _ _ _ z => z) (pa_cons (pv 7) pa_nil)))
          (pe_lc (own := [("size", 7)]) (g := gName 7) (tt := tYes) (te := tMeth CH "count" (spHCount K CH CN) [] (fun _ _ _ => False) (tVar 6) (tCons (tVar 7) tNil)) rfl scLaw.nd (pi_range1 (by rfl) mrange (pa_cons pe_int pa_nil)) (blkOk_by (N := lawN) (sc := defScope (top iLaw)) (by decide +kernel))
            (fun _ _ _ _ _ => pg_name (i := 7) scLaw.nd rfl (Or.inl rfl)) (fun _ _ _ _ _ => pts_nil) (fun _ _ _ _ _ => pe_meth (E := fun _ _ _ => False) (pv 6) T.cl me FC hr3 bC .nil (passes_call L2.takes0 fun _ _ _ _ z => z) (pa_cons (pv 7) pa_nil)))))
      (pss_one (ps_ret (pe_cmpR (op_eqD hr.units) (pv 4) (pe_lst (pa_cons pe_int (pa_cons pe_int (pa_cons pe_int (pa_cons (pe_call FP hr1 (by rfl) gP kP bP .nil pass0 (pa_cons pe_int (pa_cons pe_int pa_nil))) (pa_cons pe_int (pa_cons pe_int (pa_cons pe_int (pa_cons pe_int (pa_cons pe_int pa_nil)))))))))) (nomark _))))))))))), ?_⟩
    have sl : sizeLine = 16777216 := sizeLine_eq
    refine ⟨fun σ' H' => ∃ a1, σ' = [some (.ref p), a1, none, none, none, none, none, none], ?_, ?_⟩
    · refine ⟨_, rfl, p, _, rfl, .inl hS, _, _, rfl, _, _, rfl, ?_⟩
      have bd : ∀ m : Int, -(2 ^ 62) ≤ (if (if m < 4 then m else 4) > 1 then (if m < 4 then m else 4) else 1) ∧ (if (if m < 4 then m else 4) > 1 then (if m < 4 then m else 4) else 1) < (2 : Int) ^ 62 := fun m => by
        have e2 : (2 : Int) ^ 62 = 4611686018427387904 := by decide
        split <;> (try split) <;> omega
      refine ⟨_, rfl, (bd _).1, (bd _).2, for_range (lo := 0) (fun i σ' H' => ∃ a1, σ' = [some (.ref p), a1, none, none, none, none, none, none] ∧ SqL K H' p (ns.map V.int) ∧ Tabs [(PT, fillQ)] H') ⟨_, rfl, hS, tabs⟩ (fun i σ' H' hi hP => ?_) (fun σ' H' hP => ?_)⟩
      · obtain ⟨a1, rfl, hS', tb'⟩ := hP
        refine ⟨_, rfl, _, rfl, p, ns, i, by rw [Int.zero_add]; rfl, hS', fun d x y z nd => ⟨d, x, y, z, rfl, upd_same, tb'.ext (same_upd nd), fun H3 kn tb => ⟨true, rfl, ite2 (fun e => by cases e) (fun _ => ⟨_, rfl, ?_, tb⟩)⟩⟩⟩
        refine sql_kn hS' fun o e nt => ?_
        have pd := ne_of_none e nd
        exact kn _ _ pd nt (by rw [upd_ne pd]; exact e)
      · obtain ⟨a1, rfl, _⟩ := hP
        exact ⟨_, rfl⟩
    rintro σ1 H1 ⟨a1, rfl⟩
    -- many, same
    refine ⟨fun σ' H' => ∃ x y, σ' = [some (.ref p), a1, some (.ref x), some (.ref y), none, none, none, none] ∧ HoleAt K CH H' x [manyD] ∧ HoleAt K CH H' y [s1D, s2D, s3D], ?_, ?_⟩
    · refine par_i (cons_i ?_)
      refine rd_make (ds := [manyD]) (ec_cons (ec_tup (ec_cons (fun H Q q => ?_) (ec_cons ec_int (ec_cons ec_non ec_nil))) (Nat.le_of_ble_eq_true rfl)) ec_nil) (by decide +kernel) ho_many fun H2 x s2 hx => ?_
      · exact ⟨rfl, allSigns, rfl, by decide +kernel, fun l nl => q _ _ (same_upd nl) (.tup (.of upd_same) (dvs_ones allSigns))⟩
      refine cons_i ?_
      refine rd_make (ds := [s1D, s2D, s3D]) (ec_cons (ec_tup (ec_cons (ec_tup (ec_cons ec_str ec_nil) (by decide)) (ec_cons ec_int (ec_cons ec_non ec_nil))) (by decide)) (ec_cons (ec_tup (ec_cons (ec_tup (ec_cons ec_str ec_nil) (by decide)) (ec_cons ec_int (ec_cons ec_non ec_nil))) (by decide)) (ec_cons (ec_tup (ec_cons (ec_tup (ec_cons ec_str ec_nil) (by decide)) (ec_cons ec_int (ec_cons ec_int ec_nil))) (by decide)) ec_nil))) (by decide +kernel) ho_same fun H3 y s3 hy => ⟨_, _, rfl, x, y, rfl, hx.same s3, hy⟩
    rintro σ2 H2 ⟨x, y, rfl, hx, hy⟩
    -- told
    refine ⟨fun σ' H' => ∃ l, σ' = [some (.ref p), a1, some (.ref x), some (.ref y), some (.ref l), none, none, none] ∧ H' l = some (.lst [.int ((15 ^ 200 : Nat) : Int), .int 1, .int 0, .int 1, .int 1]), ?_, ?_⟩
    · refine rd_countC (m := 200) hx (by decide) rfl rfl fun H3 s3 => ?_
      refine rd_countC (m := 0) (hx.same s3) (by decide) rfl rfl fun H4 s4 => ?_
      have s34 := s3.trans s4
      refine rd_countC (m := 0) (hy.same s34) (by decide) rfl rfl fun H5 s5 => ?_
      have s35 := s34.trans s5
      refine rd_countC (m := 1) (hy.same s35) (by decide) rfl rfl fun H6 s6 => ?_
      have s36 := s35.trans s6
      refine rd_countC (m := 200) (hy.same s36) (by decide) rfl rfl fun H7 s7 => ⟨by show 5 ≤ sizeLine; omega, fun l nl => ⟨l, rfl, ?_⟩⟩
      rw [upd_same, rs_many, rs_same, cnt_many, cnt_many, cnt_same, cnt_same, cnt_same]
      rfl
    rintro σ3 H3 ⟨l, rfl, el⟩
    refine ⟨fun σ' H' => σ' = [some (.ref p), a1, some (.ref x), some (.ref y), some (.ref l), none, none, none], ?_, ?_⟩
    · refine ⟨_, rfl, 15, 200, rfl, by decide, by decide, by show 5 ≤ sizeLine; omega, fun m nm => ⟨told1, told1, .lst (.of (same_upd nm _ _ el)) (.cons (.int _) (.cons (.int _) (.cons (.int _) (.cons (.int _) (.cons (.int _) .nil))))), .lst (.of upd_same) (.cons (.int _) (.cons (.int _) (.cons (.int _) (.cons (.int _) (.cons (.int _) .nil))))), told1_sh, told1_sh, _, rfl, ?_⟩⟩
      rw [told1_eq]
      exact ite2 (fun z => by cases z) (fun _ => rfl)
    rintro σ4 H4 rfl
    refine ⟨fun σ' H' => ∃ b, σ' = [some (.ref p), a1, some (.ref x), some (.ref y), some (.ref l), some (.ref b), none, none] ∧ HoleAt K CH H' b [b1D, b2D, b3D], ?_, ?_⟩
    · show tMakeR CH (spInit2 K CH CE) (fun _ _ _ => False) _ _ _ _
      exact rd_make (ds := [b1D, b2D, b3D]) (ec_cons (ec_tup (ec_cons (ec_tup (ec_cons ec_str (ec_cons ec_str ec_nil)) (by decide)) (ec_cons ec_int (ec_cons ec_non ec_nil))) (by decide)) (ec_cons (ec_tup (ec_cons (ec_tup (ec_cons ec_str ec_nil) (by decide)) (ec_cons ec_int (ec_cons ec_non ec_nil))) (by decide)) (ec_cons (ec_tup (ec_cons (ec_tup (ec_cons ec_str (ec_cons ec_str ec_nil)) (by decide)) (ec_cons ec_int (ec_cons ec_int ec_nil))) (by decide)) ec_nil))) (by decide +kernel) ho_both fun H5 b s5 hb => ⟨b, rfl, hb⟩
    rintro σ5 H5 ⟨b, rfl, hb⟩
    refine ⟨fun σ' H' => ∃ c, σ' = [some (.ref p), a1, some (.ref x), some (.ref y), some (.ref l), some (.ref b), some (.ref c), none] ∧ HoleAt K CH H' b [b1D, b2D, b3D] ∧ HoleAt K CH H' c [c1D, s1D], ?_, ?_⟩
    · show tMakeR CH (spInit2 K CH CE) (fun _ _ _ => False) _ _ _ _
      exact rd_make (ds := [c1D, s1D]) (ec_cons (ec_tup (ec_cons (ec_tup (ec_cons ec_str (ec_cons ec_str ec_nil)) (by decide)) (ec_cons ec_int (ec_cons ec_int ec_nil))) (by decide)) (ec_cons (ec_tup (ec_cons (ec_tup (ec_cons ec_str ec_nil) (by decide)) (ec_cons ec_int (ec_cons ec_non ec_nil))) (by decide)) ec_nil)) (by decide +kernel) ho_code fun H6 c s6 hc => ⟨c, rfl, hb.same s6, hc⟩
    rintro σ6 H6 ⟨c, rfl, hb6, hc6⟩
    refine ⟨fun σ' H' => ∃ l2, σ' = [some (.ref p), a1, some (.ref x), some (.ref y), some (.ref l2), some (.ref b), some (.ref c), none] ∧ H' l2 = some (.lst [.int 1, .int 2, .int 32, .int ((2 ^ 150 : Nat) : Int), .int 0, .int 2, .int 6, .int 6, .int 6]), ?_, ?_⟩
    · refine ⟨by show 4 ≤ sizeLine; omega, fun tt nt => ⟨tt, rfl, ⟨_, .of upd_same⟩, fun D nD => ?_⟩⟩
      have sT : Same H6 (upd H6 tt (.tup (sizes.map fun m => V.int ((m : Nat) : Int)))) := same_upd nt
      refine lc_it (walk_tup (xs := sizes.map fun m => V.int ((m : Nat) : Int))) (fun j H' => Same (upd H6 tt (.tup (sizes.map fun m => V.int ((m : Nat) : Int)))) H' ∧ H' D = some (.lst ((sizes.take j).map fun m => V.int ((Rd.cnt sgs rBoth m : Nat) : Int)))) ⟨same_upd nD, upd_same⟩ (fun j H' _ hP => same_tup hP.1 (.of upd_same)) (fun j v H' H'' hj hP hY => ?_) (fun H' hP => ?_)
      · obtain ⟨s', e'⟩ := hP
        obtain ⟨eH, hx⟩ := hY
        subst H''
        have hj2 : j < sizes.length := by rw [List.length_map] at hj; exact hj
        rw [List.getElem?_map, List.getElem?_eq_getElem hj2] at hx
        have tk : sizes.take (j + 1) = sizes.take j ++ [sizes[j]] := by rw [List.take_succ, List.getElem?_eq_getElem hj2]; rfl
        have mem := List.getElem_mem hj2
        rw [tk, List.map_append]
        generalize sizes[j] = m at hx mem
        obtain rfl : V.int ((m : Nat) : Int) = v := Option.some.inj hx
        have m2 : m ≤ 200 := (by decide : ∀ m ∈ sizes, m ≤ 200) m mem
        refine ⟨rfl, rd_count ((hb6.same sT).same s') m2 rfl rfl fun H8 s8 => ⟨_, s8 _ _ e', by rw [List.length_map, List.length_take]; have : sizes.length = 4 := rfl; omega, fun y o z => by rw [upd_ne (ne_of_none z nD)]; exact s8 _ _ (s' _ _ z), ?_⟩⟩
        rw [upd_same, rs_both]
        rfl
      · obtain ⟨s', e'⟩ := hP
        have sH := sT.trans s'
        refine ⟨_, rfl, by decide, by decide, fun D2 nD2 => ?_⟩
        refine lc_it (walk_range (lo := 0) (n := (5 : Int).toNat)) (fun j H'' => Same H' H'' ∧ H'' D2 = some (.lst ((List.range j).map fun m => V.int ((Rd.cnt sgs rCode m : Nat) : Int)))) ⟨same_upd nD2, upd_same⟩ (fun _ _ _ _ => trivial) (fun j v H8 H9 hj hP hY => ?_) (fun H8 hP => ?_)
        · obtain ⟨s8, e8⟩ := hP
          obtain ⟨rfl, rfl⟩ := hY
          have j5 : j < 5 := hj
          rw [List.range_succ, List.map_append]
          refine ⟨rfl, rd_count ((hc6.same sH).same s8) (m := j) (by omega) rfl (by show some (some (V.int (0 + (j : Int)))) = _; rw [Int.zero_add]) fun H10 s10 => ⟨_, s10 _ _ e8, by rw [List.length_map, List.length_range]; omega, fun y o z => by rw [upd_ne (ne_of_none z nD2)]; exact s10 _ _ (s8 _ _ z), ?_⟩⟩
          rw [upd_same, rs_code]
          rfl
        · obtain ⟨s8, e8⟩ := hP
          refine ⟨D, D2, _, _, rfl, rfl, s8 _ _ e', e8, by rw [sl]; exact (by decide : (9 : Nat) ≤ 16777216), fun l2 nl2 => ⟨l2, rfl, ?_⟩⟩
          rw [upd_same]
          show some (HO.lst ((sizes.map fun m => V.int ((Rd.cnt sgs rBoth m : Nat) : Int)) ++ ((List.range 5).map fun m => V.int ((Rd.cnt sgs rCode m : Nat) : Int)))) = _
          rw [codes_eq, boths_eq]
          rfl
    rintro σ7 H7 ⟨l2, rfl, e2⟩
    refine ⟨_, rfl, 2, 150, rfl, by decide, by decide, by show 9 ≤ sizeLine; omega, fun m nm => ⟨told2, told2, .lst (.of (same_upd nm _ _ e2)) (.cons (.int _) (.cons (.int _) (.cons (.int _) (.cons (.int _) (.cons (.int _) (.cons (.int _) (.cons (.int _) (.cons (.int _) (.cons (.int _) .nil))))))))), .lst (.of upd_same) (.cons (.int _) (.cons (.int _) (.cons (.int _) (.cons (.int _) (.cons (.int _) (.cons (.int _) (.cons (.int _) (.cons (.int _) (.cons (.int _) .nil))))))))), told2_sh, told2_sh, ?_⟩⟩
    rw [told2_eq]
    exact q _
end
end K0
end
/-! ### HK -/
section
set_option Elab.async false
set_option linter.all false
set_option maxRecDepth 100000
set_option maxHeartbeats 0
/-! What heads of laws over holes tell: rows of the class, side facts, own exceptions with an __init__. -/
namespace K0
open PySem PySem.Spec PyProof.Rows L2 Rd DN StX
def dfr (m q : Str) (j : Nat) : He.DefD := ⟨("Hole", some m), m, q, defArgs (hrow j), defBody (hrow j), defScope (hrow j), [], []⟩
def clsBody0 (s : Stmt) : Stmt := match s with
  | .ClassDef _ _ _ b _ _ _ _ _ _ _ => b.getD 0 (.Pass ⟨0, 0, 0, 0⟩)
  | _ => .Pass ⟨0, 0, 0, 0⟩
def xrow (i : Nat) : Stmt := clsBody0 (top i)
def dfx (c q : Str) (i : Nat) : He.DefD := ⟨(c, some "__init__"), "__init__", q, defArgs (xrow i), defBody (xrow i), defScope (xrow i), [], []⟩
def hM (K : PySem.W.Frag) (m : Str) : Addr := He.ma K (He.ga K "Hole") m
def gOf (K : PySem.W.Frag) (m : Str) (kind : String) : Addr := match PySem.W.recIn K (hM K m) kind with
  | some (.ref g :: _) => g
  | _ => 0
def tys : List String := ["NoneType", "bool", "int", "str", "list", "tuple", "dict"]
theorem dty_mem (d : PyData) : dty d ∈ tys := by
  cases d <;> simp [dty, tys]
def ownB (K : PySem.W.Frag) (m : Str) : Bool := He.eqO (PySem.W.findIn K (.ref (He.ga K "Hole")) m) (some (some (.ref (hM K m)))) && PySem.W.isFn K (.ref (hM K m))
def propB (K : PySem.W.Frag) (m : Str) : Bool := He.eqO (PySem.W.findIn K (.ref (He.ga K "Hole")) m) (some (some (.ref (hM K m)))) && (He.eqO (PySem.W.specialIn K (.ref (hM K m)) "__get__") (some (some (.builtin "property.__get__"))) && (decide (PySem.W.takesIn K (.ref (hM K m)) = some true) &&
  (match PySem.W.recIn K (hM K m) "property" with
  | some (.ref _ :: _) => true
  | _ => false)))
def methB (K : PySem.W.Frag) (m : Str) : Bool := PySem.W.readsIn K (He.ga K "Hole") (.type "type") && (He.eqO (PySem.W.specialIn K (.ref (He.ga K "Hole")) "__getattribute__") (some (some (.builtin "type.__getattribute__"))) && ((match PySem.W.findCls K (.ref (He.ga K "Hole")) (.type "type") m with
  | some (.get (.builtin b) (.ref p) .none (.ref c)) => decide (b = "classmethod.__get__") && (decide (p = hM K m) && decide (c = He.ga K "Hole"))
  | _ => false) && ((match PySem.W.recIn K (hM K m) "classmethod" with
  | some (.ref _ :: _) => true
  | _ => false) && PySem.W.fnIn K (gOf K m "classmethod"))))
def sideB (K : PySem.W.Frag) : Bool := He.eqO (PySem.W.findIn K (.ref (He.ga K "Hole")) "__class__") (some (some (.builtin "object.__class__"))) && (He.eqO (PySem.W.specialIn K (.builtin "object.__class__") "__get__") (some (some (.builtin "getset_descriptor.__get__"))) && (decide (PySem.W.takesIn K (.builtin "object.__class__") = some true) &&
  (decide (PySem.W.mroIn K (He.ga K "Hole") (.type "object") = some true) && (decide (PySem.W.kitOne K (.ref (He.ga K "Hole")) (.ref (He.ga K "Hole")) = some true) && ((tys.all fun n => decide (PySem.W.kitOne K (.type n) (.ref (He.ga K "Hole")) = some false) && PySem.W.notFirst K (He.ga K "Hole") (.type n)) &&
  (He.eqO (PySem.W.findIn K (.ref (He.ga K "Hole")) "__ne__") (some (some (.builtin "object.__ne__"))) && decide (PySem.W.kitOne K (.ref (He.ga K "Hole")) (.type "tuple") = some false)))))))
def fnWa (K : PySem.W.Frag) (a : Addr) : He.FnW := match K.lookup a with
  | some ⟨_, _, .func fd, _⟩ => some (fd.name, fd.qualname, fd.params, fd.body, fd.scope, fd.globals, fd.closure, fd.builtins)
  | _ => none
def okAt (K : PySem.W.Frag) (a : Addr) (d : He.DefD) : Bool := PySem.W.keepIn K (.ref a) && (match K.lookup a with
  | some ⟨_, _, .func fd, _⟩ => PySem.W.codeIn K fd.code d.qual && (He.dflB K fd.defaults (d.dvs K) && He.kwdB K fd.kwdefaults (d.kws K))
  | _ => false)
theorem funA {K : PySem.W.Frag} {a : Addr} {d : He.DefD} (e : fnWa K a = d.val) (c : okAt K a d = true) : ∃ fd, FunD K d.name d.qual d.params d.body d.scope (d.dvs K) (d.kws K) a fd := by
  obtain ⟨kp, c2⟩ := He.ba c
  unfold fnWa at e
  cases q : K.lookup a with
  | none =>
    rw [q] at c2
    cases c2
  | some o =>
    obtain ⟨oc, od, dt, osl⟩ := o
    rw [q] at c2 e
    cases dt with
    | func fd =>
      obtain ⟨n1, n2, n3, n4, n5, n6, n7, n8, n9, n10, n11, n12, n13, n14, n15⟩ := fd
      have e2 : (some (n1, n2, n3, n4, n5, n6, n7, n15) : He.FnW) = some (d.name, d.qual, d.params, .stmts d.body, d.scope, mainGlobals, [], builtinsNs) := e
      simp only [Option.some.injEq, Prod.mk.injEq] at e2
      obtain ⟨h1, h2, h3, h4, h5, h6, h7, h8⟩ := e2
      subst h1 h2 h3 h4 h5 h6 h7 h8
      have c3 : (PySem.W.codeIn K n13 d.qual && (He.dflB K n8 (d.dvs K) && He.kwdB K n9 (d.kws K))) = true := c2
      obtain ⟨k1, k2⟩ := He.ba c3
      obtain ⟨k3, k4⟩ := He.ba k2
      exact ⟨_, ⟨oc, od, n8, n9, n10, n11, n12, n13, n14, osl, rfl, q, k1, He.dflB_ok k3, He.kwdB_ok k4⟩, kp⟩
    | _ => cases c2
theorem side_tys {K : PySem.W.Frag} (oSide : sideB K = true) (d : PyData) : PySem.W.kitOne K (.type (dty d)) (.ref (He.ga K "Hole")) = some false ∧ PySem.W.notFirst K (He.ga K "Hole") (.type (dty d)) = true := by
  unfold sideB at oSide
  obtain ⟨sd1, oSide⟩ := He.ba oSide
  obtain ⟨sd2, oSide⟩ := He.ba oSide
  obtain ⟨sd3, oSide⟩ := He.ba oSide
  obtain ⟨sd4, oSide⟩ := He.ba oSide
  obtain ⟨sd5, oSide⟩ := He.ba oSide
  obtain ⟨sd6, oSide⟩ := He.ba oSide
  obtain ⟨z1, z2⟩ := He.ba (List.all_eq_true.mp sd6 _ (dty_mem d))
  exact ⟨of_decide_eq_true z1, z2⟩
theorem side_ne {K : PySem.W.Frag} (oSide : sideB K = true) : PySem.W.findIn K (.ref (He.ga K "Hole")) "__ne__" = some (some (.builtin "object.__ne__")) ∧ PySem.W.kitOne K (.ref (He.ga K "Hole")) (.type "tuple") = some false ∧ PySem.W.mroIn K (He.ga K "Hole") (.type "object") = some true := by
  unfold sideB at oSide
  obtain ⟨sd1, oSide⟩ := He.ba oSide
  obtain ⟨sd2, oSide⟩ := He.ba oSide
  obtain ⟨sd3, oSide⟩ := He.ba oSide
  obtain ⟨sd4, oSide⟩ := He.ba oSide
  obtain ⟨sd5, oSide⟩ := He.ba oSide
  obtain ⟨sd6, oSide⟩ := He.ba oSide
  obtain ⟨sd7, sd8⟩ := He.ba oSide
  exact ⟨He.eqO_ok sd7, of_decide_eq_true sd8, of_decide_eq_true sd4⟩
theorem holeM_of {K : PySem.W.Frag} (oSide : sideB K = true) (cl : L2.Cls K (He.ga K "Hole")) (nr : L2.NoAttr K (He.ga K "Hole") "_runs") (kH : PySem.W.keepIn K (.ref (He.ga K "Hole")) = true) : HoleM K (He.ga K "Hole") := by
  have tyK := side_tys oSide
  unfold sideB at oSide
  obtain ⟨sd1, oSide⟩ := He.ba oSide
  obtain ⟨sd2, oSide⟩ := He.ba oSide
  obtain ⟨sd3, oSide⟩ := He.ba oSide
  obtain ⟨sd4, oSide⟩ := He.ba oSide
  obtain ⟨sd5, oSide⟩ := He.ba oSide
  exact ⟨cl, nr, He.eqO_ok sd1, He.eqO_ok sd2, of_decide_eq_true sd3, of_decide_eq_true sd4, of_decide_eq_true sd5, fun d => (tyK d).1, kH⟩
theorem own_of {K : PySem.W.Frag} {m : Str} (h : ownB K m = true) : PySem.W.findIn K (.ref (He.ga K "Hole")) m = some (some (.ref (hM K m))) ∧ PySem.W.isFn K (.ref (hM K m)) = true := by
  unfold ownB at h
  obtain ⟨h1, h2⟩ := He.ba h
  exact ⟨He.eqO_ok h1, h2⟩
theorem prop_of {K : PySem.W.Frag} {m : Str} (oProp : propB K m = true) : PropOf K (He.ga K "Hole") m (hM K m) (gOf K m "property") := by
  unfold propB at oProp
  obtain ⟨pr1, oProp⟩ := He.ba oProp
  obtain ⟨pr2, oProp⟩ := He.ba oProp
  obtain ⟨pr3, pr4⟩ := He.ba oProp
  refine ⟨He.eqO_ok pr1, He.eqO_ok pr2, of_decide_eq_true pr3, ?_⟩
  unfold gOf
  cases e : PySem.W.recIn K (hM K m) "property" with
  | none => rw [e] at pr4; cases pr4
  | some vs =>
    rw [e] at pr4
    cases vs with
    | nil => cases pr4
    | cons v vs =>
      cases v with
      | ref g => exact ⟨vs, rfl⟩
      | _ => cases pr4
theorem cread_of {K : PySem.W.Frag} {m : Str} (oMeth : methB K m = true) : ClX.CRead K (He.ga K "Hole") (.type "type") := by
  unfold methB at oMeth
  obtain ⟨me1, oMeth⟩ := He.ba oMeth
  obtain ⟨me2, oMeth⟩ := He.ba oMeth
  exact ⟨me1, He.eqO_ok me2⟩
theorem cmet_of {K : PySem.W.Frag} {m : Str} (oMeth : methB K m = true) : ClX.CMet K (He.ga K "Hole") (.type "type") m (hM K m) (gOf K m "classmethod") := by
  unfold methB at oMeth
  obtain ⟨me1, oMeth⟩ := He.ba oMeth
  obtain ⟨me2, oMeth⟩ := He.ba oMeth
  obtain ⟨me3, oMeth⟩ := He.ba oMeth
  obtain ⟨me4, me5⟩ := He.ba oMeth
  refine ⟨?_, ?_, me5⟩
  · split at me3
    · rename_i b p c e
      obtain ⟨z1, z2⟩ := He.ba me3
      obtain ⟨z2, z3⟩ := He.ba z2
      rw [e, of_decide_eq_true z1, of_decide_eq_true z2, of_decide_eq_true z3]
    · cases me3
  · unfold gOf
    cases e : PySem.W.recIn K (hM K m) "classmethod" with
    | none => rw [e] at me4; cases me4
    | some vs =>
      rw [e] at me4
      cases vs with
      | nil => cases me4
      | cons v vs =>
        cases v with
        | ref g => exact ⟨vs, rfl⟩
        | _ => cases me4
/-! ### own exceptions with an __init__ -/
def bm_IndexError : List Value := [.type "IndexError", .type "LookupError", .type "Exception", .type "BaseException", .type "object"]
def xiB (K : PySem.W.Frag) (c f : Str) (bm : List Value) (newId : String) : Bool :=
  He.eqO (PySem.W.findIn K (.ref (He.ga K c)) f) (some none) && (PySem.W.excInitIn K (He.ga K c) bm newId && (PySem.W.excOver K (He.ga K c) bm && (He.eqO (PySem.W.findIn K (.ref (He.ga K c)) "__setattr__") (some (some (.builtin "object.__setattr__"))) &&
  (He.eqO (PySem.W.findIn K (.ref (He.ga K c)) "__init__") (some (some (.ref (He.ma K (He.ga K c) "__init__")))) && decide (PySem.W.typeIn K (.ref (He.ma K (He.ga K c) "__init__")) = some (.type "function"))))))
theorem xi_IndexError {K : PySem.W.Frag} {c f : Str} (h : xiB K c f bm_IndexError "IndexError.__new__" = true) : XI K (He.ga K c) (He.ma K (He.ga K c) "__init__") "IndexError" "IndexError.__new__" "IndexError.__init__" bm_IndexError f := by
  unfold xiB at h
  obtain ⟨h1, h⟩ := He.ba h
  obtain ⟨h2, h⟩ := He.ba h
  obtain ⟨h3, h⟩ := He.ba h
  obtain ⟨h4, h⟩ := He.ba h
  obtain ⟨h5, h6⟩ := He.ba h
  exact ⟨⟨_, PySem.F.excBase_IndexError⟩, by decide +kernel, by decide +kernel, by decide +kernel, by decide +kernel, fun self => by rfl, h2, h3, He.eqO_ok h4, He.eqO_ok h5, of_decide_eq_true h6, He.eqO_ok h1⟩
end K0
end
/-! ### END -/
section
set_option Elab.async false
set_option linter.all false
set_option maxRecDepth 100000
set_option maxHeartbeats 4000000
/-! The end of a law whose promise is kept where nothing is being shown, beside one table of code objects. -/
namespace K0
open PySem PySem.Spec PyProof.Rows L2 LamX
theorem isTab_other {h : Heap} {b P : Addr} {o : Obj} (t : h.get? P = some { cls := .none, data := .fields #[] }) (e : h.get? b = some o) (d : o.data ≠ .fields #[]) : b ≠ P := fun z => by
  rw [z, t] at e
  cases e
  exact d rfl
section
variable {P : Program} {w : World} {K : PySem.W.Frag} {mg : Str → Option Value} {CX : CXT} {k : Nat} {f : Addr} {fd : FuncData}
theorem lawGT {a c T : Addr} {mb : Str → Option Value} {x : Str} {sp : Sp} {s₁ : Shared} {vs : List Value} {ns : List Int} (KX : K.In s₁.heap) (hns : s₁.heap.Ns mainGlobals mg) (hmb : s₁.heap.Ns builtinsNs mb) (hbb : ∀ x : Str, x ≠ "__name__" → mb x = bootBuiltins x) (lim : s₁.heap.NoLimit) (gens : s₁.gens = #[])
    (tab : s₁.heap.get? T = some { cls := .none, data := .fields #[] }) (out : K.lookup T = none) (code : PySem.W.CodeHd s₁.heap c T)
    (blt : ∃ (bm : Addr) (ob : Obj), mg "__builtins__" = some (.ref bm) ∧ bm ≠ builtinsNs ∧ s₁.heap.get? bm = some ob ∧ ob.cls = .type "module" ∧ ob.dict = some builtinsNs ∧ ob.data = .plain)
    (obj : s₁.heap.get? a = some { cls := .type "list", data := .seq vs.toArray }) (its : IntsAre vs ns) (most : ns.length ≤ sizeLine) (room : Room k callerA) (F : ∀ base : Heap, K.In base → base.Ns mainGlobals mg → TabB base mg c T → FnG P w K mg base CX k f fd [x] sp)
    (bind : ∀ (s : Shared) (u : Value), BindsTo s fd ⟨[u], []⟩ [(x, u)]) (prom : ∀ H : Hp, H T = some (.tbl #[]) → SqL K H a (ns.map V.int) → sp [.ref a] H (fun v _ => v = .bl true) fun _ _ _ => False) (none_out : ∀ H e s', CX [] H s₁ (fun _ _ _ => False) e s' → False) :
    codeAny (model P w) callerA (.call (.ref f) ⟨[.ref a], []⟩) (fun r s' => r = .ok (.ret (.bool true)) ∧ OldK s₁.heap s'.heap ∧ s'.os = s₁.os ∧ AllBare s'.gens) s₁ := by
  have rel := vals_ints its
  have size := its.length
  have aT : a ≠ T := isTab_other tab obj fun z => by cases z
  have main : ∀ H : Hp, H T = some (.tbl #[]) → (∀ b, b ≠ T → H b = none ∨ (b = a ∧ K.lookup a = none ∧ ∃ o xs, H b = some (.frz o (.lst xs)))) → SqL K H a (ns.map V.int) → HOk P w H s₁.heap →
      codeAny (model P w) callerA (.call (.ref f) ⟨[.ref a], []⟩) (fun r s' => r = .ok (.ret (.bool true)) ∧ OldK s₁.heap s'.heap ∧ s'.os = s₁.os ∧ AllBare s'.gens) s₁ := by
    intro H hT only seq hok
    have free : ∀ {b : Addr} {o : Obj}, s₁.heap.get? b = some o → o.data ≠ .fields #[] → (∀ us n, o.data ≠ .seq us n) → H b = none := fun {b o} e d1 d2 => by
      rcases only b (isTab_other tab e d1) with z | ⟨rfl, _, _⟩
      · exact z
      · rw [obj] at e
        cases e
        exact (d2 _ _ rfl).elim
    have keepNs : ∀ {b : Addr} {m : Str → Option Value}, s₁.heap.Ns b m → (hidT s₁.heap H).Ns b m := fun {b m} ⟨o, es, ep, e, d, r⟩ =>
      ⟨o, es, ep, hidT_get e (free e (fun z => by rw [d] at z; cases z) fun us n z => by rw [d] at z; cases z), d, r⟩
    have kin : K.In (hidT s₁.heap H) := fun b o e => hidT_get (KX b o e) (by
      by_cases bT : b = T
      · rw [bT, out] at e
        cases e
      · rcases only b bT with z | ⟨rfl, z, _⟩
        · exact z
        · rw [z] at e
          cases e)
    have mod : Mod K mg (hidT s₁.heap H) := ⟨kin, keepNs hns, ⟨mb, keepNs hmb, hbb⟩, lim.elim fun mc z => ⟨mc, keepNs z.1, z.2⟩⟩
    have gT : mainGlobals ≠ T := hns.elim fun o z => z.elim fun es z => z.elim fun ep z => isTab_other tab z.1 fun y => by rw [z.2.1] at y; cases y
    have TB : TabB (hidT s₁.heap H) mg c T := by
      refine ⟨?_, ?_, gT⟩
      · obtain ⟨o, us, fl, tf, fg, tg, iF, tx, tt, e1, r1, r2, r3, rest⟩ := code
        exact ⟨o, us, fl, tf, fg, tg, iF, tx, tt, hidT_get e1 (free e1 (fun z => by rw [r2] at z; cases z; simp at r3) fun us n z => by rw [r2] at z; cases z), r1, r2, r3, rest⟩
      · obtain ⟨bm, ob, b1, b2, b3, b4, b5, b6⟩ := blt
        have nG : bm ≠ mainGlobals := fun z => hns.elim fun o y => y.elim fun es y => y.elim fun ep y => by
          have e := y.1
          rw [← z, b3] at e
          cases e
          rw [b6] at y
          cases y.2.1
        exact ⟨bm, ob, b1, b2, nG, isTab_other tab b3 (fun z => by rw [b6] at z; cases z), hidT_get b3 (free b3 (fun z => by rw [b6] at z; cases z) fun us n z => by rw [b6] at z; cases z), b4, b5, b6⟩
    have e0 : Env0 P w K mg (hidT s₁.heap H) callerA [] s₁ H := ⟨rfl, mod, fun b o e => of_hidT e, Nat.le_of_eq (hidT_size _ _), trivial, (fun b z => nomatch (show b ∈ ([] : List Addr) from z)), hok, .of_eq gens⟩
    refine codeAny_mono ((F _ kin (keepNs hns) TB).go callerA [] s₁ H ⟨[.ref a], []⟩ [.ref a] [.ref a] _ _ rfl room e0 (bind s₁ (.ref a)) (.cons rfl .nil) (prom H hT seq)) fun r s' z => ?_
    rcases r with e | fl
    · exact (none_out H e s' z).elim
    cases fl with
    | next => exact z.elim
    | brk => exact z.elim
    | cont => exact z.elim
    | ret u =>
      obtain ⟨v, H', os, bare, un, hok', rv, rfl⟩ := z
      obtain rfl : u = Value.bool true := rv
      obtain ⟨more, grown⟩ := un.tbls T #[] hT
      have tab' : s'.heap.get? T = some { cls := .none, data := .fields (#[] ++ more) } := hok' T _ grown
      have key : ∀ b o, b ≠ T → s₁.heap.get? b = some o → s'.heap.get? b = some o := fun b o n e => by
        rcases only b n with z | ⟨_, _, ob, xs, z⟩
        · exact un.keep b o e z (fun y => nomatch (show b ∈ ([] : List Addr) from y)) fun y => nomatch y
        · obtain ⟨e1, _⟩ := hok b _ z
          obtain ⟨e2, _⟩ := hok' b _ (un.frzs b ob _ z)
          rw [e] at e1
          cases e1
          exact e2
      refine ⟨rfl, ⟨fun b o e => ?_, fun b o e => ?_⟩, os, bare⟩
      · by_cases n : b = T
        · rw [n] at e ⊢
          rw [tab] at e
          cases e
          exact .inr (.inl ⟨(code.tab tab).isCodeTable, rfl, #[], more, rfl, tab'⟩)
        · exact .inl (key b o n e)
      · by_cases n : b = T
        · exact ⟨_, n ▸ tab'⟩
        · exact ⟨o, key b o n e⟩
  cases own : K.lookup a with
  | some o =>
    have e := KX a o own
    rw [obj] at e
    cases e
    refine main (fun b => if b = T then some (.tbl #[]) else none) (if_pos rfl) (fun b n => .inl (if_neg n)) (.inr ⟨_, vs.toArray, _, own, rfl, rfl, rfl, by rw [List.size_toArray, size]; exact most, by simpa using rel⟩) fun b u z => ?_
    by_cases n : b = T
    · have z2 := (if_pos n).symm.trans z
      cases z2
      exact n ▸ tab
    · have z2 := (if_neg n).symm.trans z
      cases z2
  | none =>
    have at_a : ∀ {b : Addr}, b = a → (if b = T then some (HO.tbl #[]) else if b = a then some (HO.frz { cls := .type "list", data := .seq vs.toArray } (.lst (ns.map V.int))) else none) = some (HO.frz { cls := .type "list", data := .seq vs.toArray } (.lst (ns.map V.int))) := fun {b} z =>
      (if_neg (show ¬ b = T by rw [z]; exact aT)).trans (if_pos z)
    refine main (fun b => if b = T then some (.tbl #[]) else if b = a then some (.frz { cls := .type "list", data := .seq vs.toArray } (.lst (ns.map V.int))) else none) (if_pos rfl) (fun b n => ?_) (.inl (.inr ⟨_, at_a rfl⟩)) fun b u z => ?_
    · by_cases m : b = a
      · exact .inr ⟨m, own, _, _, at_a m⟩
      · exact .inl ((if_neg n).trans (if_neg m))
    · by_cases n : b = T
      · have z2 := (if_pos n).symm.trans z
        cases z2
        exact n ▸ tab
      · by_cases m : b = a
        · have z2 := (at_a m).symm.trans z
          cases z2
          subst m
          exact ⟨obj, by rw [List.length_map]; exact most, vs, _, rel, obj⟩
        · have z2 := ((if_neg n).trans (if_neg m)).symm.trans z
          cases z2
end
/-- the end over a head by facts -/
theorem walkGT {l : PySem.W.OpenLaw} {n k : Nat} {q : Program} {loose : List Str} {XP : (Str → Option Value) → Heap → Prop} {YP : World → Heap → Prop} {d : DefRec} {x : Str}
    (hn : l.most = some n) (hn2 : n ≤ sizeLine) (hdf : d.params.defaults = []) (room : Room k callerA)
    (F : ∀ (w : World) (mg : Str → Option Value) (f : Addr) (h : Heap), YP w h → h.Ns mainGlobals mg → mg d.name = some (.ref f) → ∃ (K : PySem.W.Frag) (c T : Addr), K.In h ∧ h.get? T = some { cls := .none, data := .fields #[] } ∧ K.lookup T = none ∧ PySem.W.CodeHd h c T ∧
      ∃ fd : FuncData, (∀ (s : Shared) (u : Value), BindsTo s fd ⟨[u], []⟩ [(x, u)]) ∧ ∀ base : Heap, K.In base → base.Ns mainGlobals mg → TabB base mg c T → FnG l.prog w K mg base CX0 k f fd [x] (spLaw K T)) :
    PySem.W.WalkO q loose XP YP l.row.toRowW d [] (fun f vs => PySem.call f vs) := by
  refine Att.attach_call hn hdf fun w s₀ s₁ mg mb f o pm cd doc a vs ns G Y ho hd hcd hmg hobj its len gens => ?_
  obtain ⟨K, c, T, KX, tab, out, code, fd, b, G2⟩ := F w mg f _ Y G.T.g hmg
  exact lawGT KX G.T.g G.T.b G.T.builtins G.T.nolimit gens tab out code G.T.bmain hobj its (Nat.le_trans len hn2) room G2 b (fun H t seq => ⟨a, ns, rfl, seq, fun x hx => by
    rw [List.mem_singleton.mp hx]
    exact TabS.nil t, fun _ => rfl⟩) fun H e s' z => z
end K0
end
/-! ### KH -/
section
set_option Elab.async false
set_option linter.all false
set_option maxRecDepth 100000
set_option maxHeartbeats 0
/-! The head of k04: what the top leaves, told by a Hook of its own; the run of the top. -/
namespace K0
open PySem PySem.Spec PyProof.Rows L2 Rd DN StX LamX TR
abbrev R : PySem.W.OpenRow := PySem.W.OpenLaw.row PySem.Challenge.rw_cleandress_k04_whole_counts_of_fillings
def fnT : List (Str × Nat) := [("is_number", 2), ("is_sign", 11), ("are_signs", 13), ("reader_of", 15), ("places_ahead", 16), ("places_behind", 17), ("count_behind", 18), ("count_of", 22), ("counts_behind", 23), ("is_run", 32), ("runs_without", 33), ("_law_dice", 35), ("_law_roll", 36), ("_law_one_of", 37), ("_law_mixed", 38), ("_law_all_signs", 39), ("_law_signs", 40), ("_law_texts", 41), ("_law_run", 42), ("_law_hole", 43), ("_law_made_hole", 44), ("_law_fillings", 45), ("_law_told", 46), ("_law_less", 47), ("_law_other_signs", 48), ("_law_power", 49), ("_law_of_run", 50), ("_law_right", 51), ("law", 52)]
def fn : List He.DefD := (fnT.map fun z => dfn z.1 z.2) ++ [dfr "__init__" "Hole.__init__" 0, dfr "count" "Hole.count" 5, dfr "barred" "Hole.barred" 6, dfx "InvalidNumber" "InvalidNumber.__init__" 8]
def fa : List He.Fa := [He.Fa.glo "is_number", He.Fa.glo "is_sign", He.Fa.glo "are_signs", He.Fa.glo "reader_of", He.Fa.glo "places_ahead", He.Fa.glo "places_behind", He.Fa.glo "count_behind", He.Fa.glo "count_of", He.Fa.glo "counts_behind", He.Fa.glo "is_run", He.Fa.glo "runs_without", He.Fa.glo "_law_dice", He.Fa.glo "_law_roll", He.Fa.glo "_law_one_of", He.Fa.glo "_law_mixed", He.Fa.glo "_law_all_signs", He.Fa.glo "_law_signs", He.Fa.glo "_law_texts", He.Fa.glo "_law_run", He.Fa.glo "_law_hole", He.Fa.glo "_law_made_hole", He.Fa.glo "_law_fillings", He.Fa.glo "_law_told", He.Fa.glo "_law_less", He.Fa.glo "_law_other_signs", He.Fa.glo "_law_power", He.Fa.glo "_law_of_run", He.Fa.glo "_law_right", He.Fa.glo "law", He.Fa.free "abs", He.Fa.free "int", He.Fa.free "max", He.Fa.free "min", He.Fa.free "len", He.Fa.free "range", He.Fa.free "isinstance", He.Fa.free "repr", He.Fa.free "str", He.Fa.free "bool", He.Fa.free "tuple", He.Fa.free "list", He.Fa.free "sorted", He.Fa.free "set", He.Fa.free "all", He.Fa.free "zip", He.Fa.free "sum", He.Fa.free "dict", He.Fa.glo "Hole", He.Fa.cls "Hole", He.Fa.noat "Hole" "_runs", He.Fa.noat "Hole" "_reader", He.Fa.mkr "Hole", He.Fa.keep "Hole", He.Fa.meth "Hole" "count", He.Fa.meth "Hole" "barred", He.Fa.glo "InvalidHole", He.Fa.exc "InvalidHole", He.Fa.exm "InvalidHole" "InvalidHole" true, He.Fa.glo "InvalidOperation", He.Fa.exc "InvalidOperation", He.Fa.exm "InvalidOperation" "InvalidOperation" true, He.Fa.glo "InvalidNumber", He.Fa.exm "InvalidNumber" "InvalidNumber" true, He.Fa.str "SIGNS" allSigns, He.Fa.int "MAX_RUNS" 4, He.Fa.int "MAX_REPEATS" 3, He.Fa.int "MAX_COUNTED" 200]
def names : List Str := (["_wall", "is_number", "DressError", "InvalidText", "InvalidHole", "InvalidOperation", "InvalidNumber", "SIGNS", "is_sign", "is_text", "are_signs", "reader_of"] : List Str) ++ (["places_ahead", "places_behind", "count_behind", "state_behind", "is_whole", "reads", "count_of", "counts_behind", "fillings_within", "ends_within", "MAX_RUNS", "MAX_REPEATS"] : List Str) ++ (["MAX_FILLING", "MAX_COUNTED", "Hole", "is_run", "runs_without", "_law_dice", "_law_roll", "_law_one_of", "_law_mixed", "_law_all_signs", "_law_signs", "_law_texts"] : List Str) ++ (["_law_run", "_law_hole", "_law_made_hole", "_law_fillings", "_law_told", "_law_less", "_law_other_signs", "_law_power", "_law_of_run", "_law_right"] : List Str)
def okB (K : PySem.W.Frag) : Bool := (sysB K) && ((sideB K) && ((methB K "of") && ((okAt K (gOf K "of" "classmethod") (dfr "of" "Hole.of" 1)) && ((xfB K (He.ga K "InvalidHole")) && ((xfB K (He.ga K "InvalidOperation")) && ((xfB K (He.ga K "InvalidNumber")) && (xiB K "InvalidNumber" "value" bm_IndexError "IndexError.__new__")))))))
abbrev AlA : Type := He.AlD × (Bool × List He.FnW)
abbrev pTab : He.Defn := ("_law_fillings", none)
def KofG (g : Addr → Option Obj) : PySem.W.Frag := He.frT g (sysModules :: cStatics :: He.asD g 6)
def tabB (g : Addr → Option Obj) (K : PySem.W.Frag) : Bool := PySem.W.codeHdIn K (He.cT K pTab).1 (He.cT K pTab).2 && (match g (He.cT K pTab).2 with
  | some o => He.emptyTab o
  | none => false)
def obsAG (g : Addr → Option Obj) : AlA := (He.obsD fa fn (KofG g), (okB (KofG g) && tabB g (KofG g), [fnWa (KofG g) (gOf (KofG g) "of" "classmethod")]))
def valA : AlA := (He.valD fn, (true, [(dfr "of" "Hole.of" 1).val]))
structure SaysA (h : Heap) (K : PySem.W.Frag) : Prop where
  d : He.SaysD fa fn K
  ok : okB K = true
  ws : [fnWa K (gOf K "of" "classmethod")] = [(dfr "of" "Hole.of" 1).val]
  hd : PySem.W.codeHdIn K (He.cT K pTab).1 (He.cT K pTab).2 = true
  out : K.lookup (He.cT K pTab).2 = none
  tab : h.get? (He.cT K pTab).2 = some { cls := .none, data := .fields #[] }
theorem says_of {h : Heap} (e : obsAG h.get? = valA) : SaysA h (KofG h.get?) := by
  have e1 : He.SaysD fa fn (KofG h.get?) := congrArg (fun z : AlA => z.1) e
  have e2 : (okB (KofG h.get?) && tabB h.get? (KofG h.get?)) = true := congrArg (fun z : AlA => z.2.1) e
  have e3 := congrArg (fun z : AlA => z.2.2) e
  obtain ⟨h1, e2⟩ := He.ba e2
  unfold tabB at e2
  obtain ⟨h2, h3⟩ := He.ba e2
  cases q : h.get? (He.cT (KofG h.get?) pTab).2 with
  | none => rw [q] at h3; cases h3
  | some o =>
    rw [q] at h3
    exact ⟨e1, h1, e3, h2, He.frT_none q h3, by rw [q, He.emptyTab_eq h3]⟩
def hookA : PySem.W.Hook where
  α := AlA
  obs := fun s => obsAG s.heap.get?
  val := fun _ => valA
  says := fun _ h => ∃ K : PySem.W.Frag, K.In h ∧ SaysA h K
  of := fun _ _ e => ⟨_, He.frT_in, says_of e⟩
  keeps := fun _ _ _ ⟨K, hK, c⟩ k => ⟨K, PySem.W.Frag.In.keeps hK k, ⟨c.d, c.ok, c.ws, c.hd, c.out, k _ _ c.tab⟩⟩
def obA (s : PySem.W.SharedT) : AlA := obsAG (HandSHeadRun.getT s)
theorem obA_eq (s : PySem.W.SharedT) : obA s = hookA.obs s.abs := by
  have e : HandSHeadRun.getT s = s.abs.heap.get? := funext (HandSHeadRun.getT_eq s)
  show obsAG _ = obsAG _
  rw [e]
theorem runA (w : World) : HandSHeadRun.RunEq R (PySem.W.view R.prog [52]) hookA obA 20000 names w := by
  intro os
  kernel_rfl
theorem ok_ini_InvalidNumber {P : Program} {w : World} {K : PySem.W.Frag} {mg : Str → Option Value} {base : Heap} {f C : Addr} {fd : FuncData} {B newId initId : String} {bmB : List Value} (F : FunD K "__init__" "InvalidNumber.__init__" (defArgs (xrow 8)) (defBody (xrow 8)) (defScope (xrow 8)) [] [] f fd) (T : XI K C f B newId initId bmB "value") (U : XF K C) : FnOk P w K mg base CX0 1 f fd ["self", "value"] (spIniX C "value") := by
  have sc : FnScope ["self", "value"] ["self", "value"] (defScope (xrow 8)) := ⟨rfl, rfl, rfl, by decide +kernel, rfl, by decide +kernel, by decide +kernel⟩
  refine F.ok sc (fun vs H Q E h => ?_) (fun cdv A outer s H vs Q E hr h => ?_)
  · obtain ⟨a, v, rfl, _⟩ := h
    rfl
  · obtain ⟨a, v, rfl, e, q⟩ := h
    exact ⟨_, PSs.nox (pss_one (ps_st T U (pv 0) (pv 1))), v, rfl, _, rfl, a, rfl, e, q⟩
end K0
end
/-! ### KF -/
section
set_option Elab.async false
set_option linter.all false
set_option maxRecDepth 100000
set_option maxHeartbeats 0
/-! The facts unpacked; each def keeps its promise. -/
namespace K0
open PySem PySem.Spec PyProof.Rows L2 Rd DN StX LamX TR
theorem facts {P : Program} {w : World} {K : PySem.W.Frag} {h : Heap} {mg : Str → Option Value} {f : Addr} (X : K.In h) (G : h.Ns mainGlobals mg) (hfa : mg ("law" : Str) = some (.ref f)) (c : SaysA h K) :
    ∃ (cc T : Addr), h.get? T = some { cls := .none, data := .fields #[] } ∧ K.lookup T = none ∧ PySem.W.CodeHd h cc T ∧
    ∃ fd : FuncData, (∀ (s : Shared) (v : Value), BindsTo s fd ⟨[v], []⟩ [("script", v)]) ∧ ∀ base : Heap, K.In base → base.Ns mainGlobals mg → TabB base mg cc T → FnG P w K mg base CX0 9 f fd ["script"] (spLaw K T) := by
  have d := c.d
  have ok := c.ok
  unfold okB at ok
  obtain ⟨sb, ok⟩ := He.ba ok
  obtain ⟨oSide, ok⟩ := He.ba ok
  obtain ⟨oMOf, ok⟩ := He.ba ok
  obtain ⟨oAOf, ok⟩ := He.ba ok
  obtain ⟨oXInvalidHole, ok⟩ := He.ba ok
  obtain ⟨oXInvalidOperation, ok⟩ := He.ba ok
  obtain ⟨oXInvalidNumber, ok⟩ := He.ba ok
  have oIInvalidNumber := ok
  obtain ⟨fdIsNumber, FIsNumber⟩ := d.def_ 0 (d := dfn "is_number" 2) rfl
  have gIsNumber := He.glo_ok X G (d.fact 0 (f := .glo "is_number") rfl)
  have bIsNumber : Binds K fdIsNumber ["value", "low", "high"] [] := FIsNumber.bindsN fun _ _ _ _ _ _ us hl => match us, hl with | [_, _, _], _ => rfl
  obtain ⟨fdIsSign, FIsSign⟩ := d.def_ 1 (d := dfn "is_sign" 11) rfl
  have gIsSign := He.glo_ok X G (d.fact 1 (f := .glo "is_sign") rfl)
  have bIsSign : Binds K fdIsSign ["value"] [] := FIsSign.bindsN fun _ _ _ _ _ _ us hl => match us, hl with | [_], _ => rfl
  obtain ⟨fdAreSigns, FAreSigns⟩ := d.def_ 2 (d := dfn "are_signs" 13) rfl
  have gAreSigns := He.glo_ok X G (d.fact 2 (f := .glo "are_signs") rfl)
  have bAreSigns : Binds K fdAreSigns ["value"] [] := FAreSigns.bindsN fun _ _ _ _ _ _ us hl => match us, hl with | [_], _ => rfl
  obtain ⟨fdReaderOf, FReaderOf⟩ := d.def_ 3 (d := dfn "reader_of" 15) rfl
  have gReaderOf := He.glo_ok X G (d.fact 3 (f := .glo "reader_of") rfl)
  have bReaderOf : Binds K fdReaderOf ["runs"] [] := FReaderOf.bindsN fun _ _ _ _ _ _ us hl => match us, hl with | [_], _ => rfl
  obtain ⟨fdPlacesAhead, FPlacesAhead⟩ := d.def_ 4 (d := dfn "places_ahead" 16) rfl
  have gPlacesAhead := He.glo_ok X G (d.fact 4 (f := .glo "places_ahead") rfl)
  have bPlacesAhead : Binds K fdPlacesAhead ["runs", "run", "count"] [] := FPlacesAhead.bindsN fun _ _ _ _ _ _ us hl => match us, hl with | [_, _, _], _ => rfl
  obtain ⟨fdPlacesBehind, FPlacesBehind⟩ := d.def_ 5 (d := dfn "places_behind" 17) rfl
  have gPlacesBehind := He.glo_ok X G (d.fact 5 (f := .glo "places_behind") rfl)
  have bPlacesBehind : Binds K fdPlacesBehind ["runs", "places", "sign"] [] := FPlacesBehind.bindsN fun _ _ _ _ _ _ us hl => match us, hl with | [_, _, _], _ => rfl
  obtain ⟨fdCountBehind, FCountBehind⟩ := d.def_ 6 (d := dfn "count_behind" 18) rfl
  have gCountBehind := He.glo_ok X G (d.fact 6 (f := .glo "count_behind") rfl)
  have bCountBehind : Binds K fdCountBehind ["run", "count"] [] := FCountBehind.bindsN fun _ _ _ _ _ _ us hl => match us, hl with | [_, _], _ => rfl
  obtain ⟨fdCountOf, FCountOf⟩ := d.def_ 7 (d := dfn "count_of" 22) rfl
  have gCountOf := He.glo_ok X G (d.fact 7 (f := .glo "count_of") rfl)
  have bCountOf : Binds K fdCountOf ["reader", "many"] [] := FCountOf.bindsN fun _ _ _ _ _ _ us hl => match us, hl with | [_, _], _ => rfl
  obtain ⟨fdCountsBehind, FCountsBehind⟩ := d.def_ 8 (d := dfn "counts_behind" 23) rfl
  have gCountsBehind := He.glo_ok X G (d.fact 8 (f := .glo "counts_behind") rfl)
  have bCountsBehind : Binds K fdCountsBehind ["moves", "counts"] [] := FCountsBehind.bindsN fun _ _ _ _ _ _ us hl => match us, hl with | [_, _], _ => rfl
  obtain ⟨fdIsRun, FIsRun⟩ := d.def_ 9 (d := dfn "is_run" 32) rfl
  have gIsRun := He.glo_ok X G (d.fact 9 (f := .glo "is_run") rfl)
  have bIsRun : Binds K fdIsRun ["value"] [] := FIsRun.bindsN fun _ _ _ _ _ _ us hl => match us, hl with | [_], _ => rfl
  obtain ⟨fdRunsWithout, FRunsWithout⟩ := d.def_ 10 (d := dfn "runs_without" 33) rfl
  have gRunsWithout := He.glo_ok X G (d.fact 10 (f := .glo "runs_without") rfl)
  have bRunsWithout : Binds K fdRunsWithout ["runs", "signs"] [] := FRunsWithout.bindsN fun _ _ _ _ _ _ us hl => match us, hl with | [_, _], _ => rfl
  obtain ⟨fdLawDice, FLawDice⟩ := d.def_ 11 (d := dfn "_law_dice" 35) rfl
  have gLawDice := He.glo_ok X G (d.fact 11 (f := .glo "_law_dice") rfl)
  have bLawDice : Binds K fdLawDice ["script", "at"] [] := FLawDice.bindsN fun _ _ _ _ _ _ us hl => match us, hl with | [_, _], _ => rfl
  obtain ⟨fdLawRoll, FLawRoll⟩ := d.def_ 12 (d := dfn "_law_roll" 36) rfl
  have gLawRoll := He.glo_ok X G (d.fact 12 (f := .glo "_law_roll") rfl)
  have bLawRoll : Binds K fdLawRoll ["dice", "total"] [] := FLawRoll.bindsN fun _ _ _ _ _ _ us hl => match us, hl with | [_, _], _ => rfl
  obtain ⟨fdLawOneOf, FLawOneOf⟩ := d.def_ 13 (d := dfn "_law_one_of" 37) rfl
  have gLawOneOf := He.glo_ok X G (d.fact 13 (f := .glo "_law_one_of") rfl)
  have bLawOneOf : Binds K fdLawOneOf ["dice", "items"] [] := FLawOneOf.bindsN fun _ _ _ _ _ _ us hl => match us, hl with | [_, _], _ => rfl
  obtain ⟨fdLawMixed, FLawMixed⟩ := d.def_ 14 (d := dfn "_law_mixed" 38) rfl
  have gLawMixed := He.glo_ok X G (d.fact 14 (f := .glo "_law_mixed") rfl)
  have bLawMixed : Binds K fdLawMixed ["dice", "items"] [] := FLawMixed.bindsN fun _ _ _ _ _ _ us hl => match us, hl with | [_, _], _ => rfl
  obtain ⟨fdLawAllSigns, FLawAllSigns⟩ := d.def_ 15 (d := dfn "_law_all_signs" 39) rfl
  have gLawAllSigns := He.glo_ok X G (d.fact 15 (f := .glo "_law_all_signs") rfl)
  have bLawAllSigns : Binds K fdLawAllSigns [] [] := FLawAllSigns.bindsN fun _ _ _ _ _ _ us hl => match us, hl with | [], _ => rfl
  obtain ⟨fdLawSigns, FLawSigns⟩ := d.def_ 16 (d := dfn "_law_signs" 40) rfl
  have gLawSigns := He.glo_ok X G (d.fact 16 (f := .glo "_law_signs") rfl)
  have bLawSigns : Binds K fdLawSigns ["dice", "upto"] [] := FLawSigns.bindsN fun _ _ _ _ _ _ us hl => match us, hl with | [_, _], _ => rfl
  obtain ⟨fdLawTexts, FLawTexts⟩ := d.def_ 17 (d := dfn "_law_texts" 41) rfl
  have gLawTexts := He.glo_ok X G (d.fact 17 (f := .glo "_law_texts") rfl)
  have bLawTexts : Binds K fdLawTexts ["signs", "upto"] [] := FLawTexts.bindsN fun _ _ _ _ _ _ us hl => match us, hl with | [_, _], _ => rfl
  obtain ⟨fdLawRun, FLawRun⟩ := d.def_ 18 (d := dfn "_law_run" 42) rfl
  have gLawRun := He.glo_ok X G (d.fact 18 (f := .glo "_law_run") rfl)
  have bLawRun : Binds K fdLawRun ["dice", "signs"] [] := FLawRun.bindsN fun _ _ _ _ _ _ us hl => match us, hl with | [_, _], _ => rfl
  obtain ⟨fdLawHole, FLawHole⟩ := d.def_ 19 (d := dfn "_law_hole" 43) rfl
  have gLawHole := He.glo_ok X G (d.fact 19 (f := .glo "_law_hole") rfl)
  have bLawHole : Binds K fdLawHole ["dice", "signs"] [] := FLawHole.bindsN fun _ _ _ _ _ _ us hl => match us, hl with | [_, _], _ => rfl
  obtain ⟨fdLawMadeHole, FLawMadeHole⟩ := d.def_ 20 (d := dfn "_law_made_hole" 44) rfl
  have gLawMadeHole := He.glo_ok X G (d.fact 20 (f := .glo "_law_made_hole") rfl)
  have bLawMadeHole : Binds K fdLawMadeHole ["runs"] [] := FLawMadeHole.bindsN fun _ _ _ _ _ _ us hl => match us, hl with | [_], _ => rfl
  obtain ⟨fdLawFillings, FLawFillings⟩ := d.def_ 21 (d := dfn "_law_fillings" 45) rfl
  have gLawFillings := He.glo_ok X G (d.fact 21 (f := .glo "_law_fillings") rfl)
  have bLawFillings : Binds K fdLawFillings ["runs", "upto"] [] := FLawFillings.bindsN fun _ _ _ _ _ _ us hl => match us, hl with | [_, _], _ => rfl
  obtain ⟨fdLawTold, FLawTold⟩ := d.def_ 22 (d := dfn "_law_told" 46) rfl
  have gLawTold := He.glo_ok X G (d.fact 22 (f := .glo "_law_told") rfl)
  have bLawTold : Binds K fdLawTold ["made", "size"] [] := FLawTold.bindsN fun _ _ _ _ _ _ us hl => match us, hl with | [_, _], _ => rfl
  obtain ⟨fdLawLess, FLawLess⟩ := d.def_ 23 (d := dfn "_law_less" 47) rfl
  have gLawLess := He.glo_ok X G (d.fact 23 (f := .glo "_law_less") rfl)
  have bLawLess : Binds K fdLawLess ["made", "sign"] [] := FLawLess.bindsN fun _ _ _ _ _ _ us hl => match us, hl with | [_, _], _ => rfl
  obtain ⟨fdLawOtherSigns, FLawOtherSigns⟩ := d.def_ 24 (d := dfn "_law_other_signs" 48) rfl
  have gLawOtherSigns := He.glo_ok X G (d.fact 24 (f := .glo "_law_other_signs") rfl)
  have bLawOtherSigns : Binds K fdLawOtherSigns ["dice", "runs"] [] := FLawOtherSigns.bindsN fun _ _ _ _ _ _ us hl => match us, hl with | [_, _], _ => rfl
  obtain ⟨fdLawPower, FLawPower⟩ := d.def_ 25 (d := dfn "_law_power" 49) rfl
  have gLawPower := He.glo_ok X G (d.fact 25 (f := .glo "_law_power") rfl)
  have bLawPower : Binds K fdLawPower ["base", "size"] [] := FLawPower.bindsN fun _ _ _ _ _ _ us hl => match us, hl with | [_, _], _ => rfl
  obtain ⟨fdLawOfRun, FLawOfRun⟩ := d.def_ 26 (d := dfn "_law_of_run" 50) rfl
  have gLawOfRun := He.glo_ok X G (d.fact 26 (f := .glo "_law_of_run") rfl)
  have bLawOfRun : Binds K fdLawOfRun ["run", "size"] [] := FLawOfRun.bindsN fun _ _ _ _ _ _ us hl => match us, hl with | [_, _], _ => rfl
  obtain ⟨fdLawRight, FLawRight⟩ := d.def_ 27 (d := dfn "_law_right" 51) rfl
  have gLawRight := He.glo_ok X G (d.fact 27 (f := .glo "_law_right") rfl)
  have bLawRight : Binds K fdLawRight ["dice"] [] := FLawRight.bindsN fun _ _ _ _ _ _ us hl => match us, hl with | [_], _ => rfl
  obtain ⟨fdLaw, FLaw⟩ := d.def_ 28 (d := dfn "law" 52) rfl
  have gLaw := He.glo_ok X G (d.fact 28 (f := .glo "law") rfl)
  have bLaw : Binds K fdLaw ["script"] [] := FLaw.bindsN fun _ _ _ _ _ _ us hl => match us, hl with | [_], _ => rfl
  obtain ⟨fdHInit, FHInit⟩ := d.def_ 29 (d := dfr "__init__" "Hole.__init__" 0) rfl
  obtain ⟨fdHCount, FHCount⟩ := d.def_ 30 (d := dfr "count" "Hole.count" 5) rfl
  have bHCount : Binds K fdHCount ["self", "many"] [] := FHCount.bindsN fun _ _ _ _ _ _ us hl => match us, hl with | [_, _], _ => rfl
  obtain ⟨fdHBarred, FHBarred⟩ := d.def_ 31 (d := dfr "barred" "Hole.barred" 6) rfl
  have bHBarred : Binds K fdHBarred ["self", "signs"] [] := FHBarred.bindsN fun _ _ _ _ _ _ us hl => match us, hl with | [_, _], _ => rfl
  obtain ⟨fdIInvalidNumber, FIInvalidNumber⟩ := d.def_ 32 (d := dfx "InvalidNumber" "InvalidNumber.__init__" 8) rfl
  have bIInvalidNumber : Binds K fdIInvalidNumber ["self", "value"] [] := FIInvalidNumber.bindsN fun _ _ _ _ _ _ us hl => match us, hl with | [_, _], _ => rfl
  have eHOf : fnWa K (gOf K "of" "classmethod") = (dfr "of" "Hole.of" 1).val := (List.cons.inj (c.ws)).1
  obtain ⟨fdHOf, FHOf⟩ := funA eHOf oAOf
  have bHOf : Binds K fdHOf ["cls", "runs"] [] := FunD.bindsN FHOf fun _ _ _ _ _ _ us hl => match us, hl with | [_, _], _ => rfl
  have mabs := He.free_ok X G (d.fact 29 (f := .free "abs") rfl)
  have mint := He.free_ok X G (d.fact 30 (f := .free "int") rfl)
  have mmax := He.free_ok X G (d.fact 31 (f := .free "max") rfl)
  have mmin := He.free_ok X G (d.fact 32 (f := .free "min") rfl)
  have mlen := He.free_ok X G (d.fact 33 (f := .free "len") rfl)
  have mrange := He.free_ok X G (d.fact 34 (f := .free "range") rfl)
  have misinstance := He.free_ok X G (d.fact 35 (f := .free "isinstance") rfl)
  have mrepr := He.free_ok X G (d.fact 36 (f := .free "repr") rfl)
  have mstr := He.free_ok X G (d.fact 37 (f := .free "str") rfl)
  have mbool := He.free_ok X G (d.fact 38 (f := .free "bool") rfl)
  have mtuple := He.free_ok X G (d.fact 39 (f := .free "tuple") rfl)
  have mlist := He.free_ok X G (d.fact 40 (f := .free "list") rfl)
  have msorted := He.free_ok X G (d.fact 41 (f := .free "sorted") rfl)
  have mset := He.free_ok X G (d.fact 42 (f := .free "set") rfl)
  have mall := He.free_ok X G (d.fact 43 (f := .free "all") rfl)
  have mzip := He.free_ok X G (d.fact 44 (f := .free "zip") rfl)
  have msum := He.free_ok X G (d.fact 45 (f := .free "sum") rfl)
  have mdict := He.free_ok X G (d.fact 46 (f := .free "dict") rfl)
  have gHole : mg "Hole" = some (.ref (He.ga K "Hole")) := He.glo_ok X G (d.fact 47 (f := .glo "Hole") rfl)
  have cl := He.cls_ok (d.fact 48 (f := .cls "Hole") rfl)
  have noRuns := He.noat_ok (d.fact 49 (f := .noat "Hole" "_runs") rfl)
  have noReader := He.noat_ok (d.fact 50 (f := .noat "Hole" "_reader") rfl)
  have mk := He.mkr_ok (d.fact 51 (f := .mkr "Hole") rfl)
  have kH := He.keep_ok (d.fact 52 (f := .keep "Hole") rfl)
  have meCount := He.meth_ok (d.fact 53 (f := .meth "Hole" "count") rfl)
  have meBarred := He.meth_ok (d.fact 54 (f := .meth "Hole" "barred") rfl)
  have gInvalidHole : mg "InvalidHole" = some (.ref (He.ga K "InvalidHole")) := He.glo_ok X G (d.fact 55 (f := .glo "InvalidHole") rfl)
  obtain ⟨x1InvalidHole, x2InvalidHole, x3InvalidHole, x4InvalidHole⟩ := He.exc_ok (d.fact 56 (f := .exc "InvalidHole") rfl)
  have xmInvalidHole := He.exm_ok (d.fact 57 (f := .exm "InvalidHole" "InvalidHole" true) rfl)
  have gInvalidOperation : mg "InvalidOperation" = some (.ref (He.ga K "InvalidOperation")) := He.glo_ok X G (d.fact 58 (f := .glo "InvalidOperation") rfl)
  obtain ⟨x1InvalidOperation, x2InvalidOperation, x3InvalidOperation, x4InvalidOperation⟩ := He.exc_ok (d.fact 59 (f := .exc "InvalidOperation") rfl)
  have xmInvalidOperation := He.exm_ok (d.fact 60 (f := .exm "InvalidOperation" "InvalidOperation" true) rfl)
  have gInvalidNumber : mg "InvalidNumber" = some (.ref (He.ga K "InvalidNumber")) := He.glo_ok X G (d.fact 61 (f := .glo "InvalidNumber") rfl)
  have xmInvalidNumber := He.exm_ok (d.fact 62 (f := .exm "InvalidNumber" "InvalidNumber" true) rfl)
  have ms := He.str_ok X G (d.fact 63 (f := .str "SIGNS" allSigns) rfl)
  have mMR := He.int_ok X G (d.fact 64 (f := .int "MAX_RUNS" 4) rfl)
  have mRp := He.int_ok X G (d.fact 65 (f := .int "MAX_REPEATS" 3) rfl)
  have mMC := He.int_ok X G (d.fact 66 (f := .int "MAX_COUNTED" 200) rfl)
  have xfInvalidHole : XF K (He.ga K "InvalidHole") := xfB_ok oXInvalidHole
  have xfInvalidOperation : XF K (He.ga K "InvalidOperation") := xfB_ok oXInvalidOperation
  have xfInvalidNumber : XF K (He.ga K "InvalidNumber") := xfB_ok oXInvalidNumber
  have xiInvalidNumber := xi_IndexError oIInvalidNumber
  have HK : HoleK K (He.ga K "Hole") (He.ga K "InvalidHole") := ⟨cl, noRuns, noReader, x1InvalidHole, x2InvalidHole, x3InvalidHole, x4InvalidHole⟩
  have HM : HoleM K (He.ga K "Hole") := holeM_of oSide cl noRuns kH
  have HROf := cread_of oMOf
  have HCOf := cmet_of oMOf
  have e := hfa.symm.trans gLaw
  cases e
  have b := FunD.bindsA (ps := ["script"]) FLaw fun _ _ _ _ _ _ us hl => match us, hl with | [_], _ => rfl
  have hc : fdLawFillings.code = .ref (He.cT K pTab).1 := by
    obtain ⟨oc, od, dV, kV, doc, pm, an, cdv, ct, osl, rfl, lk, hcd, _, _⟩ := FLawFillings.ex
    obtain ⟨cc, rfl⟩ := He.codeIn_ref hcd
    exact congrArg Value.ref (He.codeOf_eq (p := pTab) lk rfl).symm
  refine ⟨(He.cT K pTab).1, (He.cT K pTab).2, c.tab, c.out, PySem.W.codeHd_of_K X c.hd, fdLaw, fun s v => b s [v] rfl, fun base _ _ TB => ?_⟩
  have iniInvalidNumber : FnOk P w K mg base CX0 1 _ fdIInvalidNumber ["self", "value"] (spIniX (He.ga K "InvalidNumber") "value") := ok_ini_InvalidNumber FIInvalidNumber xiInvalidNumber xfInvalidNumber

  have roll : ∀ k, FnOk P w K mg base CX0 (k + 1) _ fdLawRoll ["dice", "total"] spRoll := fun k => ok_roll FLawRoll mint
  have one : ∀ k, FnOk P w K mg base CX0 (k + 2) _ fdLawOneOf ["dice", "items"] (spOne K) := fun k => ok_one FLawOneOf (roll k) gLawRoll FLawRoll.kp bLawRoll mlen
  have mixed : ∀ k, FnOk P w K mg base CX0 (k + 2) _ fdLawMixed ["dice", "items"] (spMixed K) := fun k => ok_mixed FLawMixed mlist mlen mrange (roll k) gLawRoll FLawRoll.kp bLawRoll
  have all' : ∀ k, FnOk P w K mg base CX0 (k + 1) _ fdLawAllSigns [] spAll := fun k => ok_all FLawAllSigns
  have num : ∀ k, FnOk P w K mg base CX0 (k + 1) _ fdIsNumber ["value", "low", "high"] (spNum K) := fun k => ok_num FIsNumber misinstance mint mbool
  have sign : ∀ k, FnOk P w K mg base CX0 (k + 1) _ fdIsSign ["value"] (spD K isSignD) := fun k => ok_sign FIsSign misinstance mstr mlen ms
  have signs : ∀ k, FnOk P w K mg base CX0 (k + 2) _ fdAreSigns ["value"] (spD K areSignsD) := fun k => ok_signs FAreSigns misinstance mtuple mall mzip (sign k) gIsSign FIsSign.kp bIsSign
  have isRun : ∀ k, FnOk P w K mg base CX0 (k + 3) _ fdIsRun ["value"] (spD K isRunD) := fun k => ok_isRun FIsRun misinstance mtuple mlen mmax mRp (signs k) gAreSigns FAreSigns.kp bAreSigns (num (k + 1)) gIsNumber FIsNumber.kp bIsNumber
  have ahead' : ∀ k, FnOk P w K mg base CX0 (k + 1) _ fdPlacesAhead ["runs", "run", "count"] (spAhead K) := fun k => ok_ahead FPlacesAhead mlen
  have behind : ∀ k, FnOk P w K mg base CX0 (k + 2) _ fdPlacesBehind ["runs", "places", "sign"] (spBehind K) := fun k => ok_behind FPlacesBehind mlen mtuple msorted mset (ok_count FCountBehind mmin) gCountBehind FCountBehind.kp bCountBehind (ahead' k) gPlacesAhead FPlacesAhead.kp bPlacesAhead
  have reader : ∀ k, FnOk P w K mg base CX0 (k + 3) _ fdReaderOf ["runs"] (spReader K) := fun k => ok_reader FReaderOf mlen mtuple ms (behind k) gPlacesBehind FPlacesBehind.kp bPlacesBehind (ahead' (k + 1)) gPlacesAhead FPlacesAhead.kp bPlacesAhead
  have init : ∀ k, FnR P w K mg base (L2.CX P w) (k + 4) (hM K "__init__") (spInit2 K (He.ga K "Hole") (He.ga K "InvalidHole")) := fun k => ok_hinit FHInit HK mlen mall gInvalidHole mMR (isRun k) gIsRun FIsRun.kp bIsRun (reader k) gReaderOf FReaderOf.kp bReaderOf
  have ofD : ∀ k, FnOk P w K mg base (L2.CX P w) (k + 6) (gOf K "of" "classmethod") fdHOf ["cls", "runs"] (spOf K (He.ga K "Hole") (He.ga K "InvalidHole")) := fun k => ok_hof FHOf HK mk misinstance mtuple gInvalidHole (init k)
  have lsigns : ∀ k, FnOk P w K mg base CX0 (k + 3) _ fdLawSigns ["dice", "upto"] spSigns := fun k => ok_lsigns FLawSigns mlist mtuple msorted (roll (k + 1)) gLawRoll FLawRoll.kp bLawRoll (all' (k + 1)) gLawAllSigns FLawAllSigns.kp bLawAllSigns (mixed k) gLawMixed FLawMixed.kp bLawMixed
  have lrun : ∀ k, FnOk P w K mg base CX0 (k + 3) _ fdLawRun ["dice", "signs"] (spLRun4 K) := fun k => ok_lrun4 FLawRun mlist mtuple msorted mlen (roll (k + 1)) gLawRoll FLawRoll.kp bLawRoll (mixed k) gLawMixed FLawMixed.kp bLawMixed (one k) gLawOneOf FLawOneOf.kp bLawOneOf
  have lhole : ∀ k, FnOk P w K mg base CX0 (k + 4) _ fdLawHole ["dice", "signs"] (spLHole4 K) := fun k => ok_lhole4 FLawHole mtuple mrange (lrun k) gLawRun FLawRun.kp bLawRun (one (k + 1)) gLawOneOf FLawOneOf.kp bLawOneOf
  have made : ∀ k, FnOk P w K mg base CX0 (k + 7) _ fdLawMadeHole ["runs"] (spMade4 K (He.ga K "Hole")) := fun k => ok_made4 FLawMadeHole mtuple gHole kH HROf HCOf (ofD k) bHOf
  have texts : ∀ k, FnOk P w K mg base CX0 (k + 1) _ fdLawTexts ["signs", "upto"] (spTexts K) := fun k => ok_texts FLawTexts mrange mlen
  have counts : ∀ k, FnOk P w K mg base CX0 (k + 1) _ fdCountsBehind ["moves", "counts"] (spCounts K) := fun k => ok_counts FCountsBehind
  have countOf : ∀ k, FnOk P w K mg base CX0 (k + 2) _ fdCountOf ["reader", "many"] (spCountOf K) := fun k => ok_countOf FCountOf mrange msum (counts k) gCountsBehind FCountsBehind.kp bCountsBehind
  have hcount : ∀ k, FnOk P w K mg base (L2.CX P w) (k + 3) (hM K "count") fdHCount ["self", "many"] (spHCount K (He.ga K "Hole") (He.ga K "InvalidNumber")) := fun k => ok_hcount FHCount HM noReader mMC (num (k + 1)) gIsNumber FIsNumber.kp bIsNumber (countOf k) gCountOf FCountOf.kp bCountOf gInvalidNumber xiInvalidNumber xfInvalidNumber iniInvalidNumber bIInvalidNumber
  have without : ∀ k, FnOk P w K mg base (L2.CX P w) (k + 1) _ fdRunsWithout ["runs", "signs"] (spWithout K (He.ga K "InvalidOperation")) := fun k => ok_without FRunsWithout mtuple gInvalidOperation x1InvalidOperation xfInvalidOperation
  have barred : ∀ k, FnOk P w K mg base (L2.CX P w) (k + 6) (hM K "barred") fdHBarred ["self", "signs"] (spHBarred K (He.ga K "Hole") (He.ga K "InvalidOperation")) := fun k => ok_hbarred FHBarred HM mk gHole (signs (k + 2)) gAreSigns FAreSigns.kp bAreSigns (without (k + 3)) gRunsWithout FRunsWithout.kp bRunsWithout (init k)
  have told : ∀ k, FnOk P w K mg base CX0 (k + 4) _ fdLawTold ["made", "size"] (spTold4 K (He.ga K "Hole")) := fun k => ok_told4 FLawTold HM xfInvalidNumber gInvalidNumber xmInvalidNumber xiInvalidNumber.no meCount (hcount k) bHCount
  have less : ∀ k, FnOk P w K mg base CX0 (k + 7) _ fdLawLess ["made", "sign"] (spLess K (He.ga K "Hole")) := fun k => ok_less FLawLess HM gInvalidOperation xmInvalidOperation meBarred (barred k) bHBarred
  have fill : ∀ k, FnOk P w K mg base CX0 (k + 5) _ fdLawFillings ["runs", "upto"] (spFill K (He.cT K pTab).2) := fun k => ok_fill FLawFillings mmin mlen msorted mset (texts (k + 3)) gLawTexts FLawTexts.kp bLawTexts hc TB
  have other : ∀ k, FnOk P w K mg base CX0 (k + 3) _ fdLawOtherSigns ["dice", "runs"] (spOther K) := fun k => ok_other FLawOtherSigns mlist mtuple msorted mdict mzip (all' (k + 1)) gLawAllSigns FLawAllSigns.kp bLawAllSigns (mixed k) gLawMixed FLawMixed.kp bLawMixed
  have power : ∀ k, FnOk P w K mg base CX0 (k + 1) _ fdLawPower ["base", "size"] spPower := fun k => ok_power FLawPower mrange
  have ofRun' : ∀ k, FnOk P w K mg base CX0 (k + 2) _ fdLawOfRun ["run", "size"] (spOfRun K) := fun k => ok_ofRun FLawOfRun mlen (power k) gLawPower FLawPower.kp bLawPower
  have right : FnG P w K mg base CX0 8 _ fdLawRight ["dice"] (spRight4 (He.cT K pTab).2) := ok_right (n := 0) FLawRight HM sb mrepr mlen mrange mtuple msum (lsigns 0) gLawSigns FLawSigns.kp bLawSigns (lhole 0) gLawHole FLawHole.kp bLawHole (made 0) gLawMadeHole FLawMadeHole.kp bLawMadeHole (fill 0) gLawFillings FLawFillings.kp bLawFillings
    meCount (hcount 0) bHCount (other 0) gLawOtherSigns FLawOtherSigns.kp bLawOtherSigns (one 0) gLawOneOf FLawOneOf.kp bLawOneOf (roll 1) gLawRoll FLawRoll.kp bLawRoll (less 0) gLawLess FLawLess.kp bLawLess (all' 1) gLawAllSigns FLawAllSigns.kp bLawAllSigns (ofRun' 0) gLawOfRun FLawOfRun.kp bLawOfRun (told 0) gLawTold FLawTold.kp bLawTold
  exact ok_law (n := 0) FLaw HM mlen mrange mtuple mmax mmin gHole mk (init 0) meCount (hcount 0) bHCount (all' 1) gLawAllSigns FLawAllSigns.kp bLawAllSigns (power 0) gLawPower FLawPower.kp bLawPower (ok_dice (k := 7) FLawDice mlen mint mabs mmax) gLawDice FLawDice.kp bLawDice right gLawRight FLawRight.kp bLawRight
end K0
end
/-! ### KE -/
set_option Elab.async false
set_option linter.all false
set_option maxRecDepth 100000
set_option maxHeartbeats 0
open PySem PySem.W PySem.Calls PyProof.Rows
theorem PySem.Challenge.cw_cleandress_k04_whole_counts_of_fillings_holds : PySem.Challenge.rw_cleandress_k04_whole_counts_of_fillings.Holds := by
  w_on; o_law
  refine HandSHeadRun.head_any (r := K0.R) (q := view K0.R.prog [52]) (H := K0.hookA) (ob := K0.obA) (M := 20000) (loose := K0.names) (d := HandSHeadRun.topDef K0.R.prog 52) (kwd := []) K0.obA_eq
    (by kernel_rfl) (fun s => by kernel_rfl) K0.runA (by kernel_rfl) (by kernel_rfl) (by kernel_rfl) (by rfl) (by first | assumption | decide +kernel) (by decide +kernel) ⟨rfl, rfl, rfl, rfl, rfl, by decide +kernel⟩ ?hw ?hc
  case hw => w_witness2
  case hc =>
    refine K0.walkGT (l := PySem.Challenge.rw_cleandress_k04_whole_counts_of_fillings) (n := 63) (k := 9) (x := "script") rfl (by decide) (by kernel_rfl) ⟨rfl, by decide, by decide⟩ ?F
    intro w mg f h Y G hmg0
    obtain ⟨K, KX, c⟩ := Y
    have hmg : mg ("law" : PySem.Str) = some (.ref f) := by
      have e : (HandSHeadRun.topDef K0.R.prog 52).name = ("law" : PySem.Str) := by kernel_rfl
      rw [← e]
      exact hmg0
    obtain ⟨cc, T, t1, t2, t3, rest⟩ := K0.facts KX G hmg c
    exact ⟨K, cc, T, KX, t1, t2, t3, rest⟩
