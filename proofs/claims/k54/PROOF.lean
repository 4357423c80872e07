import PyProof.Rows.All
import Wide.All
import OpenK.AllK
import Wide.FinOn
import KE.KStateDown
import Lean
import HandS.ForMost
import HandS.Exc
import HandS.ExcInit
import HandS.WordsExc
import HandS.Defaults
import HandS.Head0
import HandS.Head1
import HandS.Head2
import HandS.HeadEnd
import HandS.HeadHook1
import HandS.HeadHook2
import HandS.Wide
import HandS.Codes
import HandS.IsInst
import HandS.StrMore
import HandS.Steps
import Wide.Txt
import PyProof.ListStr
import HandS.Walk
import HandS.Iter
import HandS.IntHex
import HandS.Style
import HandS.WideBits
import KE.BitLaws
import HandS.DictComp
import HandS.ReplaceLit
import HandS.ReplaceList
import KE.KExcIs
import KE.KTryMore
import HandS.HotCalls
import HandS.ExcValue
import HandS.TryMany
import HandS.Lambda
import HandS.Star
import HandS.Small
import HandS.EndTab
import HandS.HeadHook4
import PySem.Challenge.RW_cleandress_k54_patterns_of_paths
/-! ### H0 -/
section
set_option Elab.async false
set_option linter.all false
set_option maxRecDepth 100000
set_option maxHeartbeats 0
namespace K0
open PySem PySem.Spec PyProof.Rows L2
def top (i : Nat) : Stmt := PySem.Challenge.pw_cleandress_k54_patterns_of_paths.main.body.getD i (.Pass ⟨0, 0, 0, 0⟩)
abbrev dfn (x : Str) (i : Nat) : He.DefD := ⟨(x, none), x, x, defArgs (top i), defBody (top i), defScope (top i), [], []⟩
abbrev iIsText : Nat := 5
abbrev iIsPath : Nat := 18
abbrev iIsPat : Nat := 19
abbrev iFits : Nat := 21
abbrev iDice : Nat := 23
abbrev iRoll : Nat := 24
abbrev iOne : Nat := 25
abbrev iMixed : Nat := 26
abbrev iAll : Nat := 27
abbrev iSigns : Nat := 28
abbrev iTexts : Nat := 29
abbrev iLFits : Nat := 30
abbrev iPat : Nat := 31
abbrev iSplits : Nat := 32
abbrev iWordOf : Nat := 33
abbrev iShort : Nat := 34
abbrev iLong : Nat := 35
abbrev iOddR : Nat := 36
abbrev iLaw : Nat := 37
abbrev iBits : Nat := 7
abbrev iOnward : Nat := 8
abbrev iPBeh : Nat := 13
abbrev iPOf : Nat := 14
abbrev iOnes : Nat := 15
abbrev iCheck : Nat := 20
abbrev iFitting : Nat := 12
end K0
end
/-! ### G0 -/
section
set_option Elab.async false
set_option linter.all false
set_option maxRecDepth 100000
set_option maxHeartbeats 4000000
/-! Defs whose promise is kept where nothing is being shown (no repr runs around them): FnG, its rule, its calls, the law's entry. -/
namespace K0
open PySem PySem.Spec PyProof.Rows L2
structure FnG (P : Program) (w : World) (K : PySem.W.Frag) (mg : Str → Option Value) (base : Heap) (CX : CXT) (k : Nat) (f : Addr) (fd : FuncData) (ps : List Str) (sp : Sp) : Prop where
  many : ∀ vs H Q E, sp vs H Q E → vs.length = ps.length
  go : ∀ (A : Around) (outer : List Env) (s : Shared) (H : Hp) (args : Args) (us : List Value) (vs : List V) (Q : VK) (E : XK), A.guards = some [] → Room k A → Env0 P w K mg base A outer s H → BindsTo s fd args (ps.zip us) → Vals vs us → sp vs H Q E → codeAny (model P w) A (.call (.ref f) args) (CR CX outer P w H s Q E) s
section
variable {P : Program} {w : World} {K : PySem.W.Frag} {mg : Str → Option Value} {base : Heap} {CX : CXT} {k : Nat} {f : Addr} {fd : FuncData}
theorem fnG_ofC {x qual : Str} {params : Arguments} {body : List Stmt} {scope : Scope} {dvs : List V} {kws : List (Str × V)} {N ps : List Str} {sp : Sp} (F : FunD K x qual params body scope dvs kws f fd) (S : FnScope N ps scope) (many : ∀ vs H Q E, sp vs H Q E → vs.length = ps.length)
    (hb : ∀ (cdv : Value), fd.code = cdv → ∀ (A : Around) (outer : List Env) (s : Shared) (H : Hp) (vs : List V) (Q : VK) (E : XK), (A.deeper (envOfC qual scope s.heap.objs.size f cdv)).guards = some [] → Room k (A.deeper (envOfC qual scope s.heap.objs.size f cdv)) → sp vs H Q E →
      ∃ t, PSs (cxOf CX P w K mg base N qual scope f cdv A outer s H E) body t ∧ t { nx := fun _ H' => Q .non H', rt := Q } (L2.start N vs) H) : FnG P w K mg base CX (k + 1) f fd ps sp := by
  obtain ⟨oc, od, dV, kV, doc, pm, an, cdv, ct, osl, rfl, lk, code, _, _⟩ := F.ex
  refine ⟨many, fun A outer s H args us vs Q E gd room e0 bd rel prom => ?_⟩
  have size := many _ _ _ _ prom
  have KX : K.In s.heap := e0.mod.kin.keeps fun b o z => (e0.bs b o z).1
  have lim : s.heap.NoLimit := e0.mod.nolimit.keeps fun b o z => (e0.bs b o z).1
  have kinds : ∀ y ∈ ps.zip us, scope.names.lookup y.1 = some .local ∨ (scope.names.lookup y.1 = some .cell ∧ ((cellsFrom (s.heap.objs.size + 1) scope.names []).lookup y.1).isSome = true) := fun ⟨n, v⟩ hy => (S.par n (List.of_mem_zip hy).1).elim .inl fun z => .inr ⟨z, PySem.W.cellsFrom_some _ _ _ (.inl z)⟩
  refine codeAny_call_function room.depth (KX _ _ lk) rfl S.co S.gen rfl (PySem.W.codeRec_of KX code) (bd _ _ _ _ (wpAny_newFunctionEnv_cells S.kind kinds fun env he s1 y => ?_))
  subst he
  obtain ⟨t, pf, rd⟩ := hb cdv rfl A outer s H vs Q E gd (room.deeper _) prom
  refine ⟨lim.keeps y.toInCall.keep, codeAny_func (wpAny_mono (pf.run [] s1 _ H _ (inv_start S room.hd e0 size rel y) rd) (fun fl s' z => ?_) fun e s' z => z)⟩
  cases fl with
  | ret u => obtain ⟨v, σ', H', J, rv, q⟩ := z; exact ⟨v, H', J.os, J.bare, J.base, J.hok, rv, q⟩
  | next => obtain ⟨σ', H', J, q⟩ := z; exact ⟨V.non, H', J.os, J.bare, J.base, J.hok, rfl, q⟩
  | brk => exact z.elim fun _ z => z.elim fun _ z => z.2.elim
  | cont => exact z.elim fun _ z => z.elim fun _ z => z.2.elim
theorem lawG {a : Addr} {mb : Str → Option Value} {x : Str} {sp : Sp} {s₁ : Shared} {vs : List Value} {ns : List Int} (KX : K.In s₁.heap) (hns : s₁.heap.Ns mainGlobals mg) (hmb : s₁.heap.Ns builtinsNs mb) (hbb : ∀ x : Str, x ≠ "__name__" → mb x = bootBuiltins x) (lim : s₁.heap.NoLimit) (gens : s₁.gens = #[])
    (obj : s₁.heap.get? a = some { cls := .type "list", data := .seq vs.toArray }) (its : IntsAre vs ns) (most : ns.length ≤ sizeLine) (room : Room k callerA) (F : ∀ base : Heap, K.In base → base.Ns mainGlobals mg → FnG P w K mg base CX k f fd [x] sp)
    (bind : ∀ (s : Shared) (u : Value), BindsTo s fd ⟨[u], []⟩ [(x, u)]) (prom : ∀ H : Hp, Only H → SqL K H a (ns.map V.int) → sp [.ref a] H (fun v _ => v = .bl true) fun _ _ _ => False) (none_out : ∀ H e s', CX [] H s₁ (fun _ _ _ => False) e s' → False) :
    codeAny (model P w) callerA (.call (.ref f) ⟨[.ref a], []⟩) (fun r s' => r = .ok (.ret (.bool true)) ∧ OldK s₁.heap s'.heap ∧ s'.os = s₁.os ∧ AllBare s'.gens) s₁ := by
  have rel := vals_ints its
  have size := its.length
  have main : ∀ H : Hp, Only H → SqL K H a (ns.map V.int) → HOk P w H s₁.heap → (∀ b, H b ≠ none → b = a) → (H a ≠ none → K.lookup a = none) → codeAny (model P w) callerA (.call (.ref f) ⟨[.ref a], []⟩) (fun r s' => r = .ok (.ret (.bool true)) ∧ OldK s₁.heap s'.heap ∧ s'.os = s₁.os ∧ AllBare s'.gens) s₁ := by
    intro H only seq hok just apart
    have at_a : ∀ {b : Addr}, H b ≠ none → b = a := fun {b} z => just b z
    have noDict : ∀ {b : Addr} {o : Obj} {es : Array DictEntry} {ep : Nat}, s₁.heap.get? b = some o → o.data = .dict es ep → H b = none := fun {b o es ep} e d => Classical.byContradiction fun z => by
      have e1 := at_a z
      subst e1
      rw [obj] at e
      cases e
      exact absurd (show Data.seq vs.toArray _ = Data.dict es ep from d) (fun q => by cases q)
    have keepNs : ∀ {b : Addr} {m : Str → Option Value}, s₁.heap.Ns b m → (hidT s₁.heap H).Ns b m := fun {b m} ⟨o, es, ep, e, d, r⟩ => ⟨o, es, ep, hidT_get e (noDict e d), d, r⟩
    have kin : K.In (hidT s₁.heap H) := fun b o e => hidT_get (KX b o e) (Classical.byContradiction fun z => by
      have e1 := at_a z
      subst e1
      rw [apart z] at e
      cases e)
    have mod : Mod K mg (hidT s₁.heap H) := ⟨kin, keepNs hns, ⟨mb, keepNs hmb, hbb⟩, lim.elim fun mc z => ⟨mc, keepNs z.1, z.2⟩⟩
    have e0 : Env0 P w K mg (hidT s₁.heap H) callerA [] s₁ H := ⟨rfl, mod, fun b o e => of_hidT e, Nat.le_of_eq (hidT_size _ _), trivial, (fun b z => nomatch (show b ∈ ([] : List Addr) from z)), hok, .of_eq gens⟩
    refine codeAny_mono ((F _ kin (keepNs hns)).go callerA [] s₁ H ⟨[.ref a], []⟩ [.ref a] [.ref a] _ _ rfl room e0 (bind s₁ (.ref a)) (.cons rfl .nil) (prom H only seq)) fun r s' z => ?_
    rcases r with e | fl
    · exact (none_out H e s' z).elim
    cases fl with
    | next => exact z.elim
    | brk => exact z.elim
    | cont => exact z.elim
    | ret u =>
      obtain ⟨v, H', os, bare, un, hok', rv, rfl⟩ := z
      obtain rfl : u = Value.bool true := rv
      refine ⟨rfl, OldK.of_keep fun b o e => ?_, os, bare⟩
      cases q : H b with
      | none => exact un.keep b o e q (fun z => nomatch (show b ∈ ([] : List Addr) from z)) (fun z => nomatch z)
      | some u =>
        rcases only b with z | ⟨ob, xs, z⟩
        · rw [q] at z
          cases z
        · obtain ⟨e1, _⟩ := hok b _ z
          obtain ⟨e2, _⟩ := hok' b _ (un.frzs b ob _ z)
          rw [e] at e1
          cases e1
          exact e2
  cases own : K.lookup a with
  | some o =>
    have e := KX a o own
    rw [obj] at e
    cases e
    exact main (fun _ => none) (fun _ => .inl rfl) (.inr ⟨_, vs.toArray, _, own, rfl, rfl, rfl, by rw [List.size_toArray, size]; exact most, by simpa using rel⟩) (fun b u z => nomatch (show (none : Option HO) = some u from z)) (fun b z => absurd rfl z) fun z => absurd rfl z
  | none =>
    have yes : ∀ {b : Addr}, b = a → (if b = a then some (HO.frz { cls := .type "list", data := .seq vs.toArray } (.lst (ns.map V.int))) else none) = some (HO.frz { cls := .type "list", data := .seq vs.toArray } (.lst (ns.map V.int))) := fun z => if_pos z
    refine main (fun b => if b = a then some (.frz { cls := .type "list", data := .seq vs.toArray } (.lst (ns.map V.int))) else none) (fun b => ?_) (.inl (.inr ⟨_, yes rfl⟩)) (fun b u z => ?_) (fun b z => Classical.byContradiction fun n => z (if_neg n)) fun _ => own
    · by_cases n : b = a
      · exact .inr ⟨_, _, yes n⟩
      · exact .inl (if_neg n)
    · by_cases n : b = a
      · have z2 := (yes n).symm.trans z
        cases z2
        subst n
        exact ⟨obj, by rw [List.length_map]; exact most, vs, _, rel, obj⟩
      · have z2 := (if_neg n).symm.trans z
        cases z2
end
section
variable {X : Cx} {CX : CXT} {k : Nat} {f : Addr} {fd : FuncData} {ps : List Str} {sp : Sp} {x : Str} {p pos : Pos} {e : Expr} {es : List Expr} {t : TA} {E : XK}
theorem peG (F : FnG X.prog X.w X.K X.mg X.base CX k f fd ps sp) (gd : X.A.guards = some []) (room : Room k X.A) (hg : Gl X x) (hm : X.mg x = some (.ref f)) (kp : PySem.W.keepIn X.K (.ref f) = true) (bd : Binds X.K fd ps []) (ps' : Passes CX X E) (ha : PA X (e :: es) t)
    (hdb : (x == ("__debug__" : Str)) = false := by decide) (he : starEach (e :: es) X.env = (false, eval e X.env) :: starEach es X.env := by rfl) (hpl : (backTo pos (starEach es X.env)).any (·.1) = false := by rfl) : PE X (.Call (.Name x p) (e :: es) [] pos) (tCall sp [] E t) :=
  ⟨fun pins s σ H Q I h => wpAny_Call_Name_kw (ld_glob I hg hm (PySem.W.callWith_K (h₀ := X.base) I.ok.mod.kin kp (thn (ha.run pos pins s σ H _ I h) fun us s1 ⟨vs, H1, I1, r, q⟩ => ⟨I1.kIn, by
    have q : sp (vs ++ []) H1 Q E := q
    rw [List.append_nil] at q
    have size : (us ++ []).length = ps.length := by rw [List.append_nil, ← r.length]; exact F.many _ _ _ _ q
    have bd2 := bd s1 us I1.kIn size
    rw [List.append_nil] at bd2
    refine wpAny_call (codeAny_mono (F.go X.A X.stack s1 H1 ⟨us, []⟩ us vs Q E gd room I1.env0 bd2 r q) fun res s' z => ?_)
    rcases res with err | fl
    · exact ps' pins σ H1 s1 err s' I1 z
    · cases fl with
      | ret u => exact I1.after z
      | next => exact z.elim
      | brk => exact z.elim
      | cont => exact z.elim⟩) he hpl) hdb)⟩
end
end K0
end
/-! ### D0 -/
section
set_option Elab.async false
set_option linter.all false
set_option maxRecDepth 100000
set_option maxHeartbeats 4000000
namespace K0
open PySem PySem.Spec PyProof.Rows L2
abbrev FnP (K : PySem.W.Frag) (x : Str) (i : Nat) (f : Addr) (fd : FuncData) : Prop := FunD K x x (defArgs (top i)) (defBody (top i)) (defScope (top i)) [] [] f fd
/-- a power whose base has few bits -/
def PowBits (i j : Int) : Prop := 0 ≤ j ∧ (Builtin.Int.intBits i : Int) * j ≤ 2 ^ 27
theorem op_powBits {X : Cx} : OpR X (binaryOp .Pow) (rI PowBits fun i j => .int (i ^ j.toNat)) := opI fun _ _ _ _ _ _ _ hc q => pow_int hc.1 hc.2 q
/-- three ints in a list: the dice -/
abbrev dk (a b c : Int) : HO := .lst [.int a, .int b, .int c]
theorem scDice : FnScope ["script", "at", "cell", "great", "mixed"] ["script", "at"] (defScope (top iDice)) := ⟨rfl, rfl, rfl, by decide +kernel, rfl, by decide +kernel, by decide +kernel⟩
def spDice (K : PySem.W.Frag) : Sp := fun vs H Q _ => ∃ (p : Addr) (ns : List Int) (j : Nat), vs = [.ref p, .int j] ∧ SqL K H p (ns.map V.int) ∧ ∀ d a b c, H d = none → Q (.ref d) (upd H d (dk a b c))
section
variable {P : Program} {w : World} {K : PySem.W.Frag} {mg : Str → Option Value} {base : Heap} {f fR fO : Addr} {fd fdR fdO : FuncData}
theorem ok_dice {k : Nat} (F : FnP K "_law_dice" iDice f fd) (mlen : mg "len" = none) (mint : mg "int" = none) (mabs : mg "abs" = none) (mmax : mg "max" = none) : FnOk P w K mg base CX0 (k + 1) f fd ["script", "at"] (spDice K) := by
  refine F.ok scDice (fun vs H Q E h => ?_) (fun cdv A outer s H vs Q E hr h => ?_)
  · obtain ⟨p, ns, j, rfl, _⟩ := h
    rfl
  · obtain ⟨p, ns, j, rfl, hS, q⟩ := h
    refine ⟨_, PSs.nox (pss_cons (ps_set (i := 2) scDice.nd rfl (.inl rfl) (pe_op op_add (pe_op op_mul pe_int (pv 1)) pe_int))
      (C8.pss_cut (ps_if (pt_cmpR op_lt (pv 1) (pe_callB call_len_seq (by rfl) mlen PySem.boot_len (pa_cons (pv 0) pa_nil)) (nomark _))
        (pss_one (ps_set (i := 2) scDice.nd rfl (.inl rfl) (pe_ix ix_list (pv 0) (pv 1) (fun _ _ => rfl)))) pss_nil)
      (pss_cons (ps_set (i := 3) scDice.nd rfl (.inl rfl) (pe_op op_mod (pe_callTy call_int1 (by rfl) mint boot_int (pa_cons (pe_callB call_abs (by rfl) mabs boot_abs (pa_cons (pv 2) pa_nil)) pa_nil))
        (pe_op op_powBits (pe_op op_powBits pe_int pe_int) pe_int)))
      (pss_cons (ps_set (i := 4) scDice.nd rfl (.inl rfl) (pe_op op_add (pe_op op_add (pe_op op_add (pe_op op_mul (pe_op op_mod (pe_callTy call_int1 (by rfl) mint boot_int (pa_cons (pv 3) pa_nil)) pe_int) pe_int) (pe_op op_mul pe_int (pv 1)))
        (pe_op op_mul pe_int (pe_callTy call_int1 (by rfl) mint boot_int (pa_cons (pe_cmpR op_lt (pv 2) pe_int (nomark _)) pa_nil)))) pe_int))
      (pss_one (ps_ret (pe_lst (pa_cons (pe_callB (call_max2 rfl) (by rfl) mmax boot_max (pa_cons pe_int (pa_cons (pe_op op_sub (pv 3) (pe_op op_powBits pe_int pe_int)) pa_nil)))
        (pa_cons (pe_op op_mod (pe_callTy call_int1 (by rfl) mint boot_int (pa_cons (pv 4) pa_nil)) pe_int) (pa_cons pe_int pa_nil)))))))))), ?_⟩
    refine ⟨_, rfl, _, _, rfl, rfl, .inl ⟨by decide, by decide⟩, _, _, rfl, rfl, ?_⟩
    refine ⟨fun σ' H' => ∃ cell : Int, σ' = [some (.ref p), some (.int j), some (.int cell), none, none] ∧ H' = H, ⟨_, rfl, _, rfl, p, _, rfl, .inl hS, _, _, rfl, rfl, _, rfl, ite2 (fun e => ?_) (fun e => ⟨_, rfl, rfl⟩)⟩, fun σ' H' hM => ?_⟩
    · have hj : j < ns.length := by
        have e2 : (j : Int) < ((ns.map V.int).length : Int) := of_decide_eq_true e
        rw [List.length_map] at e2
        omega
      have hg : (ns.map V.int)[j]? = some (.int ns[j]) := by
        rw [List.getElem?_map, List.getElem?_eq_getElem hj]
        rfl
      exact ⟨_, rfl, _, rfl, p, _, _, _, rfl, rfl, hS, atI_nat hg, _, rfl, rfl⟩
    · obtain ⟨cell, rfl, rfl⟩ := hM
      refine ⟨_, rfl, _, rfl, .inl ⟨_, rfl, _, _, rfl, rfl, ⟨by decide, by decide +kernel⟩, _, _, rfl, rfl, ⟨by decide, by decide +kernel⟩, _, _, rfl, rfl, (by show (0 : Int) < (10 ^ Int.toNat 60) ^ Int.toNat 12; decide +kernel), ?_⟩⟩
      refine ⟨_, rfl, .inl ⟨_, rfl, _, _, rfl, rfl, (by show (0 : Int) < 2147483399; decide), _, _, rfl, rfl, .inr ⟨by decide, by decide⟩, _, rfl, _, _, rfl, rfl, .inl ⟨by decide, by decide⟩, _, _, rfl, rfl, ?_⟩⟩
      refine ⟨_, rfl, _, _, rfl, rfl, .inr ⟨_, rfl, _, _, rfl, rfl, .inl ⟨by decide, by decide⟩, _, _, rfl, rfl, _, _, rfl, rfl, ?_⟩⟩
      refine ⟨_, rfl, _, _, rfl, rfl, ⟨by decide, by decide +kernel⟩, _, _, rfl, rfl, _, _, rfl, ?_⟩
      refine ⟨_, rfl, .inl ⟨_, rfl, _, _, rfl, rfl, (by show (0 : Int) < 2305843009213693907; decide), (by show 3 ≤ sizeLine; decide), fun d hd => ?_⟩⟩
      exact q d _ _ _ hd
end
end K0
end
/-! ### D1 -/
section
set_option Elab.async false
set_option linter.all false
set_option maxRecDepth 100000
set_option maxHeartbeats 4000000
namespace K0
open PySem PySem.Spec PyProof.Rows L2
theorem scRoll : FnScope ["dice", "total", "found", "one", "two"] ["dice", "total"] (defScope (top iRoll)) := ⟨rfl, rfl, rfl, by decide +kernel, rfl, by decide +kernel, by decide +kernel⟩
def spRoll : Sp := fun vs H Q _ => ∃ (p : Addr) (a b c t : Int), vs = [.ref p, .int t] ∧ H p = some (dk a b c) ∧ CDivW a t ∧ ∀ a' b' c' r, 0 ≤ r → r < t → Q (.int r) (upd H p (dk a' b' c'))
theorem mod_small {x m : Int} (h : 0 < m) (h2 : m ≤ 2 ^ 62) : -(2 ^ 64) < x % m ∧ x % m < 2 ^ 64 := by
  have h0 := Int.emod_nonneg x (show m ≠ 0 by omega)
  have h1 := Int.emod_lt_of_pos x h
  omega
theorem scOne : FnScope ["dice", "items"] ["dice", "items"] (defScope (top iOne)) := ⟨rfl, rfl, rfl, by decide +kernel, rfl, by decide +kernel, by decide +kernel⟩
/-- the items are a list or a tuple xs, or the signs of a text -/
def Its (K : PySem.W.Frag) (H : Hp) (v : V) (xs : List V) : Prop := (∃ q, v = .ref q ∧ (SqL K H q xs ∨ SqT K H q xs)) ∨ ∃ z : Str, v = .str z ∧ z.length ≤ sizeLine ∧ xs = z.cps.toList.map fun c => V.str ⟨#[c]⟩
theorem len_div {a : Int} {n : Nat} (h : 0 < n) (hz : n ≤ sizeLine) : CDivW a (n : Int) := by
  have e := sizeLine_eq
  refine wide_div (b := 25) (by omega) ?_ (by decide) (by decide)
  have e2 : (2 : Nat) ^ 25 = 33554432 := by decide
  have e3 : (sizeLine : Nat) = 16777216 := e
  omega
theorem its_len {K : PySem.W.Frag} {H : Hp} {v : V} {xs : List V} (h : Its K H v xs) : LenV K v H xs.length := by
  rcases h with ⟨a, rfl, h | h⟩ | ⟨z, rfl, hz, rfl⟩
  · exact .inl ⟨xs, h, rfl⟩
  · exact .inr ⟨xs, h, rfl⟩
  · refine ⟨hz, ?_⟩
    rw [List.length_map]
    first | rfl | simp [Str.length]
theorem its_at {K : PySem.W.Frag} {H : Hp} {v x : V} {xs : List V} {i : Nat} {Q : VK} (h : Its K H v xs) (e : xs[i]? = some x) (q : Q x H) : rIx K v (.int (i : Int)) H Q := by
  rcases h with ⟨a, rfl, h | h⟩ | ⟨z, rfl, hz, rfl⟩
  · exact .inl ⟨a, xs, _, x, rfl, rfl, h, atI_nat e, q⟩
  · exact .inr (.inl ⟨a, xs, _, x, rfl, rfl, h, atI_nat e, q⟩)
  · rw [List.getElem?_map] at e
    cases hc : z.cps.toList[i]? with
    | none => rw [hc] at e; cases e
    | some c =>
      rw [hc] at e
      cases e
      exact .inr (.inr ⟨z, _, c, rfl, rfl, hz, atI_nat hc, q⟩)
section
variable {P : Program} {w : World} {K : PySem.W.Frag} {mg : Str → Option Value} {base : Heap} {f fR fO : Addr} {fd fdR fdO : FuncData}
theorem ok_roll {k : Nat} (F : FnP K "_law_roll" iRoll f fd) (mint : mg "int" = none) : FnOk P w K mg base CX0 (k + 1) f fd ["dice", "total"] spRoll := by
  refine F.ok scRoll (fun vs H Q E h => ?_) (fun cdv A outer s H vs Q E hr h => ?_)
  · obtain ⟨p, a, b, c, t, rfl, _⟩ := h
    rfl
  · obtain ⟨p, a, b, c, t, rfl, hp, ht, q⟩ := h
    have t0 : 0 < t := ht.1
    refine ⟨_, PSs.nox (pss_cons (ps_if (pt_cmpR op_gt (pe_ix ix_list (pv 0) pe_int (fun _ _ => rfl)) pe_int (nomark _))
        (pss_cons (ps_set (i := 2) scRoll.nd rfl (.inl rfl) (pe_op op_mod (pe_callTy call_int1 (by rfl) mint boot_int (pa_cons (pe_ix ix_list (pv 0) pe_int (fun _ _ => rfl)) pa_nil)) (pv 1)))
        (pss_cons (ps_asg (pe_op op_fdivW (pe_ix ix_list (pv 0) pe_int (fun _ _ => rfl)) (pv 1)) (pg_sub (pv 0) pe_int set_list)) (pss_one (ps_ret (pv 2))))) pss_nil)
      (pss_cons (ps_asg (pe_op op_add (pe_ix ix_list (pv 0) pe_int (fun _ _ => rfl)) pe_int) (pg_sub (pv 0) pe_int set_list))
      (pss_cons (ps_set (i := 3) scRoll.nd rfl (.inl rfl) (pe_op op_mod (pe_callTy call_int1 (by rfl) mint boot_int (pa_cons (pe_op op_add (pe_ix ix_list (pv 0) pe_int (fun _ _ => rfl)) (pe_op op_mul pe_int (pe_ix ix_list (pv 0) pe_int (fun _ _ => rfl)))) pa_nil)) pe_int))
      (pss_cons (ps_set (i := 4) scRoll.nd rfl (.inl rfl) (pe_op op_add (pe_op op_mul (pe_op op_mod (pe_callTy call_int1 (by rfl) mint boot_int (pa_cons (pe_op op_mul (pv 3) (pv 3)) pa_nil)) pe_int) (pv 3)) (pe_op op_mul pe_int (pe_ix ix_list (pv 0) pe_int (fun _ _ => rfl)))))
      (pss_cons (ps_set (i := 4) scRoll.nd rfl (.inl rfl) (pe_op op_mod (pe_callTy call_int1 (by rfl) mint boot_int (pa_cons (pv 4) pa_nil)) pe_int))
      (pss_one (ps_ret (pe_op op_mod (pe_callTy call_int1 (by rfl) mint boot_int (pa_cons (pe_op op_fdiv (pv 4) pe_int) pa_nil)) (pv 1))))))))), ?_⟩
    have hS : ∀ x y z : Int, SqL K (upd H p (dk x y z)) p [.int x, .int y, .int z] := fun x y z => .of upd_same
    refine ⟨_, rfl, p, _, _, _, rfl, rfl, .of hp, atI_nat (j := 0) rfl, _, _, rfl, rfl, _, rfl, ite2 (fun e => ?_) (fun e => ?_)⟩
    · refine ⟨_, rfl, p, _, _, _, rfl, rfl, .of hp, atI_nat (j := 0) rfl, .inl ⟨_, rfl, _, rfl, _, _, rfl, rfl, t0, ?_⟩⟩
      refine ⟨_, rfl, p, _, _, _, rfl, rfl, .of hp, atI_nat (j := 0) rfl, _, rfl, _, _, rfl, rfl, ht, ?_⟩
      refine ⟨_, rfl, p, _, _, 0, rfl, rfl, hp, rfl, ?_⟩
      exact ⟨_, rfl, q _ _ _ _ (Int.emod_nonneg _ (by omega)) (Int.emod_lt_of_pos _ t0)⟩
    · refine ⟨_, rfl, p, _, _, _, rfl, rfl, .of hp, atI_nat (j := 2) rfl, _, _, rfl, rfl, ?_⟩
      refine ⟨_, rfl, p, _, _, 2, rfl, rfl, hp, rfl, ?_⟩
      refine ⟨_, rfl, p, _, _, _, rfl, rfl, hS a b _, atI_nat (j := 1) rfl, _, rfl, p, _, _, _, rfl, rfl, hS a b _, atI_nat (j := 2) rfl, _, _, rfl, rfl, .inl ⟨by decide, by decide⟩, _, _, rfl, rfl, .inl ⟨_, rfl, _, _, rfl, rfl, (by show (0 : Int) < 2305843009213693951; decide), ?_⟩⟩
      refine ⟨_, rfl, _, rfl, _, _, rfl, rfl, .inl (mod_small (by decide) (by decide)), .inl ⟨_, rfl, _, _, rfl, rfl, (by show (0 : Int) < 2305843009213693921; decide), ?_⟩⟩
      refine ⟨_, rfl, _, _, rfl, rfl, .inl (mod_small (by decide) (by decide)), _, rfl, p, _, _, _, rfl, rfl, hS a b _, atI_nat (j := 2) rfl, _, _, rfl, rfl, .inl ⟨by decide, by decide⟩, _, _, rfl, rfl, ?_⟩
      refine ⟨_, rfl, .inl ⟨_, rfl, _, _, rfl, rfl, (by show (0 : Int) < 2305843009213693907; decide), ?_⟩⟩
      refine ⟨_, rfl, _, _, rfl, rfl, ⟨by decide, by decide⟩, .inl ⟨_, rfl, _, rfl, _, _, rfl, rfl, t0, ?_⟩⟩
      exact q _ _ _ _ (Int.emod_nonneg _ (by omega)) (Int.emod_lt_of_pos _ t0)
def spOne (K : PySem.W.Frag) : Sp := fun vs H Q _ => ∃ (p : Addr) (a b c : Int) (v : V) (xs : List V), vs = [.ref p, v] ∧ H p = some (dk a b c) ∧ Its K H v xs ∧ xs ≠ [] ∧ xs.length ≤ sizeLine ∧ (∀ a' b' c', Its K (upd H p (dk a' b' c')) v xs) ∧
  ∀ a' b' c' (i : Nat) x, xs[i]? = some x → Q x (upd H p (dk a' b' c'))
theorem ok_one {k : Nat} (F : FnP K "_law_one_of" iOne f fd) (FR : FnOk P w K mg base CX0 (k + 1) fR fdR ["dice", "total"] spRoll) (gR : mg "_law_roll" = some (.ref fR)) (kR : PySem.W.keepIn K (.ref fR) = true) (bR : Binds K fdR ["dice", "total"] []) (mlen : mg "len" = none) :
    FnOk P w K mg base CX0 (k + 2) f fd ["dice", "items"] (spOne K) := by
  refine F.ok scOne (fun vs H Q E h => ?_) (fun cdv A outer s H vs Q E hr h => ?_)
  · obtain ⟨p, a, b, c, v, xs, rfl, _⟩ := h
    rfl
  · obtain ⟨p, a, b, c, v, xs, rfl, hp, hI, hx, hz, hI2, q⟩ := h
    refine ⟨_, PSs.nox (pss_one (ps_ret (pe_ix ix_seq (pv 1) (pe_call FR hr (by rfl) gR kR bR .nil pass0 (pa_cons (pv 0) (pa_cons (pe_callB call_len (by rfl) mlen PySem.boot_len (pa_cons (pv 1) pa_nil)) pa_nil))) (fun _ _ => rfl)))), ?_⟩
    have hl0 : 0 < xs.length := List.length_pos_iff.mpr hx
    refine ⟨_, rfl, _, rfl, _, rfl, _, xs.length, rfl, its_len hI, ?_⟩
    refine ⟨p, a, b, c, _, rfl, hp, len_div hl0 hz, fun a' b' c' r h0 h1 => ?_⟩
    have hr2 : r.toNat < xs.length := by omega
    have er : r = (r.toNat : Int) := by omega
    have hg : xs[r.toNat]? = some xs[r.toNat] := List.getElem?_eq_getElem hr2
    have q2 := q a' b' c' r.toNat _ hg
    rw [er]
    exact its_at (hI2 a' b' c') hg q2
end
end K0
end
/-! ### D2 -/
section
set_option Elab.async false
set_option linter.all false
set_option maxRecDepth 100000
set_option maxHeartbeats 4000000
namespace K0
open PySem PySem.Spec PyProof.Rows L2
/-- all but the dice at p is as it was; the dice are dice -/
def Keep (p : Addr) (H H' : Hp) : Prop := (∀ b o, b ≠ p → H b = some o → H' b = some o) ∧ ∃ a b c, H' p = some (dk a b c)
theorem Keep.refl {p : Addr} {H : Hp} {a b c : Int} (h : H p = some (dk a b c)) : Keep p H H := ⟨fun _ _ _ e => e, a, b, c, h⟩
theorem Keep.trans {p : Addr} {H H1 H2 : Hp} (h : Keep p H H1) (k : Keep p H1 H2) : Keep p H H2 := ⟨fun b o n e => k.1 b o n (h.1 b o n e), k.2⟩
theorem Keep.new {p q : Addr} {H : Hp} {o : HO} {a b c : Int} (h : H p = some (dk a b c)) (n : H q = none) : Keep p H (upd H q o) :=
  ⟨fun b u hb e => by rw [upd_ne (ne_of_none e n)]; exact e, a, b, c, by rw [upd_ne (ne_of_none h n)]; exact h⟩
theorem Keep.new2 {p q : Addr} {H H' : Hp} {o : HO} (h : Keep p H H') (n : H' q = none) : Keep p H (upd H' q o) := by
  obtain ⟨a, b, c, e⟩ := h.2
  exact h.trans (.new e n)
theorem Keep.dice {p : Addr} {H : Hp} (a b c : Int) : Keep p H (upd H p (dk a b c)) := ⟨fun d o n e => by rw [upd_ne n]; exact e, a, b, c, upd_same⟩
theorem scAll : FnScope [] [] (defScope (top iAll)) := ⟨rfl, rfl, rfl, by decide +kernel, rfl, by decide +kernel, by decide +kernel⟩
def allSigns : Str := "#$0123:_abcdefg"
def spAll : Sp := fun vs H Q _ => vs = [] ∧ Q (.str allSigns) H
theorem mapV_str (sg : Str) : sg.cps.toList.map (fun c => V.str ⟨#[c]⟩) = (sg.cps.toList.map fun c => (⟨#[c]⟩ : Str)).map V.str := by rw [List.map_map]; rfl
section
variable {P : Program} {w : World} {K : PySem.W.Frag} {mg : Str → Option Value} {base : Heap} {f fR fO : Addr} {fd fdR fdO : FuncData}
theorem ok_all {k : Nat} (F : FnP K "_law_all_signs" iAll f fd) : FnOk P w K mg base CX0 (k + 1) f fd [] spAll := by
  refine F.ok scAll (fun vs H Q E h => ?_) (fun cdv A outer s H vs Q E hr h => ?_)
  · rw [h.1]; rfl
  · obtain ⟨rfl, q⟩ := h
    exact ⟨_, PSs.nox (pss_one (ps_ret pe_str)), q⟩
end
end K0
end
/-! ### V0 -/
section
set_option Elab.async false
set_option linter.all false
set_option maxRecDepth 100000
set_option maxHeartbeats 4000000
/-! Values of any depth with dicts (Dv), read off the heap; repr of them. -/
namespace K0
open PySem PySem.Spec PyProof.Rows L2
def keyD : Key → PyData
  | .inl i => .int i
  | .inr x => .str x
mutual
inductive Dv (K : PySem.W.Frag) (H : Hp) : V → PyData → Prop
  | non : Dv K H .non .none
  | bl (b : Bool) : Dv K H (.bl b) (.bool b)
  | int (i : Int) : Dv K H (.int i) (.int i)
  | str (x : Str) : Dv K H (.str x) (.str x)
  | lst {a : Addr} {xs : List V} {ds : List PyData} : SqL K H a xs → DvAll K H xs ds → Dv K H (.ref a) (.list ds)
  | tup {a : Addr} {xs : List V} {ds : List PyData} : SqT K H a xs → DvAll K H xs ds → Dv K H (.ref a) (.tuple ds)
  | dic {a : Addr} {kvs : List (Key × V)} {ds : List (PyData × PyData)} : H a = some (.dK kvs) → ds.map (·.1) = kvs.map (fun p => keyD p.1) → DvAll K H (kvs.map (·.2)) (ds.map (·.2)) → Dv K H (.ref a) (.dict ds)
inductive DvAll (K : PySem.W.Frag) (H : Hp) : List V → List PyData → Prop
  | nil : DvAll K H [] []
  | cons {v : V} {vs : List V} {d : PyData} {ds : List PyData} : Dv K H v d → DvAll K H vs ds → DvAll K H (v :: vs) (d :: ds)
end
theorem same_tup {K : PySem.W.Frag} {H H' : Hp} {a : Addr} {xs : List V} (e : Same H H') (h : SqT K H a xs) : SqT K H' a xs := by
  rcases h with (h | ⟨o, h⟩) | h
  · exact .inl (.inl (e _ _ h))
  · exact .inl (.inr ⟨o, e _ _ h⟩)
  · exact .inr h
mutual
theorem Dv.same {K : PySem.W.Frag} {H H' : Hp} (e : Same H H') : ∀ (d : PyData) (v : V), Dv K H v d → Dv K H' v d
  | .none, _, h => by cases h; exact .non
  | .bool b, _, h => by cases h; exact .bl b
  | .int i, _, h => by cases h; exact .int i
  | .str x, _, h => by cases h; exact .str x
  | .list ds, _, h => by cases h with | lst h1 h2 => exact .lst (e.seq h1) (DvAll.same e ds _ h2)
  | .tuple ds, _, h => by cases h with | tup h1 h2 => exact .tup (same_tup e h1) (DvAll.same e ds _ h2)
  | .dict ds, _, h => by cases h with | dic h1 h2 h3 => exact .dic (e _ _ h1) h2 (DvAll.sameKv e ds _ h3)
theorem DvAll.same {K : PySem.W.Frag} {H H' : Hp} (e : Same H H') : ∀ (ds : List PyData) (vs : List V), DvAll K H vs ds → DvAll K H' vs ds
  | [], _, h => by cases h; exact .nil
  | d :: ds, _, h => by cases h with | cons h1 h2 => exact .cons (Dv.same e d _ h1) (DvAll.same e ds _ h2)
theorem DvAll.sameKv {K : PySem.W.Frag} {H H' : Hp} (e : Same H H') : ∀ (ds : List (PyData × PyData)) (vs : List V), DvAll K H vs (ds.map (·.2)) → DvAll K H' vs (ds.map (·.2))
  | [], _, h => by cases h; exact .nil
  | (k, d) :: ds, _, h => by cases h with | cons h1 h2 => exact .cons (Dv.same e d _ h1) (DvAll.sameKv e ds _ h2)
end
theorem Dv.same' {K : PySem.W.Frag} {H H' : Hp} {v : V} {d : PyData} (h : Dv K H v d) (e : Same H H') : Dv K H' v d := Dv.same e d v h
/-- the written part knows where sys.modules stands -/
def sysB (K : PySem.W.Frag) : Bool := match K.lookup sysModules with
  | some o => o.cls == .type "dict"
  | none => false
section
variable {X : Cx} {pins : List (Addr × Obj)} {σ : L2.St} {H : Hp} {s : Shared}
theorem sys_obj (I : Inv X pins σ H s) (b : sysB X.K = true) : ∃ o, s.heap.get? sysModules = some o ∧ o.cls = .type "dict" ∧ H sysModules = none := by
  unfold sysB at b
  cases e : X.K.lookup sysModules with
  | none => rw [e] at b; cases b
  | some o =>
    rw [e] at b
    have z := I.bs _ _ (I.ok.mod.kin _ _ e)
    exact ⟨o, z.1, by simpa using b, z.2⟩
theorem keys_read {h : Heap} {P : Program} {w : World} : ∀ {es : List DictEntry} {kvs : List (Key × Value)}, Pairs (mixKind P w) es kvs → ReadsAll h (es.map (·.key)) (kvs.map fun p => keyD p.1) []
  | _, _, .nil => .nil
  | _, _, .cons (e := e) (kv := kv) h1 h2 h3 => by
    have r : Reads h e.key (keyD kv.1) [] := by
      rcases keyIs_shape (show keyIs kv.1 e.key = true from h1) with ⟨i, t, e1, e2⟩ | ⟨y, t, e1, e2⟩
      · rw [e1, e2]; exact .int i t
      · rw [e1, e2]; exact .str y t
    have q := ReadsAll.cons r (keys_read (h := h) h3)
    simpa using q
theorem vals_of_pairs {P : Program} {w : World} : ∀ {es : List DictEntry} {kvs : List (Key × Value)}, Pairs (mixKind P w) es kvs → es.map (·.val) = kvs.map (·.2)
  | _, _, .nil => rfl
  | _, _, .cons h1 h2 h3 => by rw [List.map_cons, List.map_cons, h2, vals_of_pairs h3]
theorem kv_fst : ∀ {kvs : List (Key × V)} {vs : List (Key × Value)}, KV kvs vs → kvs.map (fun p => keyD p.1) = vs.map (fun p => keyD p.1)
  | _, _, .nil => rfl
  | _, _, .cons h1 h2 => by rw [List.map_cons, List.map_cons, h1.1, kv_fst h2]
theorem kv_snd : ∀ {kvs : List (Key × V)} {vs : List (Key × Value)}, KV kvs vs → Vals (kvs.map (·.2)) (vs.map (·.2))
  | _, _, .nil => .nil
  | _, _, .cons h1 h2 => .cons h1.2 (kv_snd h2)
theorem nomem_cons {a : Addr} {as : List Addr} {z : Addr} (h : z ≠ a) (h2 : z ∉ as) : z ∉ a :: as := fun m => (List.mem_cons.mp m).elim h h2
theorem nomem_app {as bs : List Addr} {z : Addr} (h : z ∉ as) (h2 : z ∉ bs) : z ∉ as ++ bs := fun m => (List.mem_append.mp m).elim h h2
mutual
theorem Dv.reads (I : Inv X pins σ H s) (b : sysB X.K = true) : ∀ (d : PyData) (v : V) (u : Value), Dv X.K H v d → RelV v u → ∃ as, Reads s.heap u d as ∧ sysModules ∉ as
  | .none, _, _, h, r => by cases h; cases r; exact ⟨_, .none, fun z => nomatch z⟩
  | .bool _, _, _, h, r => by cases h; cases r; exact ⟨_, .bool _, fun z => nomatch z⟩
  | .int _, _, _, h, r => by cases h; obtain ⟨t, rfl⟩ := r; exact ⟨_, .int _ t, fun z => nomatch z⟩
  | .str _, _, _, h, r => by cases h; obtain ⟨t, rfl⟩ := r; exact ⟨_, .str _ t, fun z => nomatch z⟩
  | .list ds, _, _, h, r => by
    cases h with
    | lst h1 h2 =>
      cases r
      obtain ⟨its, rv, ⟨o, n, ho, hc, _, hd⟩, _⟩ := I.list h1
      obtain ⟨as, q, z⟩ := DvAll.reads I b ds _ its h2 rv
      refine ⟨_, .list ho hc hd q, nomem_cons (fun e => ?_) z⟩
      obtain ⟨o2, e1, e2, _⟩ := sys_obj I b
      rw [e, ho] at e1
      cases e1
      rw [hc] at e2
      exact absurd e2 (by decide)
  | .tuple ds, _, _, h, r => by
    cases h with
    | tup h1 h2 =>
      cases r
      obtain ⟨its, rv, ⟨o, ho, hc, n, hd⟩, _⟩ := I.tuple h1
      obtain ⟨as, q, z⟩ := DvAll.reads I b ds _ its h2 rv
      exact ⟨_, .tuple ho hc hd q, z⟩
  | .dict ds, _, _, h, r => by
    cases h with
    | dic h1 h2 h3 =>
      cases r
      obtain ⟨_, hsys, vs, kv, o, es, ep, ho, ex, hd, _, pr, _⟩ := I.hok _ _ h1
      obtain ⟨as, q, z⟩ := DvAll.readsKv I b ds _ (es.toList.map (·.val)) h3 (by rw [vals_of_pairs pr]; exact kv_snd kv)
      have ks : ReadsAll s.heap (es.toList.map (·.key)) (ds.map (·.1)) [] := by rw [h2, kv_fst kv]; exact keys_read pr
      refine ⟨_, .dict ho ex.1 hd ks q, ?_⟩
      exact nomem_cons (fun e => by rw [← e] at hsys; simp at hsys) z
theorem DvAll.reads (I : Inv X pins σ H s) (b : sysB X.K = true) : ∀ (ds : List PyData) (vs : List V) (us : List Value), DvAll X.K H vs ds → Vals vs us → ∃ as, ReadsAll s.heap us ds as ∧ sysModules ∉ as
  | [], _, _, h, r => by cases h; cases r; exact ⟨_, .nil, fun z => nomatch z⟩
  | d :: ds, _, _, h, r => by
    cases h with
    | cons h1 h2 =>
      cases r with
      | cons r1 r2 =>
        obtain ⟨as, q1, z1⟩ := Dv.reads I b d _ _ h1 r1
        obtain ⟨bs, q2, z2⟩ := DvAll.reads I b ds _ _ h2 r2
        exact ⟨_, .cons q1 q2, nomem_app z1 z2⟩
theorem DvAll.readsKv (I : Inv X pins σ H s) (b : sysB X.K = true) : ∀ (ds : List (PyData × PyData)) (vs : List V) (us : List Value), DvAll X.K H vs (ds.map (·.2)) → Vals vs us → ∃ as, ReadsAll s.heap us (ds.map (·.2)) as ∧ sysModules ∉ as
  | [], _, _, h, r => by cases h; cases r; exact ⟨_, .nil, fun z => nomatch z⟩
  | (k, d) :: ds, _, _, h, r => by
    cases h with
    | cons h1 h2 =>
      cases r with
      | cons r1 r2 =>
        obtain ⟨as, q1, z1⟩ := Dv.reads I b d _ _ h1 r1
        obtain ⟨bs, q2, z2⟩ := DvAll.readsKv I b ds _ _ h2 r2
        exact ⟨_, .cons q1 q2, nomem_app z1 z2⟩
end
/-- small enough to be shown -/
structure Fit (d : PyData) : Prop where
  able : d.showable = true
  leaf : d.leavesShort 60 = true
  bulk : d.bulk ≤ 100000
  depth : d.depth ≤ 8
theorem Fit.size {d : PyData} (f : Fit d) : d.shown.length ≤ sizeLine := by
  have h := PyData.shown_le_bulk 60 (by decide) d f.leaf
  have h2 := f.bulk
  rw [sizeLine_eq]
  omega
def rRepr (K : PySem.W.Frag) : List V → Hp → VK → Prop := fun xs H Q => ∃ x d, xs = [x] ∧ Dv K H x d ∧ Fit d ∧ Q (.str d.shown) H
theorem call_repr (b : sysB X.K = true) (gd : X.A.guards = some []) (hu : X.A.units + 64 < cLine) : CallR X (.builtin "repr") (rRepr X.K) := by
  intro pins s σ H xs us Q I r h
  obtain ⟨x, d, rfl, hd, ft, q⟩ := h
  obtain ⟨u, rfl, rx⟩ := vals1 r
  obtain ⟨as, rd, nos⟩ := Dv.reads I b d x u hd rx
  have fin : ∀ t s2, Inv X pins σ H s2 → EP X pins σ Q (.str d.shown t) s2 := fun t s2 J => ⟨.str d.shown, H, J, ⟨t, rfl⟩, q⟩
  have dp := ft.depth
  cases hd with
  | non => cases rx; exact PySem.P.repr_of_none (by simpa [PyData.shown] using fin _ _ (I.tok _))
  | bl c => cases rx; exact PySem.P.repr_of_bool (by simpa [PyData.shown] using fin _ _ (I.tok _))
  | int i => obtain ⟨t, rfl⟩ := rx; exact PySem.P.repr_of_int (by have z := ft.able; simpa [PyData.showable] using z) (by simpa [PyData.shown] using fin _ _ (I.tok _))
  | str z => obtain ⟨t, rfl⟩ := rx; exact PySem.P.repr_of_str (by simpa [PyData.shown] using fin _ _ (I.tok _)) (by simpa [PyData.shown] using ft.size)
  | lst h1 h2 => cases rx; exact repr_of_reads' rd ft.able (fun _ => nos) gd (by omega) (fun _ _ e => e) (fun h' u tk k => fin _ _ (I.kept k)) ft.size
  | tup h1 h2 => cases rx; exact repr_of_reads' rd ft.able (fun _ => nos) gd (by omega) (fun _ _ e => e) (fun h' u tk k => fin _ _ (I.kept k)) ft.size
  | dic h1 h2 h3 => cases rx; exact repr_of_reads' rd ft.able (fun _ => nos) gd (by omega) (fun _ _ e => e) (fun h' u tk k => fin _ _ (I.kept k)) ft.size
end
end K0
end
/-! ### O0 -/
section
set_option Elab.async false
set_option linter.all false
set_option maxRecDepth 100000
set_option maxHeartbeats 4000000
/-! Displays of data: what they evaluate to (Ev1, EvN), beside the dice at p; a text repeated; the drawn odd value. -/
namespace K0
open PySem PySem.Spec PyProof.Rows L2
def rep (z : Str) (n : Int) : Str := ⟨(List.replicate n.toNat z.cps).foldl (· ++ ·) #[]⟩
theorem fold_size {α : Type} (cs : Array α) : ∀ (k : Nat) (acc : Array α), ((List.replicate k cs).foldl (· ++ ·) acc).size = acc.size + k * cs.size
  | 0, acc => by simp
  | k + 1, acc => by
    rw [List.replicate_succ, List.foldl_cons, fold_size cs k, Array.size_append, Nat.succ_mul]
    omega
theorem rep_len (z : Str) (n : Int) : (rep z n).length = n.toNat * z.length := by
  show ((List.replicate n.toNat z.cps).foldl (· ++ ·) #[]).size = _
  rw [fold_size]
  show 0 + _ = _
  rw [Nat.zero_add]
  rfl
def rStrMul : R2 := fun x y H Q => ∃ (z : Str) (n : Int), x = .str z ∧ y = .int n ∧ 2 ≤ n ∧ n ≤ 10000 ∧ 1 ≤ z.length ∧ z.length ≤ 1000 ∧ Q (.str (rep z n)) H
theorem op_strMul {X : Cx} : OpR X (binaryOp .Mult) rStrMul := by
  intro pins s σ H x y v u Q I rx ry h
  obtain ⟨z, n, rfl, rfl, n2, n1, z1, z2, q⟩ := h
  obtain ⟨t, rfl⟩ := rx
  obtain ⟨t', rfl⟩ := ry
  have e2 : (2 : Int) ^ 63 = 9223372036854775808 := by decide
  have hn1 : (n == 1) = false := by simp; omega
  have hz0 : (z.length == 0) = false := by simp; omega
  have big : z.length * n.toNat ≤ 1000 * 10000 := Nat.mul_le_mul z2 (by omega)
  refine PySem.P.mul_str (by simp; omega) (fun _ _ => ?_) (fun _ _ => ?_) ?_
  · have h1 : (1000 : Int) ≤ (2 ^ 63 - 1) / n := (Int.le_ediv_iff_mul_le (by omega)).mpr (by omega)
    omega
  · unfold Builtin.Str.tooLong
    rw [sizeLine_eq]
    exact decide_eq_false (by omega)
  · rw [if_neg (by omega), if_neg (by rw [hn1, hz0]; simp)]
    have hl := rep_len z n
    refine ⟨by show (rep z n).length ≤ sizeLine; rw [hl, Nat.mul_comm, sizeLine_eq]; omega, ?_⟩
    exact ⟨.str (rep z n), H, I.tok _, ⟨_, rfl⟩, q⟩
/-- the heap without what stands at p -/
def hid (p : Addr) (H : Hp) : Hp := fun b => if b = p then none else H b
theorem hid_ne {p b : Addr} {H : Hp} (h : b ≠ p) : hid p H b = H b := if_neg h
theorem hid_same {p : Addr} {H H' : Hp} (h : ∀ b o, b ≠ p → H b = some o → H' b = some o) : Same (hid p H) (hid p H') := fun b o e => by
  by_cases hb : b = p
  · subst hb
    have z : (none : Option HO) = some o := (if_pos rfl).symm.trans e
    cases z
  · rw [hid_ne hb] at e ⊢
    exact h b o hb e
theorem hid_out {p : Addr} {H : Hp} : Same (hid p H) H := fun b o e => by
  by_cases hb : b = p
  · subst hb
    have z : (none : Option HO) = some o := (if_pos rfl).symm.trans e
    cases z
  · rw [hid_ne hb] at e
    exact e
theorem same_upd {H : Hp} {q : Addr} {o : HO} (h : H q = none) : Same H (upd H q o) := fun b u e => by
  rw [upd_ne (ne_of_none e h)]
  exact e
def Dice (p : Addr) (H : Hp) : Prop := ∃ a b c, H p = some (dk a b c)
theorem Dice.same {p : Addr} {H H' : Hp} (h : Dice p H) (e : Same H H') : Dice p H' := by
  obtain ⟨a, b, c, z⟩ := h
  exact ⟨a, b, c, e _ _ z⟩
theorem Dice.ne {p q : Addr} {H : Hp} (h : Dice p H) (n : H q = none) : q ≠ p := by
  obtain ⟨a, b, c, z⟩ := h
  exact (ne_of_none z n).symm
theorem DvAll.length {K : PySem.W.Frag} {H : Hp} : ∀ {xs : List V} {ds : List PyData}, DvAll K H xs ds → xs.length = ds.length
  | _, [], h => by cases h; rfl
  | _, d :: ds, h => by cases h with | cons h1 h2 => rw [List.length_cons, List.length_cons, DvAll.length h2]
theorem DvAll.get {K : PySem.W.Frag} {H : Hp} : ∀ {ds : List PyData} {xs : List V} {i : Nat} {x : V}, DvAll K H xs ds → xs[i]? = some x → ∃ d, ds[i]? = some d ∧ Dv K H x d
  | [], _, i, x, h, e => by cases h; simp at e
  | d :: ds, _, 0, x, h, e => by cases h with | cons h1 h2 => simp at e; subst e; exact ⟨d, rfl, h1⟩
  | d :: ds, _, i + 1, x, h, e => by cases h with | cons h1 h2 => exact DvAll.get (i := i) h2 (by simpa using e)
theorem DvAll.append {K : PySem.W.Frag} {H : Hp} : ∀ {ds es : List PyData} {xs ys : List V}, DvAll K H xs ds → DvAll K H ys es → DvAll K H (xs ++ ys) (ds ++ es)
  | [], _, _, _, h, g => by cases h; exact g
  | d :: ds, _, _, _, h, g => by cases h with | cons h1 h2 => exact .cons h1 (DvAll.append h2 g)
section
variable {K : PySem.W.Frag} {p : Addr} {σ : L2.St}
def Ev1 (K : PySem.W.Frag) (p : Addr) (σ : L2.St) (te : TE) (d : PyData) : Prop := ∀ H Q, Dice p H → (∀ x H', Same H H' → Dv K (hid p H') x d → Q x H') → te σ H Q
def EvN (K : PySem.W.Frag) (p : Addr) (σ : L2.St) (ta : TA) (ds : List PyData) : Prop := ∀ H Q, Dice p H → (∀ xs H', Same H H' → DvAll K (hid p H') xs ds → Q xs H') → ta σ H Q
theorem ev_non : Ev1 K p σ (tC .non) .none := fun H Q _ q => q _ H (Same.refl H) .non
theorem ev_bl {b : Bool} : Ev1 K p σ (tC (.bl b)) (.bool b) := fun H Q _ q => q _ H (Same.refl H) (.bl b)
theorem ev_int {i : Int} : Ev1 K p σ (tC (.int i)) (.int i) := fun H Q _ q => q _ H (Same.refl H) (.int i)
theorem ev_str {z : Str} : Ev1 K p σ (tC (.str z)) (.str z) := fun H Q _ q => q _ H (Same.refl H) (.str z)
theorem ev_neg {i : Int} : Ev1 K p σ (tUn (rU fun i => .int (-i)) (tC (.int i))) (.int (-i)) := fun H Q _ q => ⟨i, rfl, q _ H (Same.refl H) (.int _)⟩
theorem ev_pow {i j : Int} (h : PowBits i j) : Ev1 K p σ (tOp (rI PowBits fun i j => .int (i ^ j.toNat)) (tC (.int i)) (tC (.int j))) (.int (i ^ j.toNat)) := fun H Q _ q => ⟨i, j, rfl, rfl, h, q _ H (Same.refl H) (.int _)⟩
theorem ev_rep {z : Str} {n : Int} (h : 2 ≤ n ∧ n ≤ 10000 ∧ 1 ≤ z.length ∧ z.length ≤ 1000) : Ev1 K p σ (tOp rStrMul (tC (.str z)) (tC (.int n))) (.str (rep z n)) := fun H Q _ q => ⟨z, n, rfl, rfl, h.1, h.2.1, h.2.2.1, h.2.2.2, q _ H (Same.refl H) (.str _)⟩
theorem ev_nil : EvN K p σ tNil [] := fun H Q _ q => q _ H (Same.refl H) .nil
theorem ev_cons {te : TE} {ta : TA} {d : PyData} {ds : List PyData} (h : Ev1 K p σ te d) (g : EvN K p σ ta ds) : EvN K p σ (tCons te ta) (d :: ds) := fun H Q D q =>
  h H _ D fun x H1 e1 v1 => g H1 _ (D.same e1) fun xs H2 e2 v2 => q _ H2 (e1.trans e2) (.cons (v1.same (hid_same fun b o _ z => e2 b o z)) v2)
theorem ev_tup {ta : TA} {ds : List PyData} (g : EvN K p σ ta ds) (hl : ds.length ≤ 1000) : Ev1 K p σ (tTup ta) (.tuple ds) := fun H Q D q =>
  g H _ D fun xs H1 e1 v1 => ⟨by rw [v1.length]; exact Nat.le_of_lt (small1000 hl), fun a na => q _ _ (e1.trans (same_upd na)) (.tup (xs := xs) (.of (by rw [hid_ne ((D.same e1).ne na), upd_same])) (v1.same (hid_same fun b o _ z => same_upd na b o z)))⟩
theorem ev_lst {ta : TA} {ds : List PyData} (g : EvN K p σ ta ds) (hl : ds.length ≤ 1000) : Ev1 K p σ (tLst ta) (.list ds) := fun H Q D q =>
  g H _ D fun xs H1 e1 v1 => ⟨by rw [v1.length]; exact Nat.le_of_lt (small1000 hl), fun a na => q _ _ (e1.trans (same_upd na)) (.lst (xs := xs) (.of (by rw [hid_ne ((D.same e1).ne na), upd_same])) (v1.same (hid_same fun b o _ z => same_upd na b o z)))⟩
theorem ev_dict0 : Ev1 K p σ tDNewK (.dict []) := fun H Q D q => fun a na => q _ _ (same_upd na) (.dic (kvs := []) (by rw [hid_ne (D.ne na), upd_same]) rfl .nil)
theorem ev_dict1 {k : Str} {i : Int} : Ev1 K p σ (tDisp [(tC (.str k), tC (.int i))]) (.dict [(.str k, .int i)]) := fun H Q D q => fun a na => by
  refine ⟨upd_same, [(.inr k, .int i)], rfl, (by show 1 ≤ 15; decide), ?_⟩
  rw [upd_upd]
  exact q _ _ (same_upd na) (.dic (kvs := [(.inr k, .int i)]) (by rw [hid_ne (D.ne na), upd_same]; rfl) rfl (.cons (.int i) .nil))
end
end K0
end
/-! ### A1 -/
section
set_option Elab.async false
set_option linter.all false
set_option maxRecDepth 100000
set_option maxHeartbeats 4000000
/-! Values by their data: types, signs, texts, numbers; strip of a set of signs leaves nothing just of texts of them. -/
namespace K0
open PySem PySem.Spec PyProof.Rows L2
def dty : PyData → String
  | .none => "NoneType"
  | .bool _ => "bool"
  | .int _ => "int"
  | .str _ => "str"
  | .list _ => "list"
  | .tuple _ => "tuple"
  | .dict _ => "dict"
theorem Dv.ty {K : PySem.W.Frag} {H : Hp} {v : V} {d : PyData} (h : Dv K H v d) : TyX K H v (.type (dty d)) := by
  cases h with
  | non => exact .base .non
  | bl b => exact .base (.bl b)
  | int i => exact .base (.int i)
  | str x => exact .base (.str x)
  | lst h1 h2 =>
    rcases h1 with (h1 | ⟨o, h1⟩) | ⟨o, its, n, h1, c, _⟩
    · exact .base (.lst h1)
    · exact .base (.frz h1)
    · exact .kList h1 c
  | tup h1 h2 =>
    rcases h1 with (h1 | ⟨o, h1⟩) | ⟨o, its, n, h1, c, _⟩
    · exact .base (.tup h1)
    · exact .fTuple h1
    · exact .kTuple h1 c
  | dic h1 h2 h3 => exact .base (.dK h1)
def isStrD : PyData → Bool
  | .str _ => true
  | _ => false
def isIntD : PyData → Bool
  | .int _ => true
  | .bool _ => true
  | _ => false
def isBoolD : PyData → Bool
  | .bool _ => true
  | _ => false
def isTupD : PyData → Bool
  | .tuple _ => true
  | _ => false
section
variable {K : PySem.W.Frag}
theorem kit_str (d : PyData) : PySem.W.kitOne K (.type (dty d)) (.type "str") = some (isStrD d) := by cases d <;> (dsimp only [dty, isStrD, isIntD, isBoolD, isTupD]; exact kit_ty (by decide +kernel))
theorem kit_int (d : PyData) : PySem.W.kitOne K (.type (dty d)) (.type "int") = some (isIntD d) := by cases d <;> (dsimp only [dty, isStrD, isIntD, isBoolD, isTupD]; exact kit_ty (by decide +kernel))
theorem kit_bool (d : PyData) : PySem.W.kitOne K (.type (dty d)) (.type "bool") = some (isBoolD d) := by cases d <;> (dsimp only [dty, isStrD, isIntD, isBoolD, isTupD]; exact kit_ty (by decide +kernel))
theorem kit_tup (d : PyData) : PySem.W.kitOne K (.type (dty d)) (.type "tuple") = some (isTupD d) := by cases d <;> (dsimp only [dty, isStrD, isIntD, isBoolD, isTupD]; exact kit_ty (by decide +kernel))
/-- isinstance(v, T) of a value that is data -/
theorem rd_isi {H : Hp} {Q : VK} {v : V} {d : PyData} {n : String} {b : Bool} (h : Dv K H v d) (k : PySem.W.kitOne K (.type (dty d)) (.type n) = some b) (q : Q (.bl b) H) : rIsi K [v, .ty n] H Q := ⟨v, .ty n, _, _, b, rfl, .ty n, h.ty, k, q⟩
end
/-! ### strip -/
theorem takeWhile_all {g : Nat → Bool} : ∀ {l : List Nat}, l.all g = true → l.takeWhile g = l
  | [], _ => rfl
  | c :: l, h => by
    rw [List.all_cons, Bool.and_eq_true] at h
    rw [List.takeWhile_cons_of_pos h.1, takeWhile_all h.2]
theorem takeWhile_len {g : Nat → Bool} : ∀ (l : List Nat), (l.takeWhile g).length ≤ l.length
  | [] => Nat.le_refl _
  | c :: l => by
    by_cases h : g c = true
    · rw [List.takeWhile_cons_of_pos h]
      exact Nat.succ_le_succ (takeWhile_len l)
    · rw [List.takeWhile_cons_of_neg h]
      exact Nat.zero_le _
theorem takeWhile_full {g : Nat → Bool} : ∀ {l : List Nat}, (l.takeWhile g).length = l.length → l.all g = true
  | [], _ => rfl
  | c :: l, h => by
    by_cases z : g c = true
    · rw [List.takeWhile_cons_of_pos z, List.length_cons, List.length_cons] at h
      rw [List.all_cons, z, Bool.true_and]
      exact takeWhile_full (by omega)
    · rw [List.takeWhile_cons_of_neg z] at h
      simp at h
theorem drop_takeWhile {g : Nat → Bool} : ∀ (l : List Nat), l.drop (l.takeWhile g).length = [] ∨ ∃ c r, l.drop (l.takeWhile g).length = c :: r ∧ g c = false
  | [] => .inl rfl
  | c :: l => by
    by_cases h : g c = true
    · rw [List.takeWhile_cons_of_pos h]
      exact drop_takeWhile l
    · rw [List.takeWhile_cons_of_neg h]
      exact .inr ⟨c, l, rfl, by simpa using h⟩
theorem strSub_len (x : Str) (i j : Nat) : (Builtin.Str.strSub x i j).length = min j x.length - i := by
  show (x.cps.extract i j).size = _
  rw [Array.size_extract]
  rfl
theorem str_nil {x : Str} : x = ("" : Str) ↔ x.length = 0 := by
  constructor
  · rintro rfl
    rfl
  · intro h
    obtain ⟨a⟩ := x
    have z : a = #[] := Array.eq_empty_of_size_eq_zero h
    rw [z]
    rfl
theorem strip_len (x y : Str) : (Txt.stripChars x y).length = 0 ↔ x.cps.toList.all (fun c => y.cps.contains c) = true := by
  have e : Txt.stripChars x y = PySem.W.stripped (fun c => y.cps.contains c) true true x := by
    rw [Txt.stripChars, stripBy_eq]
    rfl
  rw [e]
  unfold PySem.W.stripped
  simp only [if_true]
  rw [strSub_len]
  generalize hg : (fun c => y.cps.contains c) = g
  have hl : x.length = x.cps.toList.length := by
    show x.cps.size = _
    simp
  have h1 := takeWhile_len (g := g) x.cps.toList
  have h2 := takeWhile_len (g := g) (x.cps.toList.drop (x.cps.toList.takeWhile g).length).reverse
  rw [List.length_reverse, List.length_drop] at h2
  constructor
  · intro h
    refine takeWhile_full (g := g) ?_
    rcases drop_takeWhile (g := g) x.cps.toList with z | ⟨c, r, z, hc⟩
    · have z2 := congrArg List.length z
      rw [List.length_drop, List.length_nil] at z2
      omega
    · have z3 : (((x.cps.toList.drop (x.cps.toList.takeWhile g).length).reverse).takeWhile g).length < (x.cps.toList.drop (x.cps.toList.takeWhile g).length).length := by
        refine Nat.lt_of_le_of_ne (by rw [List.length_drop]; exact h2) fun w => ?_
        have w2 := takeWhile_full (g := g) (l := (x.cps.toList.drop (x.cps.toList.takeWhile g).length).reverse) (by rw [List.length_reverse]; exact w)
        rw [z, List.reverse_cons, List.all_append, Bool.and_eq_true] at w2
        have w3 := w2.2
        rw [List.all_cons, hc] at w3
        cases w3
      rw [List.length_drop] at z3
      omega
  · intro h
    rw [takeWhile_all h, List.drop_length]
    simp [hl]
end K0
end
/-! ### A2 -/
section
set_option Elab.async false
set_option linter.all false
set_option maxRecDepth 100000
set_option maxHeartbeats 4000000
/-! is_number, is_sign, is_text, and the same told sign by sign. -/
namespace K0
open PySem PySem.Spec PyProof.Rows L2
def sgAll (z : Str) : Bool := z.cps.toList.all fun c => allSigns.cps.contains c
def isTextD : PyData → Bool
  | .str z => sgAll z
  | _ => false
def isSignD : PyData → Bool
  | .str z => decide (z.length = 1) && sgAll z
  | _ => false
def isNumD (lo hi : Int) : PyData → Bool
  | .int i => decide (lo ≤ i) && decide (i ≤ hi)
  | _ => false
theorem sg_mem (c : Nat) : allSigns.cps.contains c = decide (c ∈ allSigns.cps.toList) := by
  rw [Array.contains_eq_mem]
  exact decide_eq_decide.mpr Array.mem_toList_iff.symm
theorem one_cp {z : Str} (h : z.length = 1) : ∃ c, z = ⟨#[c]⟩ := by
  obtain ⟨⟨l⟩⟩ := z
  match l, h with
  | [c], _ => exact ⟨c, rfl⟩
theorem not_str {d : PyData} (h : ¬ isStrD d = true) : isTextD d = false ∧ isSignD d = false := by
  cases d <;> first | exact ⟨rfl, rfl⟩ | exact absurd rfl h
theorem is_str {K : PySem.W.Frag} {H : Hp} {v : V} {d : PyData} (hd : Dv K H v d) (h : isStrD d = true) : ∃ z, v = .str z ∧ d = .str z := by
  cases hd <;> first | exact ⟨_, rfl, rfl⟩ | cases h
theorem scText : FnScope ["value"] ["value"] (defScope (top iIsText)) := ⟨rfl, rfl, rfl, by decide +kernel, rfl, by decide +kernel, by decide +kernel⟩
def spNum (K : PySem.W.Frag) : Sp := fun vs H Q _ => ∃ (v : V) (d : PyData) (lo hi : Int), vs = [v, .int lo, .int hi] ∧ Dv K H v d ∧ Q (.bl (isNumD lo hi d)) H
/-- a bool that hangs on the value's data; what is told is that f of it; texts are short enough -/
def spD (K : PySem.W.Frag) (f : PyData → Bool) : Sp := fun vs H Q _ => ∃ (v : V) (d : PyData), vs = [v] ∧ Dv K H v d ∧ d.bulk ≤ 100000 ∧ ∀ H', Same H H' → Q (.bl (f d)) H'
theorem small5 {n : Nat} (h : n ≤ 100000) : n < sizeLine := by rw [sizeLine_eq]; omega
section
variable {P : Program} {w : World} {K : PySem.W.Frag} {mg : Str → Option Value} {base : Heap} {f : Addr} {fd : FuncData}
theorem ok_text {k : Nat} (F : FnP K "is_text" iIsText f fd) (misi : mg "isinstance" = none) (mstr : mg "str" = none) (ms : ∃ t, mg "SIGNS" = some (.str allSigns t)) : FnOk P w K mg base CX0 (k + 1) f fd ["value"] (spD K isTextD) := by
  refine F.ok scText (fun vs H Q E h => ?_) (fun cdv A outer s H vs Q E hr h => ?_)
  · obtain ⟨v, d, rfl, _⟩ := h
    rfl
  · obtain ⟨v, d, rfl, hd, sz, q⟩ := h
    obtain ⟨t, ms⟩ := ms
    refine ⟨_, PSs.nox (pss_one (ps_ret (pe_and (pe_callB call_isi (by rfl) misi boot_isinstance (pa_cons (pv 0) (pa_cons (pe_bltn (v := .ty "str") (by rfl) mstr (by decide +kernel) rfl) pa_nil)))
      (pe_one (pe_cmpR op_eq (pe_bm PySem.F.plainAttrs_str PySem.F.slot_str_strip PySem.F.type_str_strip mt_stripChars (pv 0) (pa_cons (pe_glob (v := .str allSigns) (by rfl) ms ⟨t, rfl⟩) pa_nil)) pe_str (nomark _)))))), ?_⟩
    refine ⟨_, rfl, v, _, _, _, _, rfl, .ty _, hd.ty, kit_str d, _, rfl, ite2 (fun e => ?_) (fun e => ?_)⟩
    · obtain ⟨z, rfl, rfl⟩ := is_str hd e
      refine ⟨_, rfl, rfl, z, allSigns, rfl, rfl, Nat.le_of_lt (small5 sz), rfl, ?_⟩
      have y : isTextD (.str z) = decide (V.str (Txt.stripChars z allSigns) = V.str ("" : Str)) := by
        have x := (strip_len z allSigns)
        by_cases u : (Txt.stripChars z allSigns).length = 0
        · rw [decide_eq_true (by rw [str_nil.mpr u])]
          exact x.mp u
        · rw [decide_eq_false (fun w => u (by injection w with w; exact str_nil.mp w))]
          exact Bool.eq_false_iff.mpr fun w => u (x.mpr w)
      have q2 := q H (Same.refl H)
      rw [y] at q2
      exact q2
    · have q2 := q H (Same.refl H)
      rw [(not_str e).1] at q2
      exact q2
end
end K0
end
/-! ### A5 -/
section
set_option Elab.async false
set_option linter.all false
set_option maxRecDepth 100000
set_option maxHeartbeats 4000000
/-! list(text); items in a drawn order. -/
namespace K0
open PySem PySem.Spec PyProof.Rows L2
def signsV (z : Str) : List V := z.cps.toList.map fun c => V.str ⟨#[c]⟩
theorem signs_vals {z : Str} {acc : Array Value} (h : ItemsOf (SignAt z) acc z.cps.size) : Vals (signsV z) acc.toList := by
  obtain ⟨h1, h2⟩ := h
  have go : ∀ (l : List Nat) (us : List Value), us.length = l.length → (∀ (j : Nat) (v : Value), us[j]? = some v → ∃ (c : Nat) (u : Tok), l[j]? = some c ∧ v = Value.str ⟨#[c]⟩ u) → Vals (l.map fun c => V.str ⟨#[c]⟩) us := by
    intro l
    induction l with
    | nil =>
      intro us e _
      rw [List.eq_nil_of_length_eq_zero e]
      exact .nil
    | cons c l ih =>
      intro us e f
      cases us with
      | nil => cases e
      | cons u us =>
        obtain ⟨c', t, e1, e2⟩ := f 0 u rfl
        cases e1
        refine .cons ⟨t, e2⟩ (ih us (by simpa using e) fun j v z => ?_)
        exact f (j + 1) v z
  refine go _ _ (by simpa using h1) fun j v e => ?_
  obtain ⟨c, u, e1, e2⟩ := h2 j v (by simpa using e)
  exact ⟨c, u, by simpa using e1, e2⟩
section
variable {X : Cx}
theorem call_list_txt (hc : X.calm = true) : CallR X (.type "list") (fun xs H Q => ∃ z, xs = [.str z] ∧ z.length ≤ sizeLine ∧ ∀ l, H l = none → Q (.ref l) (upd H l (.lst (signsV z)))) := by
  intro pins s σ H xs us Q I r h
  obtain ⟨z, rfl, hz, q⟩ := h
  obtain ⟨u, rfl, t, rfl⟩ := vals1 r
  refine call_list_str (I.ok.hd hc) z t (fun h' tk acc c kp e it => ?_) hz
  refine ⟨.ref s.heap.objs.size, _, I.laid (t' := tk) kp (Nat.le_refl _) (show ObjOk X.prog X.w _ h' _ (.lst (signsV z)) from ⟨?_, acc.toList, c, signs_vals it, e⟩), rfl, q _ (I.hok.fresh (Nat.le_refl _))⟩
  show (signsV z).length ≤ sizeLine
  unfold signsV
  rw [List.length_map]
  exact hz
end
theorem mr_popAt {X : Cx} : MtR X "list.pop" rPopAt := mt_popAt
def rLenS (K : PySem.W.Frag) : List V → Hp → VK → Prop := fun xs H Q => ∃ p ys, xs = [.ref p] ∧ (SqL K H p ys ∨ SqT K H p ys) ∧ Q (.int ys.length) H
/-- within a comprehension, where the written part must be named -/
theorem call_lenK {X : Cx} (K : PySem.W.Frag) (e : X.K = K) : CallR X (.builtin "len") (rLenS K) := by
  subst e
  exact call_len_seq
theorem pe_asK {X : Cx} {e : Expr} {T : String} {r : V → List V → Hp → VK → Prop} {to : TE} {t : TA} (K : PySem.W.Frag) (hK : X.K = K) (h : PE X e (tBM X.K T r to t)) : PE X e (tBM K T r to t) := hK ▸ h
theorem taken_perm {α : Type} : ∀ {l : List α} {i : Nat} {y : α}, l[i]? = some y → (y :: l.eraseIdx i).Perm l
  | x :: l, 0, y, h => by
    cases h
    exact List.Perm.refl _
  | x :: l, i + 1, y, h => by
    have z := taken_perm (l := l) (i := i) (y := y) (by simpa using h)
    exact (List.Perm.swap x y _).trans (z.cons x)
theorem scMixed : FnScope ["dice", "items", "left", "turn"] ["dice", "items"] (defScope (top iMixed)) := ⟨rfl, rfl, rfl, by decide +kernel, rfl, by decide +kernel, by decide +kernel⟩
def spMixed (K : PySem.W.Frag) : Sp := fun vs H Q _ => ∃ (p : Addr) (a b c : Int) (q : Addr) (xs : List V), vs = [.ref p, .ref q] ∧ H p = some (dk a b c) ∧ SqL K H q xs ∧ xs.length ≤ 1000 ∧ ∀ H' l ys, Keep p H H' → ys.Perm xs → H' l = some (.lst ys) → l ≠ p → Q (.ref l) H'
section
variable {P : Program} {w : World} {K : PySem.W.Frag} {mg : Str → Option Value} {base : Heap} {f fR : Addr} {fd fdR : FuncData}
theorem ok_mixed {k : Nat} (F : FnP K "_law_mixed" iMixed f fd) (mlist : mg "list" = none) (mlen : mg "len" = none) (mrange : mg "range" = none)
    (FR : FnOk P w K mg base CX0 (k + 1) fR fdR ["dice", "total"] spRoll) (gR : mg "_law_roll" = some (.ref fR)) (kR : PySem.W.keepIn K (.ref fR) = true) (bR : Binds K fdR ["dice", "total"] []) : FnOk P w K mg base CX0 (k + 2) f fd ["dice", "items"] (spMixed K) := by
  refine F.ok scMixed (fun vs H Q E h => ?_) (fun cdv A outer s H vs Q E hr h => ?_)
  · obtain ⟨p, a, b, c, q, xs, rfl, _⟩ := h
    rfl
  · obtain ⟨p, a, b, c, ad, xs, rfl, hp, hS, hz, q⟩ := h
    refine ⟨_, PSs.nox (pss_cons (ps_set (i := 2) scMixed.nd rfl (.inr rfl) (pe_callTy call_list_of (by rfl) mlist (by decide +kernel) (pa_cons (pv 1) pa_nil)))
      (pss_one (ps_ret (pe_lc (own := [("turn", 3)]) (g := gName 3) (tt := tYes) rfl scMixed.nd (pi_range1 (by rfl) mrange (pa_cons (pe_callB call_len_seq (by rfl) mlen PySem.boot_len (pa_cons (pv 1) pa_nil)) pa_nil)) (blkOk_by (N := ["dice", "items", "left", "turn"]) (sc := defScope (top iMixed)) (by decide +kernel))
        (fun _ _ _ _ _ => pg_name (i := 3) scMixed.nd rfl (Or.inl rfl)) (fun _ _ _ _ _ => pts_nil) (fun _ _ _ _ _ => pe_asK K rfl (pe_bm PySem.F.plainAttrs_list PySem.F.slot_list_pop PySem.F.type_list_pop mr_popAt (pv 2) (pa_cons (pe_call FR hr (by rfl) gR kR bR .nil pass0 (pa_cons (pv 0) (pa_cons (pe_callB (call_lenK K rfl) (by rfl) mlen PySem.boot_len (pa_cons (pv 2) pa_nil)) pa_nil))) pa_nil))))))), ?_⟩
    refine ⟨_, rfl, ad, xs, rfl, .inl hS, fun L nL => ?_⟩
    have k1 : Keep p H (upd H L (.lst xs)) := .new hp nL
    have s1 : Same H (upd H L (.lst xs)) := same_upd nL
    have nLp : L ≠ p := (ne_of_none hp nL).symm
    have e62 : (2 : Int) ^ 62 = 4611686018427387904 := by decide
    refine ⟨_, rfl, ad, xs, rfl, .inl (s1.seq hS), _, rfl, by omega, by omega, fun D nD => lc_range (lo := 0) (n := xs.length) (fun m H' => Keep p H H' ∧ D ≠ L ∧ D ≠ p ∧ ∃ rest got, H' L = some (.lst rest) ∧ H' D = some (.lst got) ∧ got.length = m ∧ (got ++ rest).Perm xs) ⟨k1.new2 nD, fun z => ?_, fun z => ?_, xs, [], ?_, upd_same, rfl, .refl _⟩ (fun m H' hm hP => ?_) (fun H' hP => ?_)⟩
    · rw [z, upd_same] at nD
      cases nD
    · rw [z, upd_ne nLp.symm, hp] at nD
      cases nD
    · exact same_upd nD _ _ upd_same
    · obtain ⟨kk, nDL, nDp, rest, got, hL, hD, hg, pm⟩ := hP
      obtain ⟨a1, b1, c1, hp1⟩ := kk.2
      have len := pm.length_eq
      rw [List.length_append] at len
      have r0 : 0 < rest.length := by omega
      refine ⟨rfl, _, rfl, .inl ⟨rfl, _, .of hL⟩, _, rfl, _, rfl, L, rest, rfl, .inl (.of hL), p, a1, b1, c1, rest.length, rfl, hp1, len_div r0 (Nat.le_of_lt (small1000 (by omega))), fun a2 b2 c2 r h0 h1 => ?_⟩
      · have hr2 : r.toNat < rest.length := by omega
        have hy : rest[r.toNat]? = some rest[r.toNat] := List.getElem?_eq_getElem hr2
        have e63 : (2 : Int) ^ 63 = 9223372036854775808 := by decide
        have hL2 : upd H' p (dk a2 b2 c2) L = some (.lst rest) := by rw [upd_ne nLp]; exact hL
        refine ⟨L, rest, r, r.toNat, _, rfl, rfl, hL2, by omega, by omega, seqIndex_of h0 h1, hy, got, ?_, by rw [hg]; exact small1000 (by omega), ?_, nDL, nDp, rest.eraseIdx r.toNat, got ++ [rest[r.toNat]], ?_, upd_same, ?_, ?_⟩
        · rw [upd_ne nDL, upd_ne nDp]
          exact hD
        · refine ⟨fun y o n z => ?_, a2, b2, c2, ?_⟩
          · rw [upd_ne (ne_of_none (k1.1 y o n (by exact z)) nD), upd_ne (ne_of_none z nL), upd_ne n]
            exact kk.1 y o n z
          · rw [upd_ne nDp.symm, upd_ne nLp.symm, upd_same]
        · rw [upd_ne nDL.symm, upd_same]
        · rw [List.length_append, hg]
          rfl
        · rw [List.append_assoc]
          exact ((taken_perm hy).append_left got).trans pm
    · obtain ⟨kk, nDL, nDp, rest, got, hL, hD, hg, pm⟩ := hP
      have len := pm.length_eq
      rw [List.length_append] at len
      have e0 : rest = [] := List.eq_nil_of_length_eq_zero (by omega)
      rw [e0, List.append_nil] at pm
      exact q H' D got kk pm hD nDp
end
end K0
end
/-! ### A5b -/
section
set_option Elab.async false
set_option linter.all false
set_option maxRecDepth 100000
set_option maxHeartbeats 4000000
/-! Tuples that are known to stand as they were made: tuple(list), displays. -/
namespace K0
open PySem PySem.Spec PyProof.Rows L2
/-- a tuple that stands as it was made -/
def FrT (H : Hp) (t : Addr) (xs : List V) : Prop := ∃ o : Obj, H t = some (.frz o (.tup xs)) ∧ o.cls = .type "tuple" ∧ o.dict = none
theorem FrT.sq {K : PySem.W.Frag} {H : Hp} {t : Addr} {xs : List V} (h : FrT H t xs) : SqT K H t xs := let ⟨o, e, _⟩ := h; .inl (.inr ⟨o, e⟩)
theorem FrT.same {H H' : Hp} {t : Addr} {xs : List V} (h : FrT H t xs) (s : Same H H') : FrT H' t xs := let ⟨o, e, z⟩ := h; ⟨o, s _ _ e, z⟩
/-- what a fresh address holds behind a tuple's making -/
def frzT (us : List Value) (xs : List V) : HO := .frz { cls := .type "tuple", data := .seq us.toArray } (.tup xs)
theorem frzT_at {H : Hp} {t : Addr} {us : List Value} {xs : List V} : FrT (upd H t (frzT us xs)) t xs := ⟨_, upd_same, rfl, rfl⟩
section
variable {X : Cx}
theorem call_tuple_frz : CallR X (.type "tuple") (fun xs H Q => ∃ p ys, xs = [.ref p] ∧ SqL X.K H p ys ∧ ∀ t us, H t = none → Q (.ref t) (upd H t (frzT us ys))) := by
  intro pins s σ H xs us Q I r h
  obtain ⟨p, ys, rfl, hq, q⟩ := h
  obtain ⟨u, rfl, rx⟩ := vals1 r
  cases rx
  obtain ⟨its, r', pl, hz⟩ := I.list hq
  have size := r'.length
  refine call_tuple_list pl.isList (fun h' kp => ?_) (by simp only [List.size_toArray] <;> omega)
  have J : Inv X pins σ H { s with heap := h' } := I.kept (t' := s.toks) kp
  refine ⟨.ref h'.objs.size, _, J.laid (t' := s.toks) (fun b o e => Heap.get?_push_of_some _ e) (Nat.le_refl _) (show ObjOk X.prog X.w _ _ _ (frzT its ys) from ⟨Heap.get?_push_size _ rfl, hz, its, r', IsTup.new _ _⟩), rfl, q _ its (J.hok.fresh (Nat.le_refl _))⟩
def tTupF (t : TA) : TE := fun σ H Q => t σ H fun xs H1 => xs.length ≤ sizeLine ∧ ∀ a us, H1 a = none → Q (.ref a) (upd H1 a (frzT us xs))
theorem pe_tupF {es : List Expr} {k : Nat} {pos : Pos} {t : TA} (h : PA X es t) : PE X (.Tuple es k pos) (tTupF t) := by
  refine ⟨fun pins s σ H Q I hq => wpAny_Tuple_spliced (thn (h.run pos pins s σ H _ I hq) fun us s1 ⟨xs, H1, J, r, z, q⟩ => ⟨by rw [← r.length]; exact z, ?_⟩)⟩
  refine ⟨.ref s1.heap.objs.size, _, J.laid (t' := s1.toks) (fun b u e => Heap.get?_push_of_some _ e) (Nat.le_refl _) (show ObjOk X.prog X.w _ _ _ (frzT us xs) from ⟨Heap.get?_push_size _ rfl, z, us, r, ⟨_, Heap.get?_push_size _ rfl, rfl, _, rfl⟩⟩), rfl, q _ us (J.hok.fresh (Nat.le_refl _))⟩
end
end K0
end
/-! ### A6 -/
section
set_option Elab.async false
set_option linter.all false
set_option maxRecDepth 100000
set_option maxHeartbeats 4000000
/-! Drawn ascending signs. -/
namespace K0
open PySem PySem.Spec PyProof.Rows L2
def oneS (c : Nat) : Str := ⟨#[c]⟩
def oneV (c : Nat) : V := V.str (oneS c)
def codeS (z : Str) : Nat := z.cps.getD 0 0
def codeV : V → Nat
  | .str z => codeS z
  | _ => 0
theorem perm_codes {α : Type} {f : Nat → α} {g : α → Nat} (gf : ∀ c, g (f c) = c) {ys : List α} {l : List Nat} (h : ys.Perm (l.map f)) : ∃ cs : List Nat, cs.Perm l ∧ ys = cs.map f := by
  refine ⟨ys.map g, ?_, ?_⟩
  · have z := h.map g
    rw [List.map_map, show (g ∘ f) = id from funext gf, List.map_id] at z
    exact z
  · rw [List.map_map]
    have : ∀ y ∈ ys, (f ∘ g) y = y := fun y hy => by
      obtain ⟨c, _, rfl⟩ := List.mem_map.mp (h.mem_iff.mp hy)
      show f (g (f c)) = f c
      rw [gf]
    exact ((List.map_congr_left (g := id) this).trans (List.map_id ys)).symm
theorem rising_pw : ∀ (r : List Nat) (c : Nat), risingS (oneS c) (r.map oneS) = true → (c :: r).Pairwise (· ≤ ·)
  | [], c, _ => by simp
  | d :: r, c, h => by
    rw [List.map_cons, risingS, Bool.and_eq_true] at h
    obtain ⟨h1, h2⟩ := h
    have cd : c ≤ d := by
      have y : ltCps (oneS d).cps.toList (oneS c).cps.toList = false := by simpa using h1
      have z : ltCps [d] [c] = false := y
      simp [ltCps] at z
      exact z
    have pw := rising_pw r d h2
    refine List.pairwise_cons.mpr ⟨fun e he => ?_, pw⟩
    rcases List.mem_cons.mp he with rfl | he
    · exact cd
    · exact Nat.le_trans cd ((List.pairwise_cons.mp pw).1 e he)
theorem sorted_pw {cs : List Nat} (h : sortedS (cs.map oneS) = true) (nd : cs.Nodup) : cs.Pairwise (· < ·) := by
  have le : cs.Pairwise (· ≤ ·) := by
    cases cs with
    | nil => simp
    | cons c r => exact rising_pw r c h
  exact (le.and nd).imp fun z => Nat.lt_of_le_of_ne z.1 z.2
def someSigns : Str := "$:_ab"
theorem cutV_take (xs : List V) (i : Int) : cutV xs none (some i) = xs.take (HT.sIx xs.length xs.length (some i)) := by
  unfold cutV
  rw [HT.sIx_none, List.drop_zero, Nat.sub_zero]
theorem pools : ∀ z, (z = someSigns ∨ z = allSigns) → z.length ≤ 15 ∧ z.cps.toList ≠ [] ∧ z.cps.toList.Nodup ∧ ∀ c ∈ z.cps.toList, c ∈ allSigns.cps.toList := by
  rintro z (rfl | rfl)
  · exact ⟨by decide +kernel, by decide +kernel, by decide +kernel, by decide +kernel⟩
  · exact ⟨by decide +kernel, by decide +kernel, by decide +kernel, fun _ h => h⟩
theorem scLSigns : FnScope ["dice", "upto", "pool", "size"] ["dice", "upto"] (defScope (top iSigns)) := ⟨rfl, rfl, rfl, by decide +kernel, rfl, by decide +kernel, by decide +kernel⟩
def spSigns : Sp := fun vs H Q _ => ∃ (p : Addr) (a b c up : Int), vs = [.ref p, .int up] ∧ H p = some (dk a b c) ∧ 1 ≤ up ∧ up ≤ 15 ∧
  ∀ H' t (cs : List Nat), Keep p H H' → FrT H' t (cs.map oneV) → cs.Pairwise (· < ·) → cs ≠ [] → (∀ c ∈ cs, c ∈ allSigns.cps.toList) → (cs.length : Int) ≤ up → Q (.ref t) H'
section
variable {P : Program} {w : World} {K : PySem.W.Frag} {mg : Str → Option Value} {base : Heap} {f fR fA fM : Addr} {fd fdR fdA fdM : FuncData}
theorem ok_lsigns {k : Nat} (F : FnP K "_law_signs" iSigns f fd) (mlist : mg "list" = none) (mtuple : mg "tuple" = none) (msorted : mg "sorted" = none)
    (FR : FnOk P w K mg base CX0 (k + 2) fR fdR ["dice", "total"] spRoll) (gR : mg "_law_roll" = some (.ref fR)) (kR : PySem.W.keepIn K (.ref fR) = true) (bR : Binds K fdR ["dice", "total"] [])
    (FA : FnOk P w K mg base CX0 (k + 2) fA fdA [] spAll) (gA : mg "_law_all_signs" = some (.ref fA)) (kA : PySem.W.keepIn K (.ref fA) = true) (bA : Binds K fdA [] [])
    (FM : FnOk P w K mg base CX0 (k + 2) fM fdM ["dice", "items"] (spMixed K)) (gM : mg "_law_mixed" = some (.ref fM)) (kM : PySem.W.keepIn K (.ref fM) = true) (bM : Binds K fdM ["dice", "items"] []) :
    FnOk P w K mg base CX0 (k + 3) f fd ["dice", "upto"] spSigns := by
  refine F.ok scLSigns (fun vs H Q E h => ?_) (fun cdv A outer s H vs Q E hr h => ?_)
  · obtain ⟨p, a, b, c, up, rfl, _⟩ := h
    rfl
  · obtain ⟨p, a, b, c, up, rfl, hp, u1, u2, q⟩ := h
    refine ⟨_, PSs.nox (C8.pss_cut (ps_par (i := 2) (j := 3) (by rfl) scLSigns.nd rfl rfl (by decide) rfl rfl (pa_cons (pe_ifExp (PW.pt (pw_and (pt_cmpR op_lt (pv 1) pe_int (nomark _)) (pw_and1 (pt_cmpR op_gt (pe_call FR hr (by rfl) gR kR bR .nil pass0 (pa_cons (pv 0) (pa_cons pe_int pa_nil))) pe_int (nomark _))))) pe_str (pe_call0 FA hr (by rfl) gA kA bA .nil pass0))
          (pa_cons (pe_op op_add pe_int (pe_call FR hr (by rfl) gR kR bR .nil pass0 (pa_cons (pv 0) (pa_cons (pv 1) pa_nil)))) pa_nil)) (by rfl))
      (pss_one (ps_ret (pe_callTy call_tuple_frz (by rfl) mtuple (by decide +kernel) (pa_cons (pe_callB cr_sortedS (by rfl) msorted (by decide +kernel) (pa_cons (pe_slice sl_list (pe_call FM hr (by rfl) gM kM bM .nil pass0 (pa_cons (pv 0) (pa_cons (pe_callTy (call_list_txt rfl) (by rfl) mlist (by decide +kernel) (pa_cons (pv 2) pa_nil)) pa_nil))) po_none (po_some (pv 3))) pa_nil)) pa_nil))))), ?_⟩
    refine ⟨fun σ' H' => ∃ (z : Str) (r : Int), σ' = [some (.ref p), some (.int up), some (.str z), some (.int (1 + r))] ∧ Keep p H H' ∧ (z = someSigns ∨ z = allSigns) ∧ 0 ≤ r ∧ r < up, ?_, ?_⟩
    · have wd : CDivW a up := wide_div (b := 4) (by omega) (by omega) (by decide) (by decide)
      refine ⟨_, rfl, _, _, rfl, rfl, _, rfl, ite2 (fun e1 => ?_) (fun e1 => ?_)⟩
      · refine ⟨_, rfl, p, a, b, c, 4, rfl, hp, wide_div (b := 4) (by decide) (by decide) (by decide) (by decide), fun a1 b1 c1 r1 g0 g1 => ⟨_, _, rfl, rfl, _, rfl, ite2 (fun e2 => ?_) (fun e2 => ?_)⟩⟩
        · have wd : CDivW a1 up := wide_div (b := 4) (by omega) (by omega) (by decide) (by decide)
          exact ⟨_, rfl, _, rfl, p, a1, b1, c1, up, rfl, upd_same, wd, fun a' b' c' r h0 h1 => ⟨_, _, rfl, rfl, _, _, rfl, _, r, rfl, (Keep.dice a1 b1 c1).trans (.dice a' b' c'), .inl rfl, h0, h1⟩⟩
        · have wd : CDivW a1 up := wide_div (b := 4) (by omega) (by omega) (by decide) (by decide)
          refine ⟨rfl, ?_⟩
          exact ⟨_, rfl, _, rfl, p, a1, b1, c1, up, rfl, upd_same, wd, fun a' b' c' r h0 h1 => ⟨_, _, rfl, rfl, _, _, rfl, _, r, rfl, (Keep.dice a1 b1 c1).trans (.dice a' b' c'), .inr rfl, h0, h1⟩⟩
      · refine ⟨rfl, ?_⟩
        exact ⟨_, rfl, _, rfl, p, a, b, c, up, rfl, hp, wd, fun a' b' c' r h0 h1 => ⟨_, _, rfl, rfl, _, _, rfl, _, r, rfl, .dice a' b' c', .inr rfl, h0, h1⟩⟩
    rintro σ1 H1 ⟨z, r, rfl, k1, hz, r0, r1⟩
    obtain ⟨z15, zne, znd, zsg⟩ := pools z hz
    refine ⟨_, rfl, _, rfl, z, rfl, Nat.le_of_lt (small1000 (by omega)), fun l nl => ?_⟩
    have kl : Keep p H (upd H1 l (.lst (signsV z))) := k1.new2 nl
    obtain ⟨a1, b1, c1, hp1⟩ := kl.2
    have zl : z.cps.toList.length = z.length := by
      show _ = z.cps.size
      simp
    refine ⟨p, a1, b1, c1, l, _, rfl, hp1, .of upd_same, by show (z.cps.toList.map _).length ≤ 1000; rw [List.length_map, zl]; omega, fun H2 l2 ys k2 pm e2 ne => ?_⟩
    obtain ⟨cs, pc, rfl⟩ := perm_codes (f := oneV) (g := codeV) (fun c => rfl) (l := z.cps.toList) pm
    have cl := pc.length_eq
    refine ⟨_, rfl, _, rfl, l2, _, rfl, .of e2, fun l3 n3 => ?_⟩
    have kn : ∀ n : Nat, HT.sIx n n (some (1 + r)) = min (1 + r).toNat n := fun n => by
      show (if (1 + r) < 0 then ((1 + r) + (n : Int)).toNat else min (1 + r).toNat n) = min (1 + r).toNat n
      rw [if_neg (by omega)]
    have ec : cutV (cs.map oneV) none (some (1 + r)) = ((cs.take (min (1 + r).toNat cs.length)).map oneS).map V.str := by
      rw [cutV_take, kn, List.length_map, ← List.map_take, List.map_map]
      rfl
    have c0 : 0 < z.cps.toList.length := List.length_pos_iff.mpr zne
    refine ⟨l3, (cs.take (min (1 + r).toNat cs.length)).map oneS, rfl, .of (by rw [upd_same, ec]), by rw [List.length_map, List.length_take]; omega, fun ys2 l4 pm2 so n4 => ?_⟩
    obtain ⟨cs2, pc2, rfl⟩ := perm_codes (f := oneS) (g := codeS) (fun c => rfl) pm2
    have cl2 := pc2.length_eq
    rw [List.length_take] at cl2
    have mem : ∀ c ∈ cs2, c ∈ z.cps.toList := fun c hc => pc.mem_iff.mp (List.mem_of_mem_take (pc2.mem_iff.mp hc))
    have nd : cs2.Nodup := pc2.nodup_iff.mpr ((pc.nodup_iff.mpr znd).sublist (List.take_sublist _ _))
    refine ⟨l4, _, rfl, .of upd_same, fun t us nt => q _ t cs2 ((((kl.trans k2).new2 n3).new2 n4).new2 nt) (by rw [List.map_map]; exact frzT_at) (sorted_pw so nd) (fun e => ?_) (fun c hc => zsg c (mem c hc)) (by omega)⟩
    rw [e, List.length_nil] at cl2
    omega
end
end K0
end
/-! ### A8 -/
section
set_option Elab.async false
set_option linter.all false
set_option maxRecDepth 100000
set_option maxHeartbeats 4000000
/-! All texts of some signs, by length, as a list. -/
namespace K0
open PySem PySem.Spec PyProof.Rows L2
theorem add_len (x y : Str) : (x ++ y).length = x.length + y.length := by
  show (x.cps ++ y.cps).size = _
  rw [Array.size_append]
  rfl
/-- the texts one sign longer than t -/
def longer (cs : List Nat) (t : Str) : List Str := cs.map fun c => t ++ oneS c
def level (cs : List Nat) : Nat → List Str
  | 0 => [""]
  | k + 1 => (level cs k).flatMap (longer cs)
def pre (cs : List Nat) : Nat → List Str
  | 0 => []
  | k + 1 => pre cs k ++ level cs k
def textsTo (cs : List Nat) (k : Nat) : List Str := pre cs (k + 1)
theorem flat_len (cs : List Nat) (l : List Str) : (l.flatMap (longer cs)).length = l.length * cs.length := by
  induction l with
  | nil => simp
  | cons t l ih =>
    rw [List.flatMap_cons, List.length_append, ih, List.length_cons, Nat.succ_mul]
    unfold longer
    rw [List.length_map]
    omega
theorem level_len (cs : List Nat) : ∀ k, (level cs k).length = cs.length ^ k
  | 0 => rfl
  | k + 1 => by
    rw [level, flat_len, level_len cs k, Nat.pow_succ]
theorem level_size {cs : List Nat} : ∀ (k : Nat) (t : Str), t ∈ level cs k → t.length = k
  | 0, t, h => by
    rw [List.mem_singleton.mp h]
    rfl
  | k + 1, t, h => by
    obtain ⟨u, hu, hc⟩ := List.mem_flatMap.mp h
    obtain ⟨c, _, rfl⟩ := List.mem_map.mp hc
    rw [add_len, level_size k u hu]
    rfl
theorem pow_small {n k : Nat} (hn : n ≤ 3) (hk : k ≤ 4) : n ^ k ≤ 81 := Nat.le_trans (Nat.pow_le_pow_left hn k) (Nat.le_trans (Nat.pow_le_pow_right (by decide) hk) (by decide))
theorem pre_len {cs : List Nat} (hc : cs.length ≤ 3) : ∀ k, k ≤ 5 → (pre cs k).length ≤ 81 * k
  | 0, _ => Nat.zero_le _
  | k + 1, hk => by
    have h1 := pre_len hc k (by omega)
    have h2 := pow_small hc (k := k) (by omega)
    rw [pre, List.length_append, level_len]
    omega
theorem scTexts : FnScope ["signs", "upto", "found", "start", "turn", "end", "at", "sign"] ["signs", "upto"] (defScope (top iTexts)) := ⟨rfl, rfl, rfl, by decide +kernel, rfl, by decide +kernel, by decide +kernel⟩
def spTexts (K : PySem.W.Frag) : Sp := fun vs H Q _ => ∃ (t : Addr) (cs : List Nat) (n : Nat), vs = [.ref t, .int (n : Nat)] ∧ SqT K H t (cs.map oneV) ∧ cs.length ≤ 3 ∧ n ≤ 4 ∧ ∀ H' l, Same H H' → H' l = some (.lst ((textsTo cs n).map V.str)) → Q (.ref l) H'
theorem mr_extend {X : Cx} : MtR X "list.extend" rExtend := mt_extend
section
variable {P : Program} {w : World} {K : PySem.W.Frag} {mg : Str → Option Value} {base : Heap} {f : Addr} {fd : FuncData}
theorem ok_texts {k : Nat} (F : FnP K "_law_texts" iTexts f fd) (mrange : mg "range" = none) (mlen : mg "len" = none) : FnOk P w K mg base CX0 (k + 1) f fd ["signs", "upto"] (spTexts K) := by
  refine F.ok scTexts (fun vs H Q E h => ?_) (fun cdv A outer s H vs Q E hr h => ?_)
  · obtain ⟨t, cs, n, rfl, _⟩ := h
    rfl
  · obtain ⟨t, cs, n, rfl, hT0, c4, n3, q⟩ := h
    refine ⟨_, PSs.nox (C8.pss_cut (ps_asg (pe_tup (pa_cons (pe_lst (pa_cons pe_str pa_nil)) (pa_cons pe_int pa_nil))) (pg_tup rfl (pgs_cons (pg_name (i := 2) scTexts.nd rfl (.inr rfl)) (pgs_cons (pg_name (i := 3) scTexts.nd rfl (.inl rfl)) pgs_nil))))
      (C8.pss_cut (ps_for PassesOwn.never rfl (pi_range1 (by rfl) mrange (pa_cons (pv 1) pa_nil)) (pg_name (i := 4) scTexts.nd rfl (.inl rfl))
        (pss_cons (ps_set (i := 5) scTexts.nd rfl (.inl rfl) (pe_callB call_len_seq (by rfl) mlen PySem.boot_len (pa_cons (pv 2) pa_nil)))
        (C8.pss_cut (ps_for PassesOwn.never rfl (pi_range2 (by rfl) mrange (pa_cons (pv 3) (pa_cons (pv 5) pa_nil))) (pg_name (i := 6) scTexts.nd rfl (.inr rfl))
          (pss_one (ps_expr (pe_bm PySem.F.plainAttrs_list PySem.F.slot_list_extend PySem.F.type_list_extend mr_extend (pv 2) (pa_cons (pe_lc (own := [("sign", 7)]) (g := gName 7) (te := tOp (fun x y H Q => ∃ i j, x = .str i ∧ y = .str j ∧ i.length + j.length ≤ sizeLine ∧ Q (.str (i ++ j)) H) (tOp (rIxL K) (tVar 2) (tVar 6)) (tVar 7)) (tt := tYes) rfl scTexts.nd (pi_tup (pv 0)) (blkOk_by (N := ["signs", "upto", "found", "start", "turn", "end", "at", "sign"]) (sc := defScope (top iTexts)) (by decide +kernel))
            (fun _ _ _ _ _ => pg_name (i := 7) scTexts.nd rfl (Or.inl rfl)) (fun _ _ _ _ _ => pts_nil) (fun _ _ _ _ _ => pe_op op_add_str (pe_ix ix_list (pv 2) (pv 6) (fun _ _ => rfl)) (pv 7))) pa_nil)))))
        (pss_one (ps_set (i := 3) scTexts.nd rfl (.inl rfl) (pv 5))))))
      (pss_one (ps_ret (pv 2))))), ?_⟩
    refine ⟨fun σ' H' => ∃ l : Addr, σ' = [some (.ref t), some (.int (n : Nat)), some (.ref l), some (.int 0), none, none, none, none] ∧ H l = none ∧ Same H H' ∧ H' l = some (.lst ((pre cs 1).map V.str)), ?_, ?_⟩
    · refine ⟨by show 1 ≤ sizeLine; decide, fun l nl => ⟨by show 2 ≤ sizeLine; decide, fun T nT => ⟨T, _, rfl, .of upd_same, rfl, _, _, rfl, _, _, rfl, rfl, l, rfl, nl, (same_upd nl).trans (same_upd nT), same_upd nT _ _ upd_same⟩⟩⟩
    rintro σ1 H1 ⟨l, rfl, nl, s1, e1⟩
    refine ⟨fun σ' H' => ∃ a3 a4 a5 a6, σ' = [some (.ref t), some (.int (n : Nat)), some (.ref l), a3, a4, a5, a6, none] ∧ Same H H' ∧ H' l = some (.lst ((textsTo cs n).map V.str)), ?_, ?_⟩
    · refine ⟨_, rfl, _, rfl, by omega, by omega, for_range (lo := 0) (n := n) (fun k σ' H' => ∃ a4 a5 a6, σ' = [some (.ref t), some (.int (n : Nat)), some (.ref l), some (.int ((pre cs k).length : Nat)), a4, a5, a6, none] ∧ Same H H' ∧ H' l = some (.lst ((pre cs (k + 1)).map V.str))) ⟨none, none, none, rfl, s1, e1⟩ (fun k σ' H' hk hP => ?_) (fun σ' H' hP => ?_)⟩
      · obtain ⟨a4, a5, a6, rfl, s2, e2⟩ := hP
        have pl := pre_len c4 (k + 1) (by omega)
        have pe : (pre cs (k + 1)).length = (pre cs k).length + (level cs k).length := by rw [pre, List.length_append]
        refine ⟨_, rfl, l, _, rfl, .inl (.of e2), ?_⟩
        refine ⟨fun σ' H' => ∃ a6, σ' = [some (.ref t), some (.int (n : Nat)), some (.ref l), some (.int ((pre cs k).length : Nat)), some (.int (0 + (k : Int))), some (.int ((pre cs (k + 1)).length : Nat)), a6, none] ∧ Same H H' ∧ H' l = some (.lst ((pre cs (k + 2)).map V.str)), ?_, ?_⟩
        · refine ⟨_, rfl, _, rfl, _, _, rfl, ⟨by omega, by omega, by rw [List.length_map]; omega, by rw [List.length_map]; omega⟩, for_range (lo := ((pre cs k).length : Nat)) (fun j σ' H' => ∃ a6, σ' = [some (.ref t), some (.int (n : Nat)), some (.ref l), some (.int ((pre cs k).length : Nat)), some (.int (0 + (k : Int))), some (.int ((pre cs (k + 1)).length : Nat)), a6, none] ∧ Same H H' ∧ H' l = some (.lst ((pre cs (k + 1) ++ ((level cs k).take j).flatMap (longer cs)).map V.str))) ⟨a6, ?_, s2, ?_⟩ (fun j σ' H' hj hP => ?_) (fun σ' H' hP => ?_)⟩
          · first
              | (rw [List.length_map]; rfl)
              | simp
          · rw [List.take_zero, List.flatMap_nil, List.append_nil]
            exact e2
          · obtain ⟨a6', rfl, s3, e3⟩ := hP
            have hj : j < (level cs k).length := by
              rw [List.length_map] at hj
              omega
            obtain ⟨T, hT⟩ : ∃ T, (level cs k)[j]? = some T := ⟨_, List.getElem?_eq_getElem hj⟩
            have Tl : T.length = k := level_size k T (List.mem_of_getElem? hT)
            have tT : SqT K H' t (cs.map oneV) := same_tup s3 hT0
            have at0 : atI ((pre cs (k + 1) ++ ((level cs k).take j).flatMap (longer cs)).map V.str) (((pre cs k).length : Nat) + (j : Int)) = some (.str T) := by
              rw [show (((pre cs k).length : Nat) : Int) + (j : Int) = (((pre cs k).length + j : Nat) : Int) by omega]
              refine atI_nat ?_
              rw [List.getElem?_map, pre, List.append_assoc, List.getElem?_append_right (by omega), Nat.add_sub_cancel_left, List.getElem?_append_left hj, hT]
              rfl
            have small : (pre cs (k + 1) ++ ((level cs k).take j).flatMap (longer cs)).length ≤ 900 := by
              rw [List.length_append, flat_len, List.length_take]
              have p1 := pow_small c4 (k := k) (by omega)
              rw [← level_len] at p1
              have p2 : min j (level cs k).length * cs.length ≤ 81 * 3 := Nat.mul_le_mul (by omega) c4
              omega
            refine ⟨_, rfl, .inl ⟨rfl, _, .of e3⟩, _, rfl, t, rfl, ⟨_, tT⟩, fun D nD => lc_it (walk_tup (xs := cs.map oneV)) (fun m H5 => Same H' H5 ∧ H5 D = some (.lst (((cs.take m).map fun c => T ++ oneS c).map V.str))) ⟨same_upd nD, upd_same⟩ (fun _ H5 _ hP => same_tup hP.1 tT) (fun m x H5 H6 hm hP hY => ?_) (fun H5 hP => ?_)⟩
            · obtain ⟨s5, e5⟩ := hP
              obtain ⟨rfl, hx⟩ := hY
              rw [List.getElem?_map] at hx
              obtain ⟨c, hc, rfl⟩ := Option.map_eq_some_iff.mp hx
              refine ⟨rfl, _, rfl, _, rfl, l, _, _, _, rfl, rfl, .of (s5 _ _ e3), at0, _, rfl, T, oneS c, rfl, rfl, by rw [Tl, sizeLine_eq]; show k + 1 ≤ _; omega, _, e5, by rw [List.length_map, List.length_map, List.length_take]; exact small1000 (by omega), fun y o u => by rw [upd_ne (ne_of_none u nD)]; exact s5 _ _ u, ?_⟩
              rw [upd_same, List.take_add_one, hc, List.map_append, List.map_append]
              rfl
            · obtain ⟨s5, e5⟩ := hP
              have tk : cs.take (cs.map oneV).length = cs := List.take_of_length_le (by rw [List.length_map]; exact Nat.le_refl _)
              rw [tk] at e5
              refine ⟨l, D, _, _, rfl, rfl, s5 _ _ e3, e5, by rw [List.length_map, List.length_map, List.length_map]; exact Nat.le_of_lt (small1000 (by omega)), _, rfl, fun y o u => ?_, ?_⟩
              · rw [upd_ne (ne_of_none u nl)]
                exact s5 _ _ (s3 _ _ u)
              · rw [upd_same, List.take_add_one, hT, ← List.map_append, List.flatMap_append, ← List.append_assoc]
                show some (HO.lst (List.map V.str ((pre cs (k + 1) ++ ((level cs k).take j).flatMap (longer cs)) ++ longer cs T))) = some (HO.lst (List.map V.str ((pre cs (k + 1) ++ ((level cs k).take j).flatMap (longer cs)) ++ [T].flatMap (longer cs))))
                rw [List.flatMap_cons, List.flatMap_nil, List.append_nil]
          · obtain ⟨a6', rfl, s3, e3⟩ := hP
            rw [List.take_of_length_le (by rw [List.length_map]; omega)] at e3
            exact ⟨a6', rfl, s3, e3⟩
        rintro σ3 H3 ⟨a6, rfl, s3, e3⟩
        exact ⟨_, rfl, _, _, _, rfl, s3, e3⟩
      · obtain ⟨a4, a5, a6, rfl, s2, e2⟩ := hP
        exact ⟨_, _, _, _, rfl, s2, e2⟩
    rintro σ2 H2 ⟨a3, a4, a5, a6, rfl, s2, e2⟩
    exact ⟨_, rfl, q H2 l s2 e2⟩
end
end K0
end
/-! ### M -/
section
set_option linter.all false
/-! Patterns and paths as lists of codes: 42 a star, 63 any one sign. What fits, as a relation; by rows of places; from the front. -/
namespace Pat
inductive Fit : List Nat → List Nat → Prop
  | nil : Fit [] []
  | skip {r p : List Nat} : Fit r p → Fit (42 :: r) p
  | take {r p : List Nat} {d : Nat} : Fit (42 :: r) p → Fit (42 :: r) (d :: p)
  | one {c d : Nat} {r p : List Nat} : c ≠ 42 → (c = 63 ∨ c = d) → Fit r p → Fit (c :: r) (d :: p)
theorem fit_nil {p : List Nat} : Fit [] p ↔ p = [] := ⟨fun h => by cases h; rfl, fun h => by rw [h]; exact .nil⟩
theorem fit_star {r p : List Nat} : Fit (42 :: r) p ↔ Fit r p ∨ ∃ d q, p = d :: q ∧ Fit (42 :: r) q := by
  constructor
  · intro h
    cases h with
    | skip h => exact .inl h
    | take h => exact .inr ⟨_, _, rfl, h⟩
    | one h _ _ => exact absurd rfl h
  · rintro (h | ⟨d, q, rfl, h⟩)
    · exact .skip h
    · exact .take h
theorem fit_one {c : Nat} {r p : List Nat} (hc : c ≠ 42) : Fit (c :: r) p ↔ ∃ d q, p = d :: q ∧ (c = 63 ∨ c = d) ∧ Fit r q := by
  constructor
  · intro h
    cases h with
    | skip h => exact absurd rfl hc
    | take h => exact absurd rfl hc
    | one _ h1 h2 => exact ⟨_, _, rfl, h1, h2⟩
  · rintro ⟨d, q, rfl, h1, h2⟩
    exact .one hc h1 h2
theorem fit_app' (P R : List Nat) : ∀ (p : List Nat), Fit (P ++ R) p ↔ ∃ a b, p = a ++ b ∧ Fit P a ∧ Fit R b := by
  induction P with
  | nil =>
    intro p
    constructor
    · intro h
      exact ⟨[], p, rfl, .nil, h⟩
    · rintro ⟨a, b, rfl, h1, h2⟩
      rw [fit_nil.mp h1]
      exact h2
  | cons c P ih =>
    by_cases hc : c = 42
    · subst hc
      have go : ∀ n (p : List Nat), p.length = n → (Fit (42 :: P ++ R) p ↔ ∃ a b, p = a ++ b ∧ Fit (42 :: P) a ∧ Fit R b) := by
        intro n
        induction n with
        | zero =>
          intro p hp
          have : p = [] := List.eq_nil_of_length_eq_zero hp
          subst this
          rw [show 42 :: P ++ R = 42 :: (P ++ R) from rfl, fit_star]
          constructor
          · rintro (h | ⟨d, q, e, _⟩)
            · obtain ⟨a, b, e, h1, h2⟩ := (ih _).mp h
              exact ⟨a, b, e, .skip h1, h2⟩
            · cases e
          · rintro ⟨a, b, e, h1, h2⟩
            obtain ⟨rfl, rfl⟩ := List.append_eq_nil_iff.mp e.symm
            rcases fit_star.mp h1 with h1 | ⟨_, _, e, _⟩
            · exact .inl ((ih _).mpr ⟨[], [], rfl, h1, h2⟩)
            · cases e
        | succ n ih2 =>
          intro p hp
          rw [show 42 :: P ++ R = 42 :: (P ++ R) from rfl, fit_star]
          constructor
          · rintro (h | ⟨d, q, rfl, h⟩)
            · obtain ⟨a, b, e, h1, h2⟩ := (ih _).mp h
              exact ⟨a, b, e, .skip h1, h2⟩
            · obtain ⟨a, b, e, h1, h2⟩ := (ih2 q (by simpa using hp)).mp h
              exact ⟨d :: a, b, by rw [e]; rfl, .take h1, h2⟩
          · rintro ⟨a, b, rfl, h1, h2⟩
            rcases fit_star.mp h1 with h3 | ⟨d, q, rfl, h3⟩
            · exact .inl ((ih _).mpr ⟨a, b, rfl, h3, h2⟩)
            · exact .inr ⟨d, q ++ b, rfl, (ih2 (q ++ b) (by simpa using hp)).mpr ⟨q, b, rfl, h3, h2⟩⟩
      intro p
      exact go p.length p rfl
    · intro p
      rw [show c :: P ++ R = c :: (P ++ R) from rfl, fit_one hc]
      constructor
      · rintro ⟨d, q, rfl, h1, h2⟩
        obtain ⟨a, b, rfl, h3, h4⟩ := (ih _).mp h2
        exact ⟨d :: a, b, rfl, .one hc h1 h3, h4⟩
      · rintro ⟨a, b, rfl, h1, h2⟩
        obtain ⟨d, q, rfl, h3, h4⟩ := (fit_one hc).mp h1
        exact ⟨d, q ++ b, rfl, h3, (ih _).mpr ⟨q, b, rfl, h4, h2⟩⟩
theorem fit_app {P R p : List Nat} : Fit (P ++ R) p ↔ ∃ a b, p = a ++ b ∧ Fit P a ∧ Fit R b := fit_app' P R p
theorem star_all : ∀ p : List Nat, Fit [42] p
  | [] => .skip .nil
  | _ :: p => .take (star_all p)
theorem fit_snoc_star {P p : List Nat} : Fit (P ++ [42]) p ↔ ∃ j, j ≤ p.length ∧ Fit P (p.take j) := by
  rw [fit_app]
  constructor
  · rintro ⟨a, b, rfl, h1, _⟩
    exact ⟨a.length, by simp, by rw [List.take_left']; exact h1; rfl⟩
  · rintro ⟨j, _, h⟩
    exact ⟨p.take j, p.drop j, (List.take_append_drop j p).symm, h, star_all _⟩
theorem fit_snoc_one {c : Nat} (hc : c ≠ 42) {P p : List Nat} : Fit (P ++ [c]) p ↔ ∃ q d, p = q ++ [d] ∧ (c = 63 ∨ c = d) ∧ Fit P q := by
  rw [fit_app]
  constructor
  · rintro ⟨a, b, rfl, h1, h2⟩
    obtain ⟨d, q, rfl, h3, h4⟩ := (fit_one hc).mp h2
    rw [fit_nil.mp h4]
    exact ⟨a, d, rfl, h3, h1⟩
  · rintro ⟨q, d, rfl, h1, h2⟩
    exact ⟨q, [d], rfl, h2, .one hc h1 .nil⟩
/-! ### rows of places -/
def scanOr : Bool → List Bool → List Bool
  | _, [] => []
  | b, h :: t => (b || h) :: scanOr (b || h) t
def stepL (path : List Nat) (held : List Bool) (c : Nat) : List Bool :=
  if c = 42 then scanOr false held else false :: List.zipWith (fun h d => h && (decide (c = 63) || decide (c = d))) held path
def rowL (pat path : List Nat) : List Bool := pat.foldl (stepL path) (true :: List.replicate path.length false)
def fitsL (pat path : List Nat) : Bool := (rowL pat path).getLastD false
theorem scan_len : ∀ (b : Bool) (l : List Bool), (scanOr b l).length = l.length
  | _, [] => rfl
  | b, h :: t => by rw [scanOr, List.length_cons, List.length_cons, scan_len]
theorem step_len {path : List Nat} {held : List Bool} (h : held.length = path.length + 1) (c : Nat) : (stepL path held c).length = path.length + 1 := by
  unfold stepL
  split
  · rw [scan_len, h]
  · rw [List.length_cons, List.length_zipWith, h]
    omega
theorem scan_get : ∀ (b : Bool) (l : List Bool) (i : Nat), i < l.length → ((scanOr b l)[i]? = some true ↔ b = true ∨ ∃ j, j ≤ i ∧ l[j]? = some true)
  | _, [], i, h => by simp at h
  | b, x :: t, 0, h => by
    rw [scanOr]
    simp
  | b, x :: t, i + 1, h => by
    rw [scanOr, List.getElem?_cons_succ, scan_get (b || x) t i (by simpa using h)]
    constructor
    · rintro (h | ⟨j, hj, e⟩)
      · rcases Bool.or_eq_true_iff.mp h with h | h
        · exact .inl h
        · exact .inr ⟨0, by omega, by rw [h]; rfl⟩
      · exact .inr ⟨j + 1, by omega, by simpa using e⟩
    · rintro (h | ⟨j, hj, e⟩)
      · exact .inl (by rw [h]; rfl)
      · cases j with
        | zero => exact .inl (by have : x = true := by simpa using e
                                 rw [this]; simp)
        | succ j => exact .inr ⟨j, by omega, by simpa using e⟩
theorem row_snoc (pat : List Nat) (c : Nat) (path : List Nat) : rowL (pat ++ [c]) path = stepL path (rowL pat path) c := by
  unfold rowL
  rw [List.foldl_append]
  rfl
theorem row_len (pat path : List Nat) : (rowL pat path).length = path.length + 1 := by
  have go : ∀ (pat : List Nat) (h : List Bool), h.length = path.length + 1 → (pat.foldl (stepL path) h).length = path.length + 1 := by
    intro pat
    induction pat with
    | nil => intro h e; exact e
    | cons c pat ih => intro h e; exact ih _ (step_len e c)
  exact go pat _ (by simp)
theorem row_fit : ∀ (n : Nat) (pat path : List Nat), pat.length = n → ∀ i, i ≤ path.length → ((rowL pat path)[i]? = some true ↔ Fit pat (path.take i)) := by
  intro n
  induction n with
  | zero =>
    intro pat path hn i hi
    have : pat = [] := List.eq_nil_of_length_eq_zero hn
    subst this
    rw [fit_nil]
    unfold rowL
    rw [List.foldl_nil]
    cases i with
    | zero => simp
    | succ i =>
      rw [List.getElem?_cons_succ, List.getElem?_replicate]
      constructor
      · intro h
        split at h <;> cases h
      · intro h
        have := congrArg List.length h
        rw [List.length_take, List.length_nil] at this
        omega
  | succ n ih =>
    intro pat path hn i hi
    obtain ⟨P, c, rfl⟩ : ∃ P c, pat = P ++ [c] := by
      have hne : pat ≠ [] := fun e => by rw [e] at hn; cases hn
      exact ⟨pat.dropLast, pat.getLast hne, (List.dropLast_concat_getLast hne).symm⟩
    have hP : P.length = n := by simpa using hn
    have ihP := ih P path hP
    rw [row_snoc]
    have hl := row_len P path
    unfold stepL
    by_cases hc : c = 42
    · subst hc
      rw [if_pos rfl, scan_get _ _ _ (by omega), fit_snoc_star]
      constructor
      · rintro (h | ⟨j, hj, e⟩)
        · cases h
        · refine ⟨j, by rw [List.length_take]; omega, ?_⟩
          rw [List.take_take, Nat.min_eq_left hj]
          exact (ihP j (by omega)).mp e
      · rintro ⟨j, hj, h⟩
        rw [List.length_take] at hj
        rw [List.take_take, Nat.min_eq_left (by omega)] at h
        exact .inr ⟨j, by omega, (ihP j (by omega)).mpr h⟩
    · rw [if_neg hc, fit_snoc_one hc]
      cases i with
      | zero =>
        rw [List.take_zero]
        constructor
        · intro h; cases h
        · rintro ⟨q, d, e, _⟩
          have := congrArg List.length e
          simp at this
      | succ i =>
        have hd : path[i]? = some path[i] := List.getElem?_eq_getElem (by omega)
        have tk : path.take (i + 1) = path.take i ++ [path[i]] := by rw [List.take_add_one, hd]; rfl
        rw [List.getElem?_cons_succ, List.getElem?_zipWith, hd, tk]
        have hh : (rowL P path)[i]? = some (rowL P path)[i] := List.getElem?_eq_getElem (by omega)
        have iff := ihP i (by omega)
        rw [hh] at iff ⊢
        constructor
        · intro h
          have h : ((rowL P path)[i] && (decide (c = 63) || decide (c = path[i]))) = true := Option.some.inj h
          obtain ⟨h1, h2⟩ := Bool.and_eq_true_iff.mp h
          refine ⟨path.take i, path[i], rfl, ?_, iff.mp (by rw [h1])⟩
          rcases Bool.or_eq_true_iff.mp h2 with h2 | h2
          · exact .inl (of_decide_eq_true h2)
          · exact .inr (of_decide_eq_true h2)
        · rintro ⟨q, d, e, h1, h2⟩
          obtain ⟨e1, e2⟩ := List.append_inj' e rfl
          rw [← e1] at h2
          have e3 : path[i] = d := by simpa using e2
          have h3 := Option.some.inj (iff.mpr h2)
          show some ((rowL P path)[i] && (decide (c = 63) || decide (c = path[i]))) = some true
          rw [h3, e3]
          rcases h1 with h1 | h1
          · rw [decide_eq_true h1]; rfl
          · rw [decide_eq_true h1]; simp
theorem getLastD_get {l : List Bool} {n : Nat} (h : l.length = n + 1) : l.getLastD false = true ↔ l[n]? = some true := by
  have hne : l ≠ [] := fun e => by rw [e] at h; cases h
  have e1 : l.getLastD false = l.getLast hne := by
    cases l with
    | nil => exact absurd rfl hne
    | cons a l => rfl
  rw [e1, List.getLast_eq_getElem, List.getElem?_eq_some_iff]
  constructor
  · intro z
    refine ⟨by omega, ?_⟩
    have : l.length - 1 = n := by omega
    simp only [this] at z
    exact z
  · rintro ⟨hn, z⟩
    have : l.length - 1 = n := by omega
    simp only [this]
    exact z
theorem fitsL_iff (pat path : List Nat) : fitsL pat path = true ↔ Fit pat path := by
  unfold fitsL
  rw [getLastD_get (row_len pat path), row_fit _ pat path rfl path.length (Nat.le_refl _), List.take_length]
/-! ### from the front -/
theorem fitsL_nil (p : List Nat) : fitsL [] p = p.isEmpty := by
  rw [Bool.eq_iff_iff, fitsL_iff, fit_nil, List.isEmpty_iff]
theorem fitsL_star (r p : List Nat) : fitsL (42 :: r) p = (fitsL r p || match p with | [] => false | _ :: q => fitsL (42 :: r) q) := by
  rw [Bool.eq_iff_iff, fitsL_iff, fit_star, Bool.or_eq_true_iff, fitsL_iff]
  cases p with
  | nil => simp
  | cons d q =>
    show _ ↔ _ ∨ fitsL (42 :: r) q = true
    rw [fitsL_iff]
    constructor
    · rintro (h | ⟨_, _, e, h⟩)
      · exact .inl h
      · cases e; exact .inr h
    · rintro (h | h)
      · exact .inl h
      · exact .inr ⟨d, q, rfl, h⟩
theorem fitsL_one {c : Nat} (hc : c ≠ 42) (r p : List Nat) : fitsL (c :: r) p = match p with | [] => false | d :: q => (decide (c = 63) || decide (c = d)) && fitsL r q := by
  rw [Bool.eq_iff_iff, fitsL_iff, fit_one hc]
  cases p with
  | nil => simp
  | cons d q =>
    show _ ↔ ((decide (c = 63) || decide (c = d)) && fitsL r q) = true
    rw [Bool.and_eq_true_iff, Bool.or_eq_true_iff, decide_eq_true_iff, decide_eq_true_iff, fitsL_iff]
    constructor
    · rintro ⟨_, _, e, h⟩
      cases e; exact h
    · intro h
      exact ⟨d, q, rfl, h⟩
/-! ### what the law asks besides -/
theorem fit_plain {pat p : List Nat} (hs : 42 ∉ pat) (h : Fit pat p) : p.length = pat.length := by
  induction pat generalizing p with
  | nil => rw [fit_nil.mp h]
  | cons c r ih =>
    have hc : c ≠ 42 := fun e => hs (by rw [e]; exact List.mem_cons_self)
    obtain ⟨d, q, rfl, _, h2⟩ := (fit_one hc).mp h
    rw [List.length_cons, List.length_cons, ih (fun m => hs (List.mem_cons_of_mem _ m)) h2]
theorem fit_any : ∀ p : List Nat, Fit (List.replicate p.length 63) p
  | [] => .nil
  | d :: p => .one (by decide) (.inl rfl) (fit_any p)
theorem star_star {r p : List Nat} : Fit (42 :: 42 :: r) p ↔ Fit (42 :: r) p := by
  constructor
  · intro h
    induction p with
    | nil =>
      rcases fit_star.mp h with h | ⟨_, _, e, _⟩
      · exact h
      · cases e
    | cons d p ih =>
      rcases fit_star.mp h with h | ⟨_, _, e, h⟩
      · exact h
      · cases e; exact .take (ih h)
  · exact .skip
/-- each star twice -/
def wide (pat : List Nat) : List Nat := pat.flatMap fun c => if c = 42 then [42, 42] else [c]
theorem fit_wide' (pat : List Nat) : ∀ (p : List Nat), Fit (wide pat) p ↔ Fit pat p := by
  induction pat with
  | nil => intro p; exact Iff.rfl
  | cons c r ih =>
    have e : wide (c :: r) = (if c = 42 then [42, 42] else [c]) ++ wide r := rfl
    intro p
    by_cases hc : c = 42
    · subst hc
      rw [e, if_pos rfl, show [42, 42] ++ wide r = 42 :: 42 :: wide r from rfl, star_star, show 42 :: wide r = [42] ++ wide r from rfl, show 42 :: r = [42] ++ r from rfl, fit_app, fit_app]
      constructor
      · rintro ⟨a, b, h1, h2, h3⟩; exact ⟨a, b, h1, h2, (ih _).mp h3⟩
      · rintro ⟨a, b, h1, h2, h3⟩; exact ⟨a, b, h1, h2, (ih _).mpr h3⟩
    · rw [e, if_neg hc, show [c] ++ wide r = c :: wide r from rfl, fit_one hc, fit_one hc]
      constructor
      · rintro ⟨d, q, h1, h2, h3⟩; exact ⟨d, q, h1, h2, (ih _).mp h3⟩
      · rintro ⟨d, q, h1, h2, h3⟩; exact ⟨d, q, h1, h2, (ih _).mpr h3⟩
theorem fit_wide {pat p : List Nat} : Fit (wide pat) p ↔ Fit pat p := fit_wide' pat p
theorem fitsL_wide (pat p : List Nat) : fitsL (wide pat) p = fitsL pat p := by
  rw [Bool.eq_iff_iff, fitsL_iff, fitsL_iff, fit_wide]
end Pat
end
/-! ### M2 -/
section
set_option linter.all false
/-! Rows of places, one place after the other. -/
namespace Pat
theorem scan_succ : ∀ (b : Bool) (l : List Bool) (k : Nat) (x y : Bool), (scanOr b l)[k]? = some x → l[k + 1]? = some y → (scanOr b l)[k + 1]? = some (x || y)
  | _, [], _, _, _, h, _ => by simp [scanOr] at h
  | b, h :: t, 0, x, y, h1, h2 => by
    rw [scanOr] at h1 ⊢
    have e : (b || h) = x := by simpa using h1
    cases t with
    | nil => simp at h2
    | cons u t =>
      have e2 : u = y := by simpa using h2
      rw [← e, ← e2]
      rfl
  | b, h :: t, k + 1, x, y, h1, h2 => by
    rw [scanOr] at h1 ⊢
    rw [List.getElem?_cons_succ] at h1 ⊢
    exact scan_succ (b || h) t k x y h1 (by simpa using h2)
/-- the first k + 1 places are scanned -/
def mix (row : List Bool) (k : Nat) : List Bool := (scanOr false row).take (k + 1) ++ row.drop (k + 1)
theorem mix_len {row : List Bool} {k : Nat} (hk : k < row.length) : (mix row k).length = row.length := by
  unfold mix
  rw [List.length_append, List.length_take, List.length_drop, scan_len]
  omega
theorem mix_zero {row : List Bool} : mix row 0 = row := by
  unfold mix
  cases row with
  | nil => rfl
  | cons h t => simp [scanOr]
theorem mix_end {row : List Bool} {k : Nat} (h : row.length ≤ k + 1) : mix row k = scanOr false row := by
  unfold mix
  rw [List.take_of_length_le (by rw [scan_len]; exact h), List.drop_eq_nil_of_le h, List.append_nil]
theorem mix_at {row : List Bool} {k : Nat} (hk : k + 1 < row.length) : (mix row k)[k]? = (scanOr false row)[k]? ∧ (mix row k)[k + 1]? = row[k + 1]? := by
  have hl : ((scanOr false row).take (k + 1)).length = k + 1 := by rw [List.length_take, scan_len]; omega
  unfold mix
  constructor
  · rw [List.getElem?_append_left (by omega), List.getElem?_take_of_lt (by omega)]
  · rw [List.getElem?_append_right (by omega), hl, List.getElem?_drop]
    congr 1
    omega
theorem mix_set {row : List Bool} {k : Nat} {v : Bool} (hk : k + 1 < row.length) (hv : (scanOr false row)[k + 1]? = some v) : (mix row k).set (k + 1) v = mix row (k + 1) := by
  have hl : ((scanOr false row).take (k + 1)).length = k + 1 := by rw [List.length_take, scan_len]; omega
  unfold mix
  rw [List.set_append_right _ _ (by omega), hl, Nat.sub_self, List.drop_eq_getElem_cons (i := k + 1) hk, List.set_cons_zero, List.take_add_one (i := k + 1), hv, List.append_assoc]
  rfl
/-- the places of a sign -/
def oneL (path : List Nat) (held : List Bool) (c : Nat) : List Bool := List.zipWith (fun h d => h && (decide (c = 63) || decide (c = d))) held path
theorem one_len {path : List Nat} {held : List Bool} (h : held.length = path.length + 1) (c : Nat) : (oneL path held c).length = path.length := by
  unfold oneL
  rw [List.length_zipWith, h]
  omega
theorem one_get {path : List Nat} {held : List Bool} {c i d : Nat} {b : Bool} (h : held[i]? = some b) (hd : path[i]? = some d) : (oneL path held c)[i]? = some (b && (decide (c = 63) || decide (c = d))) := by
  unfold oneL
  rw [List.getElem?_zipWith, h, hd]
theorem step_star {path : List Nat} {held : List Bool} : stepL path held 42 = scanOr false held := rfl
theorem step_one {path : List Nat} {held : List Bool} {c : Nat} (h : c ≠ 42) : stepL path held c = false :: oneL path held c := if_neg h
theorem row_succ {pat : List Nat} {c m : Nat} (path : List Nat) (h : pat[m]? = some c) : rowL (pat.take (m + 1)) path = stepL path (rowL (pat.take m) path) c := by
  rw [List.take_add_one, h]
  exact row_snoc _ _ _
end Pat
end
/-! ### L1 -/
section
set_option Elab.async false
set_option linter.all false
set_option maxRecDepth 100000
set_option maxHeartbeats 4000000
/-! _law_fits: the places of a pattern, sign by sign. -/
namespace K0
open PySem PySem.Spec PyProof.Rows L2 Pat
abbrev cpsL (z : Str) : List Nat := z.cps.toList
def blV (l : List Bool) : List V := l.map V.bl
theorem blV_get {l : List Bool} {i : Nat} {b : Bool} (h : l[i]? = some b) : (blV l)[i]? = some (.bl b) := by
  unfold blV
  rw [List.getElem?_map, h]
  rfl
theorem blV_len (l : List Bool) : (blV l).length = l.length := List.length_map ..
theorem cps_len (z : Str) : (cpsL z).length = z.length := by
  show z.cps.toList.length = z.cps.size
  simp
theorem cps_size (z : Str) : z.cps.size = (cpsL z).length := by
  simp [cpsL]
theorem none_back {H H' : Hp} {a : Addr} (s : Same H H') (n : H' a = none) : H a = none := by
  cases z : H a with
  | none => rfl
  | some o =>
    have z2 := s _ _ z
    rw [n] at z2
    cases z2
theorem op_inK {X : Cx} (K : PySem.W.Frag) (e : X.K = K) : OpR X (compareOp .In) (rIn K false) := by
  subst e
  exact op_in_seq
theorem ixn_last {n : Nat} : ixN (n + 1) (-1) = some n := by
  unfold ixN
  rw [if_neg (by omega), if_pos (by omega)]
  congr 1
  omega
theorem flat_rep {α : Type} (x : α) : ∀ n : Nat, (List.replicate n [x]).flatten = List.replicate n x
  | 0 => rfl
  | n + 1 => by rw [List.replicate_succ, List.flatten_cons, flat_rep x n]; rfl
theorem scLFits : FnScope ["pattern", "path", "held", "one", "at"] ["pattern", "path"] (defScope (top iLFits)) := ⟨rfl, rfl, rfl, by decide +kernel, rfl, by decide +kernel, by decide +kernel⟩
def spLFits : Sp := fun vs H Q _ => ∃ (a b : Str), vs = [.str a, .str b] ∧ a.length ≤ 500 ∧ b.length ≤ 500 ∧ ∀ H', Same H H' → Q (.bl (fitsL (cpsL a) (cpsL b))) H'
theorem eq_code {c d : Nat} : decide (V.str (⟨#[c]⟩ : Str) = V.str (⟨#[d]⟩ : Str)) = decide (c = d) := by
  refine decide_eq_decide.mpr ⟨fun h => ?_, fun h => by rw [h]⟩
  injection h with h
  injection h with h
  injection h with h
  injection h
theorem eqv_code {c d : Nat} : eqV (V.str (⟨#[c]⟩ : Str)) (V.str (⟨#[d]⟩ : Str)) = decide (c = d) := by
  show ((⟨#[c]⟩ : Str) == ⟨#[d]⟩) = _
  rw [Bool.beq_eq_decide_eq, ← eq_code]
  exact decide_eq_decide.mpr ⟨fun h => by rw [h], fun h => by injection h⟩
section
variable {P : Program} {w : World} {K : PySem.W.Frag} {mg : Str → Option Value} {base : Heap} {f : Addr} {fd : FuncData}
theorem ok_lfits {k : Nat} (F : FnP K "_law_fits" iLFits f fd) (mrange : mg "range" = none) (mlen : mg "len" = none) : FnOk P w K mg base CX0 (k + 1) f fd ["pattern", "path"] spLFits := by
  refine F.ok scLFits (fun vs H Q E h => ?_) (fun cdv A outer s H vs Q E hr h => ?_)
  · obtain ⟨a, b, rfl, _⟩ := h
    rfl
  · obtain ⟨a, b, rfl, ha, hb, q⟩ := h
    refine ⟨_, PSs.nox (C8.pss_cut (ps_set (i := 2) scLFits.nd rfl (.inr rfl) (pe_op op_cat (pe_lst (pa_cons pe_bl pa_nil)) (pe_op op_rep (pe_lst (pa_cons pe_bl pa_nil)) (pe_callB call_len (by rfl) mlen PySem.boot_len (pa_cons (pv 1) pa_nil)))))
      (C8.pss_cut (ps_for PassesOwn.never rfl (pi_str (pv 0)) (pg_name (i := 3) scLFits.nd rfl (.inr rfl))
        (pss_one (ps_if (pt_cmpR op_eq (pv 3) pe_str (nomark _))
          (pss_one (ps_for PassesOwn.never rfl (pi_range1 (by rfl) mrange (pa_cons (pe_callB call_len (by rfl) mlen PySem.boot_len (pa_cons (pv 1) pa_nil)) pa_nil)) (pg_name (i := 4) scLFits.nd rfl (.inl rfl))
            (pss_one (ps_asg (pe_or (pe_ix ix_list (pv 2) (pv 4) (fun _ _ => rfl)) (pe_one (pe_ix ix_list (pv 2) (pe_op op_add (pv 4) pe_int) (fun _ _ => rfl)))) (pg_sub (pv 2) (pe_op op_add (pv 4) pe_int) set_list)))))
          (pss_one (ps_set (i := 2) scLFits.nd rfl (.inr rfl) (pe_op op_cat (pe_lst (pa_cons pe_bl pa_nil)) (pe_lc (own := [("at", 4)]) (g := gName 4) (tt := tYes)
            (te := tAndV (tOp (rIxL K) (tVar 2) (tVar 4)) (tOp (rIn K false) (tVar 3) (tTup (tCons (tC (.str "?")) (tCons (tOp rIxS (tVar 1) (tVar 4)) tNil)))))
            rfl scLFits.nd (pi_range1 (by rfl) mrange (pa_cons (pe_callB call_len (by rfl) mlen PySem.boot_len (pa_cons (pv 1) pa_nil)) pa_nil)) (blkOk_by (N := ["pattern", "path", "held", "one", "at"]) (sc := defScope (top iLFits)) (by decide +kernel))
            (fun _ _ _ _ _ => pg_name (i := 4) scLFits.nd rfl (Or.inl rfl)) (fun _ _ _ _ _ => pts_nil)
            (fun _ _ _ _ _ => pe_and (pe_ix ix_list (pv 2) (pv 4) (fun _ _ => rfl)) (pe_one (pe_cmpR (op_inK K rfl) (pv 3) (pe_tup (pa_cons pe_str (pa_cons (pe_ix ix_str (pv 1) (pv 4) (fun _ _ => rfl)) pa_nil))) rfl))))))))))
      (pss_one (ps_ret (pe_ix ix_list (pv 2) (pe_un un_neg pe_int) (fun _ _ => rfl)))))), ?_⟩
    have lb : (cpsL b).length = b.length := cps_len b
    have small : ∀ n : Nat, n ≤ 501 → n < sizeLine := fun n hn => by rw [sizeLine_eq]; omega
    refine ⟨fun σ' H' => ∃ h : Addr, σ' = [some (.str a), some (.str b), some (.ref h), none, none] ∧ Same H H' ∧ H h = none ∧ H' h = some (.lst (blV (rowL [] (cpsL b)))), ?_, ?_⟩
    · refine ⟨by show 1 ≤ sizeLine; decide, fun l1 n1 => ⟨by show 1 ≤ sizeLine; decide, fun l2 n2 => ?_⟩⟩
      have n21 : l1 ≠ l2 := ne_of_none upd_same n2
      refine ⟨_, rfl, _, b.length, rfl, ⟨Nat.le_of_lt (small _ (by omega)), rfl⟩, l2, _, _, rfl, rfl, upd_same, by omega, by omega, by show 1 * (b.length : Int).toNat ≤ _; have z := small b.length (by omega); omega, fun l3 n3 => ?_⟩
      refine ⟨l1, l3, _, _, rfl, rfl, by rw [upd_ne (ne_of_none (by rw [upd_ne n21, upd_same]) n3), upd_ne n21, upd_same], upd_same, ?_, fun l4 n4 => ?_⟩
      · have z := small (b.length + 1) (by omega)
        rw [show (List.replicate (b.length : Int).toNat [V.bl false]).flatten = List.replicate (b.length : Int).toNat (V.bl false) from flat_rep _ _, List.length_replicate]
        show 1 + _ ≤ _
        omega
      · have s1 : Same H (upd H l1 (.lst [.bl true])) := same_upd n1
        have s3 := (s1.trans (same_upd n2 (o := .lst [.bl false]))).trans (same_upd n3 (o := .lst (List.replicate (b.length : Int).toNat [V.bl false]).flatten))
        refine ⟨l4, rfl, s3.trans (same_upd n4), none_back s3 n4, ?_⟩
        · rw [upd_same]
          congr 2
          unfold rowL blV
          rw [List.foldl_nil, List.map_cons, List.map_replicate, lb, Int.toNat_natCast]
          rw [flat_rep]
          rfl
    rintro σ1 H1 ⟨h, rfl, s1, nh, e1⟩
    refine ⟨fun σ' H' => ∃ a3 a4 h, σ' = [some (.str a), some (.str b), some (.ref h), a3, a4] ∧ Same H H' ∧ H h = none ∧ H' h = some (.lst (blV (rowL (cpsL a) (cpsL b)))), ?_, ?_⟩
    · refine ⟨_, rfl, a, rfl, for_it (walk_str (z := a)) (fun m σ' H' => ∃ a3 a4 h, σ' = [some (.str a), some (.str b), some (.ref h), a3, a4] ∧ Same H H' ∧ H h = none ∧ H' h = some (.lst (blV (rowL ((cpsL a).take m) (cpsL b))))) ⟨none, none, h, rfl, s1, nh, e1⟩ (fun _ _ _ _ _ => trivial) (fun m x σ' H' H'' hm hP hY => ?_) (fun σ' H' hP => ?_)⟩
      · obtain ⟨a3, a4, h, rfl, s2, nh, e2⟩ := hP
        obtain ⟨rfl, c, hc, rfl⟩ := hY
        have hc2 : (cpsL a)[m]? = some c := by rw [← hc]; simp [cpsL]
        have hrow := row_succ (cpsL b) hc2
        have rl := row_len ((cpsL a).take m) (cpsL b)
        refine ⟨_, rfl, rfl, _, rfl, ite2 (fun e => ?_) (fun e => ?_)⟩
        · have hstar : c = 42 := of_decide_eq_true ((eq_code (c := c) (d := 42)).symm.trans e)
          subst hstar
          rw [step_star] at hrow
          refine ⟨_, rfl, _, b.length, rfl, ⟨Nat.le_of_lt (small _ (by omega)), rfl⟩, _, rfl, by omega, by omega, for_range (lo := 0) (n := b.length) (fun j σ' H' => ∃ a4, σ' = [some (.str a), some (.str b), some (.ref h), some (.str ⟨#[42]⟩), a4] ∧ Same H H' ∧ H' h = some (.lst (blV (mix (rowL ((cpsL a).take m) (cpsL b)) j)))) ⟨a4, rfl, s2, by rw [mix_zero]; exact e2⟩ (fun j σ' H' hj hP => ?_) (fun σ' H' hP => ?_)⟩
          · obtain ⟨a4', rfl, s3, e3⟩ := hP
            have j1 : j + 1 < (rowL ((cpsL a).take m) (cpsL b)).length := by omega
            obtain ⟨g1, g2⟩ := mix_at j1
            have x0 : (scanOr false (rowL ((cpsL a).take m) (cpsL b)))[j]? = some (scanOr false (rowL ((cpsL a).take m) (cpsL b)))[j]! := by
              rw [getElem!_pos _ j (by rw [Pat.scan_len]; omega)]
              exact List.getElem?_eq_getElem _
            generalize (scanOr false (rowL ((cpsL a).take m) (cpsL b)))[j]! = x at x0
            have y0 : (rowL ((cpsL a).take m) (cpsL b))[j + 1]? = some (rowL ((cpsL a).take m) (cpsL b))[j + 1] := List.getElem?_eq_getElem j1
            generalize (rowL ((cpsL a).take m) (cpsL b))[j + 1] = y at y0
            have xy := scan_succ _ _ _ _ _ x0 y0
            rw [x0] at g1
            rw [y0] at g2
            have ej : (0 : Int) + (j : Int) + 1 = ((j + 1 : Nat) : Int) := by omega
            have ej0 : (0 : Int) + (j : Int) = ((j : Nat) : Int) := by omega
            have put : ∀ v, v = (x || y) → gSub (tVar 2) (tOp rAdd (tVar 4) (tC (.int 1))) rSetL (V.bl v) [some (.str a), some (.str b), some (.ref h), some (.str ⟨#[42]⟩), some (.int (0 + (j : Int)))] H' (fun σ' H' => ∃ a4, σ' = [some (.str a), some (.str b), some (.ref h), some (.str ⟨#[42]⟩), a4] ∧ Same H H' ∧ H' h = some (.lst (blV (mix (rowL ((cpsL a).take m) (cpsL b)) (j + 1))))) := fun v hv => by
              refine ⟨_, rfl, _, rfl, _, _, rfl, rfl, h, blV (mix (rowL ((cpsL a).take m) (cpsL b)) j), _, j + 1, rfl, rfl, e3, ?_, _, rfl, fun y o u => by rw [upd_ne (ne_of_none u nh)]; exact s3 _ _ u, ?_⟩
              · rw [ej, blV_len, mix_len (by omega)]
                unfold ixN
                rw [if_pos (by omega), if_pos (by omega), Int.toNat_natCast]
              · rw [upd_same, hv, ← mix_set j1 xy]
                unfold blV
                rw [List.map_set]
            refine ⟨_, rfl, _, rfl, h, _, _, _, rfl, rfl, .of e3, by rw [ej0]; exact atI_nat (blV_get g1), _, rfl, ite2 (fun ex => ?_) (fun ex => ?_)⟩
            · exact put true (by rw [ex]; rfl)
            · refine ⟨_, rfl, _, rfl, _, _, rfl, rfl, h, _, _, _, rfl, rfl, .of e3, by rw [ej]; exact atI_nat (blV_get g2), ?_⟩
              exact put y (by rw [Bool.eq_false_iff.mpr ex, Bool.false_or])
          · obtain ⟨a4', rfl, s3, e3⟩ := hP
            refine ⟨_, _, h, rfl, s3, nh, ?_⟩
            rw [hrow, ← mix_end (row := rowL ((cpsL a).take m) (cpsL b)) (k := b.length) (by omega)]
            exact e3
        · have hone : c ≠ 42 := fun z => e (by subst z; rfl)
          rw [step_one hone] at hrow
          have ol := one_len rl c
          refine ⟨by show 1 ≤ sizeLine; decide, fun l1 n1 => ⟨_, rfl, _, b.length, rfl, ⟨Nat.le_of_lt (small _ (by omega)), rfl⟩, _, rfl, by omega, by omega, fun D nD => ?_⟩⟩
          have s3 : Same H'' (upd H'' l1 (.lst [.bl false])) := same_upd n1
          refine lc_range (lo := 0) (n := b.length) (fun j H5 => Same (upd H'' l1 (.lst [.bl false])) H5 ∧ H5 D = some (.lst (blV ((oneL (cpsL b) (rowL ((cpsL a).take m) (cpsL b)) c).take j)))) ⟨same_upd nD, upd_same⟩ (fun j H5 hj hP => ?_) (fun H5 hP => ?_)
          · obtain ⟨s5, e5⟩ := hP
            have hx : (rowL ((cpsL a).take m) (cpsL b))[j]? = some (rowL ((cpsL a).take m) (cpsL b))[j] := List.getElem?_eq_getElem (by omega)
            have hd : (cpsL b)[j]? = some (cpsL b)[j] := List.getElem?_eq_getElem (by omega)
            generalize (rowL ((cpsL a).take m) (cpsL b))[j] = x at hx
            generalize (cpsL b)[j] = d at hd
            have og := one_get (c := c) hx hd
            have ej0 : (0 : Int) + (j : Int) = ((j : Nat) : Int) := by omega
            have fin : ∀ H6 v, Same H5 H6 → v = (x && (decide (c = 63) || decide (c = d))) → ∃ acc, H6 D = some (.lst acc) ∧ acc.length < sizeLine ∧ Same (upd H'' l1 (.lst [.bl false])) (upd H6 D (.lst (acc ++ [V.bl v]))) ∧ upd H6 D (.lst (acc ++ [V.bl v])) D = some (.lst (blV ((oneL (cpsL b) (rowL ((cpsL a).take m) (cpsL b)) c).take (j + 1)))) := fun H6 v s6 hv => by
              refine ⟨_, s6 _ _ e5, by rw [blV_len, List.length_take]; exact small _ (by omega), fun y o u => by rw [upd_ne (ne_of_none u nD)]; exact s6 _ _ (s5 _ _ u), ?_⟩
              rw [upd_same, List.take_add_one, og, hv]
              unfold blV
              rw [List.map_append]
              rfl
            have eh : H5 h = some (.lst (blV (rowL ((cpsL a).take m) (cpsL b)))) := s5 _ _ (s3 _ _ e2)
            refine ⟨rfl, _, rfl, _, rfl, h, _, _, _, rfl, rfl, .of eh, by rw [ej0]; exact atI_nat (blV_get hx), _, rfl, ite2 (fun ex => ?_) (fun ex => ?_)⟩
            · refine ⟨_, rfl, _, rfl, _, rfl, b, _, d, rfl, rfl, Nat.le_of_lt (small _ (by omega)), by rw [ej0]; exact atI_nat hd, by show 2 ≤ sizeLine; decide, fun t nt => ⟨t, _, rfl, .inr (.of upd_same), rfl, rfl, ?_⟩⟩
              refine fin _ _ (same_upd nt) ?_
              rw [ex, Bool.true_and]
              show ((eqV (.str "?") (.str ⟨#[c]⟩)) || ((eqV (.str ⟨#[d]⟩) (.str ⟨#[c]⟩)) || false)) = _
              rw [Bool.or_false, eqv_code, show eqV (V.str "?") (.str ⟨#[c]⟩) = decide (63 = c) from eqv_code (c := 63) (d := c)]
              rw [decide_eq_decide.mpr (show 63 = c ↔ c = 63 from ⟨Eq.symm, Eq.symm⟩), decide_eq_decide.mpr (show d = c ↔ c = d from ⟨Eq.symm, Eq.symm⟩)]
            · exact fin _ _ (Same.refl _) (by rw [Bool.eq_false_iff.mpr ex, Bool.false_and])
          · obtain ⟨s5, e5⟩ := hP
            rw [List.take_of_length_le (by omega)] at e5
            have nl1 : l1 ≠ D := ne_of_none upd_same nD
            refine ⟨l1, D, _, _, rfl, rfl, s5 _ _ upd_same, e5, by rw [blV_len, ol, lb]; have z := small (b.length + 1) (by omega); show 1 + _ ≤ _; omega, fun l2 n2 => ?_⟩
            refine ⟨_, _, l2, rfl, ((s2.trans s3).trans s5).trans (same_upd n2), none_back ((s2.trans s3).trans s5) n2, ?_⟩
            · rw [upd_same, hrow]
              rfl
      · obtain ⟨a3, a4, h, rfl, s2, nh, e2⟩ := hP
        rw [List.take_of_length_le (by rw [cps_size]; exact Nat.le_refl _)] at e2
        exact ⟨_, _, h, rfl, s2, nh, e2⟩
    rintro σ2 H2 ⟨a3, a4, h, rfl, s2, nh, e2⟩
    have rl := row_len (cpsL a) (cpsL b)
    have last : (rowL (cpsL a) (cpsL b))[(cpsL b).length]? = some (fitsL (cpsL a) (cpsL b)) := by
      unfold fitsL
      generalize rowL (cpsL a) (cpsL b) = r at rl
      cases e : r.getLastD false with
      | true => exact (getLastD_get rl).mp e
      | false =>
        have z : r[(cpsL b).length]? = some r[(cpsL b).length] := List.getElem?_eq_getElem (by omega)
        rw [z]
        cases e2 : r[(cpsL b).length] with
        | false => rfl
        | true =>
          have := (getLastD_get rl).mpr (by rw [z, e2])
          rw [e] at this
          cases this
    refine ⟨_, rfl, _, rfl, h, _, _, _, rfl, rfl, .of e2, ?_, q H2 s2⟩
    unfold atI
    rw [blV_len, rl, ixn_last]
    exact blV_get last
end
end K0
end
/-! ### L2p -/
section
set_option Elab.async false
set_option linter.all false
set_option maxRecDepth 100000
set_option maxHeartbeats 4000000
/-! Drawn texts of some signs; _law_pattern. -/
namespace K0
open PySem PySem.Spec PyProof.Rows L2 Pat
theorem fold_glue : ∀ (ws : List Str) (acc : Array Nat), (ws.foldl (fun acc p => acc ++ ("" : Str).cps ++ p.cps) acc).toList = acc.toList ++ (ws.map fun w => w.cps.toList).flatten
  | [], acc => by simp
  | w :: ws, acc => by
    rw [List.foldl_cons, fold_glue ws, List.map_cons, List.flatten_cons, Array.toList_append, Array.toList_append, List.append_assoc, List.append_assoc]
    rfl
theorem glued_codes (ws : List Str) : cpsL (Builtin.Str.glued ("" : Str) ws) = (ws.map cpsL).flatten := by
  cases ws with
  | nil => rfl
  | cons w ws =>
    show (ws.foldl (fun acc p => acc ++ ("" : Str).cps ++ p.cps) w.cps).toList = _
    rw [fold_glue, List.map_cons, List.flatten_cons]
/-- the text of some codes -/
def txt (l : List Nat) : Str := ⟨l.toArray⟩
theorem txt_codes (l : List Nat) : cpsL (txt l) = l := by simp [cpsL, txt]
theorem codes_txt (z : Str) : txt (cpsL z) = z := by
  obtain ⟨a⟩ := z
  simp [cpsL, txt]
theorem flat_one (l : List Nat) : (l.map fun c => [c]).flatten = l := by
  induction l with
  | nil => rfl
  | cons c l ih => rw [List.map_cons, List.flatten_cons, ih]; rfl
theorem glued_ones (l : List Nat) : Builtin.Str.glued ("" : Str) (l.map oneS) = txt l := by
  rw [← codes_txt (Builtin.Str.glued _ _), glued_codes, List.map_map]
  congr 1
  exact flat_one l
theorem ones_sum : ∀ l : List Nat, ((l.map oneS).map (·.length)).sum = l.length
  | [] => rfl
  | c :: l => by
    rw [List.map_cons, List.map_cons, List.sum_cons, ones_sum l, List.length_cons]
    show 1 + _ = _
    omega
theorem txt_len (l : List Nat) : (txt l).length = l.length := by
  show l.toArray.size = _
  simp
theorem dk_apart {H : Hp} {D p : Addr} {l : List Nat} {a b c : Int} (hD : H D = some (.lst ((l.map oneS).map V.str))) (hp : H p = some (dk a b c)) : D ≠ p := fun e => by
  rw [e, hp] at hD
  have z : HO.lst _ = HO.lst _ := Option.some.inj hD
  injection z with z
  have z2 := congrArg (·.map fun v => match v with | V.int _ => true | _ => false) z
  cases l <;> simp at z2
/-- the items of a list of signs drawn: one of them, whatever the dice -/
theorem ones_at {l : List Nat} {i : Nat} {x : V} (h : (l.map oneV)[i]? = some x) : ∃ c, c ∈ l ∧ x = oneV c := by
  rw [List.getElem?_map] at h
  cases e : l[i]? with
  | none => rw [e] at h; cases h
  | some c => rw [e] at h; cases h; exact ⟨c, List.mem_of_getElem? e, rfl⟩
def extra : List Nat := [42, 42, 63]
theorem scPat : FnScope ["dice", "signs", "size", "some", "turn"] ["dice", "signs", "size"] (defScope (top iPat)) := ⟨rfl, rfl, rfl, by decide +kernel, rfl, by decide +kernel, by decide +kernel⟩
def spPat (K : PySem.W.Frag) : Sp := fun vs H Q _ => ∃ (p t : Addr) (a b c : Int) (cs : List Nat) (n : Nat), vs = [.ref p, .ref t, .int (n : Nat)] ∧ H p = some (dk a b c) ∧ SqT K H t (cs.map oneV) ∧ cs.length ≤ 15 ∧ 1 ≤ n ∧ n ≤ 100 ∧
  ∀ H' l, Keep p H H' → l ≠ [] → l.length ≤ n → (∀ d ∈ l, d ∈ cs ∨ d = 42 ∨ d = 63) → Q (.str (txt l)) H'
section
variable {P : Program} {w : World} {K : PySem.W.Frag} {mg : Str → Option Value} {base : Heap} {f fR fO : Addr} {fd fdR fdO : FuncData}
theorem ok_pat {k : Nat} (F : FnP K "_law_pattern" iPat f fd) (mlist : mg "list" = none) (mrange : mg "range" = none)
    (FR : FnOk P w K mg base CX0 (k + 2) fR fdR ["dice", "total"] spRoll) (gR : mg "_law_roll" = some (.ref fR)) (kR : PySem.W.keepIn K (.ref fR) = true) (bR : Binds K fdR ["dice", "total"] [])
    (FO : FnOk P w K mg base CX0 (k + 2) fO fdO ["dice", "items"] (spOne K)) (gO : mg "_law_one_of" = some (.ref fO)) (kO : PySem.W.keepIn K (.ref fO) = true) (bO : Binds K fdO ["dice", "items"] []) :
    FnOk P w K mg base CX0 (k + 3) f fd ["dice", "signs", "size"] (spPat K) := by
  refine F.ok scPat (fun vs H Q E h => ?_) (fun cdv A outer s H vs Q E hr h => ?_)
  · obtain ⟨p, t, a, b, c, cs, n, rfl, _⟩ := h
    rfl
  · obtain ⟨p, t, a, b, c, cs, n, rfl, hp, hT, c15, n1, n100, q⟩ := h
    refine ⟨_, PSs.nox (C8.pss_cut (ps_set (i := 3) scPat.nd rfl (.inr rfl) (pe_op op_cat (pe_callTy call_list_of (by rfl) mlist (by decide +kernel) (pa_cons (pv 1) pa_nil)) (pe_lst (pa_cons pe_str (pa_cons pe_str (pa_cons pe_str pa_nil))))))
      (pss_one (ps_ret (pe_join pe_str (pe_lc (own := [("turn", 4)]) (g := gName 4) (tt := tYes) rfl scPat.nd (pi_range1 (by rfl) mrange (pa_cons (pe_op op_add pe_int (pe_call FR hr (by rfl) gR kR bR .nil pass0 (pa_cons (pv 0) (pa_cons (pv 2) pa_nil)))) pa_nil)) (blkOk_by (N := ["dice", "signs", "size", "some", "turn"]) (sc := defScope (top iPat)) (by decide +kernel))
        (fun _ _ _ _ _ => pg_name (i := 4) scPat.nd rfl (Or.inl rfl)) (fun _ _ _ _ _ => pts_nil) (fun _ _ _ _ _ => pe_call FO hr (by rfl) gO kO bO .nil pass0 (pa_cons (pv 0) (pa_cons (pv 3) pa_nil)))))))), ?_⟩
    refine ⟨fun σ' H' => ∃ S : Addr, σ' = [some (.ref p), some (.ref t), some (.int (n : Nat)), some (.ref S), none] ∧ Same H H' ∧ H S = none ∧ H' S = some (.lst ((cs ++ extra).map oneV)), ?_, ?_⟩
    · refine ⟨_, rfl, t, _, rfl, .inr hT, fun l1 m1 => ⟨by show 3 ≤ sizeLine; decide, fun l2 m2 => ?_⟩⟩
      have s2 := (same_upd m1 (o := .lst (cs.map oneV))).trans (same_upd m2 (o := .lst [.str "*", .str "*", .str "?"]))
      refine ⟨l1, l2, _, _, rfl, rfl, same_upd m2 _ _ upd_same, upd_same, by rw [List.length_map]; exact Nat.le_of_lt (small1000 (by show cs.length + 3 ≤ 1000; omega)), fun l3 m3 => ⟨l3, rfl, s2.trans (same_upd m3), none_back s2 m3, ?_⟩⟩
      rw [upd_same, List.map_append]
      rfl
    rintro σ1 H1 ⟨S, rfl, s1, nS, e1⟩
    have hp1 := s1 _ _ hp
    have nSp : S ≠ p := (ne_of_none hp nS).symm
    have xl : ((cs ++ extra).map oneV).length = cs.length + 3 := by rw [List.length_map, List.length_append]; rfl
    have items : ∀ {H' : Hp}, H' S = some (.lst ((cs ++ extra).map oneV)) → ∀ a' b' c', Its K (upd H' p (dk a' b' c')) (.ref S) ((cs ++ extra).map oneV) := fun {H'} e a' b' c' => .inl ⟨S, rfl, .inl (.of (by rw [upd_ne nSp]; exact e))⟩
    refine ⟨⟨_, rfl⟩, _, rfl, _, rfl, p, a, b, c, (n : Int), rfl, hp1, wide_div (b := 7) (by omega) (by omega) (by decide) (by decide), fun a1 b1 c1 r r0 r1 => ⟨_, _, rfl, rfl, _, rfl, by omega, by omega, fun D nD => ?_⟩⟩
    have k1 : Keep p H (upd H1 p (dk a1 b1 c1)) := ⟨fun x o nx e => by rw [upd_ne nx]; exact s1 _ _ e, a1, b1, c1, upd_same⟩
    have eS : upd H1 p (dk a1 b1 c1) S = some (.lst ((cs ++ extra).map oneV)) := by rw [upd_ne nSp]; exact e1
    refine lc_range (lo := 0) (n := (1 + r).toNat) (fun i H' => Keep p (upd H1 p (dk a1 b1 c1)) H' ∧ ∃ l : List Nat, l.length = i ∧ (∀ d ∈ l, d ∈ cs ++ extra) ∧ H' D = some (.lst ((l.map oneS).map V.str))) ⟨.new upd_same nD, [], rfl, (fun d hd => nomatch hd), upd_same⟩ (fun i H' hi hP => ?_) (fun H' hP => ?_)
    · obtain ⟨kk, l, hl, hm, hDD⟩ := hP
      obtain ⟨a2, b2, c2, hp2⟩ := kk.2
      have eS2 := kk.1 S _ nSp eS
      refine ⟨rfl, _, rfl, _, rfl, p, a2, b2, c2, _, _, rfl, hp2, .inl ⟨S, rfl, .inl (.of eS2)⟩, (fun z => by have y := congrArg List.length z; rw [xl] at y; cases y), by rw [xl]; exact Nat.le_of_lt (small1000 (by omega)), items eS2, fun a3 b3 c3 j x hx => ?_⟩
      obtain ⟨d, hd, rfl⟩ := ones_at hx
      have nDp : D ≠ p := dk_apart hDD hp2
      refine ⟨(l.map oneS).map V.str, by rw [upd_ne nDp]; exact hDD, ?_, ?_⟩
      · rw [List.length_map, List.length_map, hl]
        exact small1000 (by omega)
      · refine ⟨⟨fun y o ny e => ?_, a3, b3, c3, by rw [upd_ne nDp.symm, upd_same]⟩, l ++ [d], by rw [List.length_append, hl]; rfl, fun e he => ?_, ?_⟩
        · rw [upd_ne (ne_of_none e nD), upd_ne ny]
          exact kk.1 y o ny e
        · rcases List.mem_append.mp he with he | he
          · exact hm e he
          · rw [List.mem_singleton.mp he]
            exact hd
        · rw [upd_same, List.map_append, List.map_append]
          rfl
    · obtain ⟨kk, l, hl, hm, hDD⟩ := hP
      refine ⟨_, D, l.map oneS, rfl, rfl, .inl (.of hDD), ?_, ?_⟩
      · rw [ones_sum]
        show _ + (l.map oneS).length * 0 ≤ _
        have z := small1000 (n := l.length) (by omega)
        omega
      · show Q (.str (Builtin.Str.glued ("" : Str) (l.map oneS))) H'
        rw [glued_ones]
        refine q H' l (k1.trans kk) (fun e => by rw [e] at hl; have z : 0 = (1 + r).toNat := hl; omega) (by omega) fun d hd => ?_
        rcases List.mem_append.mp (hm d hd) with z | z
        · exact .inl z
        · have z : d ∈ [42, 42, 63] := z
          simp at z
          exact .inr z
end
end K0
end
/-! ### L3 -/
section
set_option Elab.async false
set_option linter.all false
set_option maxRecDepth 100000
set_option maxHeartbeats 4000000
/-! _law_by_splits: the same from the front. -/
namespace K0
open PySem PySem.Spec PyProof.Rows L2 Pat
theorem txt_inj {a b : List Nat} (h : txt a = txt b) : a = b := by
  rw [← txt_codes a, ← txt_codes b, h]
theorem txt_nil : ("" : Str) = txt [] := rfl
theorem txt_one (c : Nat) : (⟨#[c]⟩ : Str) = txt [c] := rfl
theorem eq_txt {a b : List Nat} : decide (V.str (txt a) = V.str (txt b)) = decide (a = b) := decide_eq_decide.mpr ⟨fun h => txt_inj (by injection h), fun h => by rw [h]⟩
theorem eq_empty {a : List Nat} : decide (V.str (txt a) = V.str ("" : Str)) = a.isEmpty := by
  rw [txt_nil, eq_txt]
  cases a <;> simp
theorem sx_nat (n d k : Nat) : HT.sIx n d (some (k : Int)) = min k n := HT.sIx_nat n d k
theorem cut_from (l : List Nat) (k : Nat) : cutS (txt l) (some (k : Int)) none = txt (l.drop k) := by
  unfold cutS
  rw [sx_nat, HT.sIx_none, txt_len]
  show (⟨((cpsL (txt l)).drop (min k l.length) |>.take _).toArray⟩ : Str) = _
  rw [txt_codes, List.take_of_length_le (by rw [List.length_drop]; omega)]
  by_cases h : k ≤ l.length
  · rw [Nat.min_eq_left h]
    rfl
  · rw [Nat.min_eq_right (by omega), List.drop_length, List.drop_eq_nil_of_le (by omega)]
    rfl
theorem cut_to (l : List Nat) (k : Nat) : cutS (txt l) none (some (k : Int)) = txt (l.take k) := by
  unfold cutS
  rw [sx_nat, HT.sIx_none, txt_len, List.drop_zero]
  show (⟨((cpsL (txt l)).take _).toArray⟩ : Str) = _
  rw [txt_codes, Nat.sub_zero]
  by_cases h : k ≤ l.length
  · rw [Nat.min_eq_left h]
    rfl
  · rw [Nat.min_eq_right (by omega), List.take_length, List.take_of_length_le (by omega)]
    rfl
theorem at_txt {l : List Nat} {i c : Nat} (h : l[i]? = some c) : atI (txt l).cps.toList (i : Int) = some c := by
  rw [show (txt l).cps.toList = l from txt_codes l]
  exact atI_nat h
theorem scSplits : FnScope ["pattern", "path"] ["pattern", "path"] (defScope (top iSplits)) := ⟨rfl, rfl, rfl, by decide +kernel, rfl, by decide +kernel, by decide +kernel⟩
def spSplits (N : Nat) : Sp := fun vs H Q _ => ∃ (l p : List Nat), vs = [.str (txt l), .str (txt p)] ∧ l.length + p.length < N ∧ l.length + p.length ≤ 500 ∧ ∀ H', Same H H' → Q (.bl (fitsL l p)) H'
section
variable {P : Program} {w : World} {K : PySem.W.Frag} {mg : Str → Option Value} {base : Heap} {f : Addr} {fd : FuncData}
theorem ok_splits (F : FnP K "_law_by_splits" iSplits f fd) (g : mg "_law_by_splits" = some (.ref f)) (kp : PySem.W.keepIn K (.ref f) = true) (b : Binds K fd ["pattern", "path"] []) : ∀ (N k : Nat), FnOk P w K mg base CX0 (k + N + 1) f fd ["pattern", "path"] (spSplits N)
  | 0, k => F.ok scSplits (fun vs H Q E h => by obtain ⟨l, p, rfl, _⟩ := h; rfl) (fun cdv A outer s H vs Q E hr h => by obtain ⟨l, p, _, h, _⟩ := h; exact absurd h (Nat.not_lt_zero _))
  | N + 1, k => by
    have IH := ok_splits F g kp b N k
    refine F.ok scSplits (fun vs H Q E h => ?_) (fun cdv A outer s H vs Q E hr h => ?_)
    · obtain ⟨l, p, rfl, _⟩ := h
      rfl
    · obtain ⟨l, p, rfl, lt, sm, q⟩ := h
      have small : ∀ n : Nat, n ≤ 500 → n ≤ sizeLine := fun n hn => by rw [sizeLine_eq]; omega
      refine ⟨_, PSs.nox (pss_cons (ps_if (pt_cmpR op_eq (pv 0) pe_str (nomark _)) (pss_one (ps_ret (pe_cmpR op_eq (pv 1) pe_str (nomark _)))) pss_nil)
        (pss_cons (ps_if (pt_cmpR op_eq (pe_ix ix_str (pv 0) pe_int (fun _ _ => rfl)) pe_str (nomark _))
          (pss_one (ps_ret (pe_or (pe_call IH hr (by rfl) g kp b .nil pass0 (pa_cons (pe_slice sl_str (pv 0) (po_some pe_int) po_none) (pa_cons (pv 1) pa_nil)))
            (pe_one (pe_and (pe_cmpR op_ne (pv 1) pe_str (nomark _)) (pe_one (pe_call IH hr (by rfl) g kp b .nil pass0 (pa_cons (pv 0) (pa_cons (pe_slice sl_str (pv 1) (po_some pe_int) po_none) pa_nil))))))))) pss_nil)
        (pss_one (ps_ret (pe_and (pe_cmpR op_ne (pv 1) pe_str (nomark _)) (pe_and (pe_cmpR op_in_seq (pe_ix ix_str (pv 0) pe_int (fun _ _ => rfl)) (pe_tup (pa_cons pe_str (pa_cons (pe_ix ix_str (pv 1) pe_int (fun _ _ => rfl)) pa_nil))) rfl)
          (pe_one (pe_call IH hr (by rfl) g kp b .nil pass0 (pa_cons (pe_slice sl_str (pv 0) (po_some pe_int) po_none) (pa_cons (pe_slice sl_str (pv 1) (po_some pe_int) po_none) pa_nil)))))))))), ?_⟩
      refine ⟨_, rfl, rfl, _, rfl, ite2 (fun e => ?_) (fun e => ?_)⟩
      · rw [eq_empty, List.isEmpty_iff] at e
        subst e
        refine ⟨_, rfl, rfl, ?_⟩
        rw [eq_empty]
        rw [fitsL_nil] at q
        exact q H (Same.refl H)
      · rw [eq_empty, List.isEmpty_iff] at e
        obtain ⟨c, r, rfl⟩ : ∃ c r, l = c :: r := by
          cases l with
          | nil => exact absurd rfl e
          | cons c r => exact ⟨c, r, rfl⟩
        rw [List.length_cons] at lt sm
        have at0 : atI (txt (c :: r)).cps.toList 0 = some c := at_txt (i := 0) rfl
        have z1 : (txt (c :: r)).length ≤ sizeLine := by rw [txt_len]; exact small _ (by rw [List.length_cons]; omega)
        have z2 : (txt p).length ≤ sizeLine := by rw [txt_len]; exact small _ (by omega)
        have d1 : cutS (txt (c :: r)) (some 1) none = txt r := cut_from (c :: r) 1
        refine ⟨_, rfl, _, _, c, rfl, rfl, z1, at0, rfl, _, rfl, ite2 (fun e2 => ?_) (fun e2 => ?_)⟩
        · have hc : c = 42 := of_decide_eq_true ((eq_code (c := c) (d := 42)).symm.trans e2)
          subst hc
          rw [fitsL_star] at q
          refine ⟨_, rfl, _, rfl, _, rfl, z1, _, rfl, r, p, by rw [d1]; rfl, by omega, by omega, fun H1 s1 => ⟨_, rfl, ite2 (fun t => ?_) (fun t => ?_)⟩⟩
          · rw [t, Bool.true_or] at q
            exact q H1 s1
          · rw [Bool.eq_false_iff.mpr t, Bool.false_or] at q
            refine ⟨_, rfl, rfl, _, rfl, ite2 (fun t2 => ?_) (fun t2 => ?_)⟩
            · rw [show decide (V.str (txt p) = V.str ("" : Str)) = p.isEmpty from eq_empty] at t2
              cases p with
              | nil => cases t2
              | cons d p =>
                rw [List.length_cons] at lt sm
                exact ⟨_, rfl, _, rfl, _, rfl, _, rfl, z2, 42 :: r, p, by rw [show cutS (txt (d :: p)) (some 1) none = txt p from cut_from (d :: p) 1]; rfl, by rw [List.length_cons]; omega, by rw [List.length_cons]; omega, fun H2 s2 => q H2 (s1.trans s2)⟩
            · rw [show decide (V.str (txt p) = V.str ("" : Str)) = p.isEmpty from eq_empty] at t2
              cases p with
              | nil => exact q H1 s1
              | cons d p => exact absurd rfl t2
        · have hc : c ≠ 42 := fun z => e2 (by subst z; rfl)
          rw [fitsL_one hc] at q
          refine ⟨_, rfl, rfl, _, rfl, ite2 (fun t2 => ?_) (fun t2 => ?_)⟩
          · rw [show decide (V.str (txt p) = V.str ("" : Str)) = p.isEmpty from eq_empty] at t2
            cases p with
            | nil => cases t2
            | cons d p =>
              have q : ∀ H', Same H H' → Q (.bl ((decide (c = 63) || decide (c = d)) && fitsL r p)) H' := q
              rw [List.length_cons] at lt sm
              have at1 : atI (txt (d :: p)).cps.toList 0 = some d := at_txt (i := 0) rfl
              have d2 : cutS (txt (d :: p)) (some 1) none = txt p := cut_from (d :: p) 1
              refine ⟨_, rfl, _, _, c, rfl, rfl, z1, at0, _, rfl, _, _, d, rfl, rfl, z2, at1, by show 2 ≤ sizeLine; decide, fun t nt => ⟨t, _, rfl, .inr (.of upd_same), rfl, rfl, ?_⟩⟩
              have s1 : Same H (upd H t (.tup [.str "?", .str ⟨#[d]⟩])) := same_upd nt
              have iv : inV (.str ⟨#[c]⟩) [.str "?", .str ⟨#[d]⟩] = (decide (c = 63) || decide (c = d)) := by
                show ((eqV (.str "?") (.str ⟨#[c]⟩)) || ((eqV (.str ⟨#[d]⟩) (.str ⟨#[c]⟩)) || false)) = _
                rw [Bool.or_false, eqv_code, show eqV (V.str "?") (.str ⟨#[c]⟩) = decide (63 = c) from eqv_code (c := 63) (d := c)]
                rw [decide_eq_decide.mpr (show 63 = c ↔ c = 63 from ⟨Eq.symm, Eq.symm⟩), decide_eq_decide.mpr (show d = c ↔ c = d from ⟨Eq.symm, Eq.symm⟩)]
              refine ⟨_, rfl, ite2 (fun t3 => ?_) (fun t3 => ?_)⟩
              · have t3 : inV (.str ⟨#[c]⟩) [.str "?", .str ⟨#[d]⟩] = true := t3
                rw [iv] at t3
                rw [t3, Bool.true_and] at q
                exact ⟨_, rfl, _, rfl, _, rfl, z1, _, rfl, _, rfl, _, rfl, z2, r, p, by rw [d1, d2]; rfl, by omega, by omega, fun H2 s2 => q H2 (s1.trans s2)⟩
              · have t3 : ¬ inV (.str ⟨#[c]⟩) [.str "?", .str ⟨#[d]⟩] = true := t3
                rw [iv] at t3
                rw [Bool.eq_false_iff.mpr t3, Bool.false_and] at q
                exact q _ s1
          · rw [show decide (V.str (txt p) = V.str ("" : Str)) = p.isEmpty from eq_empty] at t2
            cases p with
            | nil => exact q H (Same.refl H)
            | cons d p => exact absurd rfl t2
end
end K0
end
/-! ### L4 -/
section
set_option Elab.async false
set_option linter.all false
set_option maxRecDepth 100000
set_option maxHeartbeats 4000000
/-! _law_short_right: a drawn pattern against all short paths. -/
namespace K0
open PySem PySem.Spec PyProof.Rows L2 Pat
def patOk (l : List Nat) : Prop := l ≠ [] ∧ l.length ≤ 12 ∧ ∀ d ∈ l, d ∈ allSigns.cps.toList ∨ d = 42 ∨ d = 63
def pathOk (p : List Nat) : Prop := p ≠ [] ∧ p.length ≤ 12 ∧ ∀ d ∈ p, d ∈ allSigns.cps.toList
/-- fits of a pattern and a path -/
def spFits : Sp := fun vs H Q _ => ∃ (l p : List Nat), vs = [.str (txt l), .str (txt p)] ∧ patOk l ∧ pathOk p ∧ ∀ H', Same H H' → Q (.bl (fitsL l p)) H'
def boolS (b : Bool) : Str := (PyData.bool b).shown
theorem bool_shown (a b : Bool) : decide (V.str (boolS a) = V.str (boolS b)) = decide (a = b) := by
  cases a <;> cases b <;> decide +kernel
def rReprB : List V → Hp → VK → Prop := fun xs H Q => ∃ b, xs = [.bl b] ∧ Q (.str (boolS b)) H
theorem call_reprB {X : Cx} : CallR X (.builtin "repr") rReprB := by
  intro pins s σ H xs us Q I r h
  obtain ⟨b, rfl, q⟩ := h
  obtain ⟨u, rfl, rx⟩ := vals1 r
  cases rx
  exact PySem.P.repr_of_bool ⟨.str (boolS b), H, I.tok _, by simpa [boolS, PyData.shown] using ⟨_, rfl⟩, q⟩
theorem level_mem {cs : List Nat} : ∀ (k : Nat) (t : Str), t ∈ level cs k → ∀ d ∈ cpsL t, d ∈ cs
  | 0, t, h, d, hd => by
    rw [List.mem_singleton.mp h] at hd
    cases hd
  | k + 1, t, h, d, hd => by
    obtain ⟨u, hu, hc⟩ := List.mem_flatMap.mp h
    obtain ⟨c, c1, rfl⟩ := List.mem_map.mp hc
    have e : cpsL (u ++ oneS c) = cpsL u ++ [c] := by
      show (u.cps ++ #[c]).toList = _
      simp
    rw [e] at hd
    rcases List.mem_append.mp hd with hd | hd
    · exact level_mem k u hu d hd
    · rw [List.mem_singleton.mp hd]
      exact c1
theorem pre_mem {cs : List Nat} : ∀ (k : Nat) (t : Str), t ∈ (pre cs (k + 1)).drop 1 → 1 ≤ t.length ∧ t.length ≤ k ∧ ∀ d ∈ cpsL t, d ∈ cs
  | 0, t, h => by cases h
  | k + 1, t, h => by
    have hl : 1 ≤ (pre cs (k + 1)).length := by
      have e : (pre cs (k + 1)).length = (pre cs k).length + (level cs k).length := by rw [pre, List.length_append]
      induction k with
      | zero => show 1 ≤ 1; omega
      | succ k ih =>
        have e2 : (pre cs (k + 1)).length = (pre cs k).length + (level cs k).length := by rw [pre, List.length_append]
        have z : 1 ≤ (pre cs (k + 1)).length := by
          clear ih e h
          clear e2
          induction k with
          | zero => show 1 ≤ 1; omega
          | succ k ih => rw [pre, List.length_append]; omega
        omega
    rw [pre, List.drop_append_of_le_length hl] at h
    rcases List.mem_append.mp h with h | h
    · obtain ⟨a, b, c⟩ := pre_mem k t h
      exact ⟨a, by omega, c⟩
    · have z := level_size (k + 1) t h
      exact ⟨by omega, by omega, level_mem (k + 1) t h⟩
theorem notIn_star (l : List Nat) : (!decide (42 ∈ (txt l).cps.toList)) = decide (42 ∉ l) := by
  rw [show (txt l).cps.toList = l from txt_codes l]
  by_cases h : 42 ∈ l <;> simp [h]
theorem scShort : FnScope ["dice", "signs", "pattern", "path", "due"] ["dice", "signs"] (defScope (top iShort)) := ⟨rfl, rfl, rfl, by decide +kernel, rfl, by decide +kernel, by decide +kernel⟩
def spShort (K : PySem.W.Frag) : Sp := fun vs H Q _ => ∃ (p t : Addr) (a b c : Int) (cs : List Nat), vs = [.ref p, .ref t] ∧ H p = some (dk a b c) ∧ SqT K H t (cs.map oneV) ∧ cs.length ≤ 3 ∧ (∀ c ∈ cs, c ∈ allSigns.cps.toList) ∧ t ≠ p ∧ ∀ H', Keep p H H' → Q (.bl true) H'
theorem Keep.same {p : Addr} {H H1 H2 : Hp} (k : Keep p H H1) (s : Same H1 H2) : Keep p H H2 := by
  obtain ⟨a, b, c, e⟩ := k.2
  exact ⟨fun x o n z => s _ _ (k.1 x o n z), a, b, c, s _ _ e⟩
theorem keep_sqt {K : PySem.W.Frag} {p t : Addr} {H H' : Hp} {xs : List V} (k : Keep p H H') (n : t ≠ p) (h : SqT K H t xs) : SqT K H' t xs := by
  rcases h with (h | ⟨o, h⟩) | h
  · exact .inl (.inl (k.1 _ _ n h))
  · exact .inl (.inr ⟨o, k.1 _ _ n h⟩)
  · exact .inr h
section
variable {P : Program} {w : World} {K : PySem.W.Frag} {mg : Str → Option Value} {base : Heap} {f fP fT fL fS fF : Addr} {fd fdP fdT fdL fdS fdF : FuncData}
theorem ok_short {k : Nat} (F : FnP K "_law_short_right" iShort f fd) (mlen : mg "len" = none) (mrepr : mg "repr" = none)
    (FP : FnOk P w K mg base CX0 k fP fdP ["dice", "signs", "size"] (spPat K)) (gP : mg "_law_pattern" = some (.ref fP)) (kP : PySem.W.keepIn K (.ref fP) = true) (bP : Binds K fdP ["dice", "signs", "size"] [])
    (FT : FnOk P w K mg base CX0 k fT fdT ["signs", "upto"] (spTexts K)) (gT : mg "_law_texts" = some (.ref fT)) (kT : PySem.W.keepIn K (.ref fT) = true) (bT : Binds K fdT ["signs", "upto"] [])
    (FL : FnOk P w K mg base CX0 k fL fdL ["pattern", "path"] spLFits) (gL : mg "_law_fits" = some (.ref fL)) (kL : PySem.W.keepIn K (.ref fL) = true) (bL : Binds K fdL ["pattern", "path"] [])
    (FS : FnOk P w K mg base CX0 k fS fdS ["pattern", "path"] (spSplits 12)) (gS : mg "_law_by_splits" = some (.ref fS)) (kS : PySem.W.keepIn K (.ref fS) = true) (bS : Binds K fdS ["pattern", "path"] [])
    (FF : FnOk P w K mg base CX0 k fF fdF ["pattern", "path"] spFits) (gF : mg "fits" = some (.ref fF)) (kF : PySem.W.keepIn K (.ref fF) = true) (bF : Binds K fdF ["pattern", "path"] []) :
    FnOk P w K mg base CX0 (k + 1) f fd ["dice", "signs"] (spShort K) := by
  refine F.ok scShort (fun vs H Q E h => ?_) (fun cdv A outer s H vs Q E hr h => ?_)
  · obtain ⟨p, t, a, b, c, cs, rfl, _⟩ := h
    rfl
  · obtain ⟨p, t, a, b, c, cs, rfl, hp, hT, c3, inS, ntp, q⟩ := h
    refine ⟨_, PSs.nox (pss_cons (ps_set (i := 2) scShort.nd rfl (.inl rfl) (pe_call FP hr (by rfl) gP kP bP .nil pass0 (pa_cons (pv 0) (pa_cons (pv 1) (pa_cons pe_int pa_nil)))))
      (pss_cons (ps_for PassesOwn.never rfl (pi_list (pe_slice sl_list (pe_call FT hr (by rfl) gT kT bT .nil pass0 (pa_cons (pv 1) (pa_cons pe_int pa_nil))) (po_some pe_int) po_none)) (pg_name (i := 3) scShort.nd rfl (.inl rfl))
        (pss_cons (ps_set (i := 4) scShort.nd rfl (.inl rfl) (pe_call FL hr (by rfl) gL kL bL .nil pass0 (pa_cons (pv 2) (pa_cons (pv 3) pa_nil))))
        (pss_cons (ps_if (PW.pt (pw_or (pt_cmpR op_ne (pv 4) (pe_call FS hr (by rfl) gS kS bS .nil pass0 (pa_cons (pv 2) (pa_cons (pv 3) pa_nil))) (nomark _))
            (pw_or1 (pt_cmpR op_ne (pe_callB call_reprB (by rfl) mrepr (by decide +kernel) (pa_cons (pe_call FF hr (by rfl) gF kF bF .nil pass0 (pa_cons (pv 2) (pa_cons (pv 3) pa_nil))) pa_nil)) (pe_callB call_reprB (by rfl) mrepr (by decide +kernel) (pa_cons (pv 4) pa_nil)) (nomark _)))))
          (pss_one (ps_ret pe_bl)) pss_nil)
        (pss_one (ps_if (PW.pt (pw_and (pt_cmpR op_notInS pe_str (pv 2) (by rfl)) (pw_and (pt_val (pv 4)) (pw_and1 (pt_cmpR op_ne (pe_callB call_len (by rfl) mlen PySem.boot_len (pa_cons (pv 3) pa_nil)) (pe_callB call_len (by rfl) mlen PySem.boot_len (pa_cons (pv 2) pa_nil)) (nomark _))))))
          (pss_one (ps_ret pe_bl)) pss_nil)))))
      (pss_one (ps_ret pe_bl)))), ?_⟩
    refine ⟨_, rfl, _, rfl, p, t, a, b, c, cs, 6, rfl, hp, hT, by omega, by omega, by omega, fun H1 l k1 l0 l6 lm => ?_⟩
    have hT1 : SqT K H1 t (cs.map oneV) := keep_sqt k1 ntp hT
    refine ⟨_, rfl, t, cs, 4, rfl, hT1, c3, by omega, fun H2 L s2 eL => ⟨_, rfl, L, _, rfl, .of eL, fun D nD => ⟨D, rfl, ⟨_, .of upd_same⟩, ?_⟩⟩⟩
    have k2 : Keep p H (upd H2 D (.lst (cutV ((textsTo cs 4).map V.str) (some 1) none))) := (k1.same s2).same (same_upd nD)
    have ec : cutV ((textsTo cs 4).map V.str) (some 1) none = ((textsTo cs 4).drop 1).map V.str := by
      have hn : 1 ≤ ((textsTo cs 4).map V.str).length := by
        rw [List.length_map]
        unfold textsTo
        rw [pre, List.length_append, pre, List.length_append, pre, List.length_append, pre, List.length_append, pre, List.length_append]
        show 1 ≤ _ + 1 + _ + _ + _ + _
        omega
      unfold cutV
      rw [show HT.sIx ((textsTo cs 4).map V.str).length 0 (some 1) = min 1 ((textsTo cs 4).map V.str).length from HT.sIx_nat _ _ 1, HT.sIx_none, Nat.min_eq_left hn, List.take_of_length_le (by rw [List.length_drop]; omega), List.map_drop]
    rw [ec] at k2 ⊢
    generalize hH : upd H2 D (.lst (((textsTo cs 4).drop 1).map V.str)) = H3 at k2
    have e3 : H3 D = some (.lst (((textsTo cs 4).drop 1).map V.str)) := by rw [← hH, upd_same]
    have Dp : D ≠ p := by
      obtain ⟨_, _, _, e⟩ := (k1.same s2).2
      exact (ne_of_none e nD).symm
    have pl := pre_len c3 5 (by omega)
    refine for_list (xs := ((textsTo cs 4).drop 1).map V.str) (fun m σ' H' => ∃ a3 a4, σ' = [some (.ref p), some (.ref t), some (.str (txt l)), a3, a4] ∧ Same H3 H') ⟨none, none, rfl, Same.refl _⟩ (fun m σ' H' hm hP => ?_) (fun m x σ' H' hx hP => ?_) (fun σ' H' hP => ?_)
    · obtain ⟨_, _, _, s4⟩ := hP
      exact .of (s4 _ _ e3)
    · obtain ⟨a3, a4, rfl, s4⟩ := hP
      rw [List.getElem?_map] at hx
      obtain ⟨T, hTm, rfl⟩ := Option.map_eq_some_iff.mp hx
      obtain ⟨T1, T4, Tc⟩ := pre_mem 4 T (List.mem_of_getElem? hTm)
      obtain ⟨r, rfl⟩ : ∃ r, T = txt r := ⟨cpsL T, (codes_txt T).symm⟩
      rw [txt_len] at T1 T4
      rw [txt_codes] at Tc
      refine ⟨_, rfl, _, rfl, txt l, txt r, rfl, by rw [txt_len]; omega, by rw [txt_len]; omega, fun H4 s5 => ?_⟩
      rw [txt_codes, txt_codes]
      refine ⟨_, rfl, _, rfl, _, rfl, l, r, rfl, by omega, by omega, fun H5 s6 => ⟨rfl, _, rfl, ite2 (fun e => absurd e (by simp)) (fun _ => ?_)⟩⟩
      refine ⟨_, rfl, _, rfl, l, r, rfl, ⟨l0, by omega, fun d hd => ?_⟩, ⟨fun e => by rw [e] at T1; exact absurd T1 (by decide), by omega, fun d hd => inS d (Tc d hd)⟩, fun H6 s7 => ⟨_, rfl, _, rfl, _, rfl, rfl, _, rfl, ?_⟩⟩
      · rcases lm d hd with z | z
        · exact .inl (inS d z)
        · exact .inr z
      refine ite2 (fun e => absurd e (by simp)) (fun _ => ?_)
      have s8 : Same H3 H6 := ((s4.trans s5).trans s6).trans s7
      refine ⟨_, rfl, 42, txt l, rfl, rfl, _, rfl, ?_⟩
      rw [notIn_star]
      refine ite2 (fun e => ?_) (fun e => ⟨_, _, rfl, s8⟩)
      refine ⟨_, rfl, _, rfl, ite2 (fun e2 => ?_) (fun e2 => ⟨_, _, rfl, s8⟩)⟩
      have hf := (fitsL_iff l r).mp e2
      have hl := fit_plain (of_decide_eq_true e) hf
      refine ⟨_, rfl, _, r.length, rfl, ⟨?_, by rw [txt_len]⟩, _, rfl, _, l.length, rfl, ⟨?_, by rw [txt_len]⟩, rfl, _, rfl, ite2 (fun e3 => ?_) (fun e3 => ⟨_, _, rfl, s8⟩)⟩
      · rw [txt_len, sizeLine_eq]; omega
      · rw [txt_len, sizeLine_eq]; omega
      · rw [hl] at e3
        exact absurd e3 (by simp)
    · obtain ⟨a3, a4, rfl, s4⟩ := hP
      exact q H' (k2.same s4)
end
end K0
end
/-! ### BIN -/
section
set_option Elab.async false
set_option linter.all false
set_option maxRecDepth 100000
set_option maxHeartbeats 4000000
/-! int(text, 2) of a text of noughts and ones. -/
namespace Bn
open PySem PySem.Spec PyProof.Rows L2 PySem.NumText PySem.Calls
def Two (c : Nat) : Prop := c = 48 ∨ c = 49
def val2 (l : List Nat) : Nat := l.foldl (fun n c => n * 2 + (c - 48)) 0
theorem two_step {c : Nat} (hc : Two c) (ds : Array Nat) (b : Bool) : PySem.NumText.step 2 (ds, b) c = some (ds.push (c - 48), true) := by
  rcases hc with rfl | rfl <;> rfl
theorem two_fold (l : List Nat) : ∀ (ds : Array Nat), (∀ c ∈ l, Two c) → List.foldlM (PySem.NumText.step 2) (ds, true) l = some (l.foldl (fun out c => out.push (c - 48)) ds, true) := by
  induction l with
  | nil => intro ds _; rfl
  | cons c l ih =>
    intro ds all
    rw [List.foldlM_cons, two_step (all c (by simp)) ds true]
    exact ih (ds.push (c - 48)) fun d hd => all d (by simp [hd])
theorem two_digits {l : List Nat} (all : ∀ c ∈ l, Two c) (ne : l ≠ []) : digits? 2 l = some (l.foldl (fun out c => out.push (c - 48)) #[]) := by
  obtain ⟨c, l', rfl⟩ := List.exists_cons_of_ne_nil ne
  show (List.foldlM (PySem.NumText.step 2) (#[], false) (c :: l')).bind _ = _
  rw [List.foldlM_cons, two_step (all c (by simp)) #[] false]
  show (List.foldlM (PySem.NumText.step 2) (#[].push (c - 48), true) l').bind _ = _
  rw [two_fold l' _ fun d hd => all d (by simp [hd])]
  rfl
theorem two_value (l : List Nat) : ∀ ds : Array Nat, (l.foldl (fun out c => out.push (c - 48)) ds).foldl (fun n d => n * 2 + d) 0 = l.foldl (fun n c => n * 2 + (c - 48)) (ds.foldl (fun n d => n * 2 + d) 0) := by
  induction l with
  | nil => intro ds; rfl
  | cons c l ih =>
    intro ds
    rw [List.foldl_cons, List.foldl_cons, ih]
    simp
theorem two_rng {c : Nat} (h : Two c) : 33 ≤ c ∧ c ≠ 45 ∧ c ≠ 43 ∧ c ≠ 0 ∧ c < 128 := by
  rcases h with rfl | rfl <;> decide
theorem two_lead {l : List Nat} (all : ∀ c ∈ l, Two c) : l.dropWhile blank = l ∧ sign l = (false, l) := by
  cases l with
  | nil => exact ⟨rfl, rfl⟩
  | cons c l =>
    have r := two_rng (all c (by simp))
    exact ⟨dropWhile_of r.1, sign_of r.2.1 r.2.2.1⟩
theorem two_based {l : List Nat} (all : ∀ c ∈ l, Two c) : based 2 l = (2, false, l) := by
  match l, all with
  | [], _ => rfl
  | [c], all =>
    have h : Two c := all c (by simp)
    rcases h with rfl | rfl <;> rfl
  | c :: d :: r, all =>
    have h : Two c := all c (by simp)
    have h2 : Two d := all d (by simp)
    rcases h with rfl | rfl <;> rcases h2 with rfl | rfl <;> rfl
theorem two_read {l : List Nat} (all : ∀ c ∈ l, Two c) (ne : l ≠ []) : (int_private% "readNumeral") 0 2 l = (int_private% "Numeral.value") ((val2 l : Nat) : Int) := by
  have back : ∀ c ∈ l.reverse, Two c := fun c hc => all c (List.mem_reverse.mp hc)
  have hb := two_based all
  rw [readNumeral_eq, (two_lead all).1, (two_lead all).2]
  show judge 0 false (based 2 l).1 (based 2 l).2.1 (digits? (based 2 l).1 ((based 2 l).2.2.reverse.dropWhile blank).reverse) = _
  rw [hb]
  show judge 0 false 2 false (digits? 2 (l.reverse.dropWhile blank).reverse) = _
  rw [(two_lead back).1, List.reverse_reverse, two_digits all ne]
  show (int_private% "Numeral.value") (((l.foldl (fun out c => out.push (c - 48)) (#[] : Array Nat)).foldl (fun n d => n * 2 + d) 0 : Nat) : Int) = _
  rw [two_value]
  rfl
theorem two_seen {x : Str} (all : ∀ c ∈ x.cps.toList, Two c) : numTextOf x = x.cps.toList ∧ numSeenOf x = x.cps.toList := by
  have e1 : numTextOf x = x.cps.toList := by
    refine if_pos ?_
    rw [← Array.all_toList, List.all_eq_true]
    exact fun c hc => decide_eq_true (by have := (two_rng (all c hc)).2.2.2.2; omega)
  refine ⟨e1, ?_⟩
  have e2 : numSeenOf x = (numTextOf x).takeWhile (· != 0) := rfl
  rw [e2, e1]
  exact takeWhile_all fun c hc => bne_iff_ne.mpr (two_rng (all c hc)).2.2.2.1
structure Box (p : Prop) : Prop where
  it : p
theorem gives2 {x : PySem.Str} {u t : Tok} (hl : x.length ≤ 640) (all : ∀ c ∈ x.cps.toList, Two c) (ne : x.cps.toList ≠ []) : Gives (Builtin.«int.__new__» ⟨[.type "int", .str x u, .int 2 t], []⟩) (.int ((val2 x.cps.toList : Nat) : Int)) :=
  .of_wp fun M A E s Q final => by
    obtain ⟨hp, g, d, tk, os⟩ := s
    have sub := F.conv_sub_int
    have here := F.madeHere_int
    have ty : typeOf (.str x u) = pure (.type "str") := rfl
    obtain ⟨e1, e2⟩ := two_seen all
    have box := Box.mk (show (numSeenOf x).length ≤ 640 ∧ (int_private% "readNumeral") 0 2 (numSeenOf x) = (int_private% "Numeral.value") ((val2 x.cps.toList : Nat) : Int) ∧ ((numSeenOf x).length == (numTextOf x).length) = true from
      ⟨by rw [e2, Array.length_toList]; exact hl, by rw [e2]; exact two_read all ne, by rw [e1, e2]; exact beq_self_eq_true _⟩)
    clear e1 e2 hl ne all
    repeat (any_goals (first
      | assumption
      | ((with_reducible show wpAny _ _ ((int_private% "intFromText") _ _ _) _ _ _); exact Hx.wp_textB box.it.1 box.it.2.1 box.it.2.2 (by assumption))
      | ((with_reducible show wpAny _ _ ((int_private% "intFromText") _ _ _) _ _ _); refine Hx.wp_textB box.it.1 box.it.2.1 box.it.2.2 ?_)
      | wp_step))
    all_goals first | exact ⟨_, rfl, final⟩ | skip
end Bn
namespace K0
open PySem PySem.Spec PyProof.Rows L2 PySem.Calls
/-- int(text, 2) -/
def rInt2 : List V → Hp → VK → Prop := fun xs H Q => ∃ z : Str, xs = [.str z, .int 2] ∧ z.cps.toList ≠ [] ∧ z.length ≤ 640 ∧ (∀ c ∈ z.cps.toList, Bn.Two c) ∧ Q (.int ((Bn.val2 z.cps.toList : Nat) : Int)) H
theorem call_int2 {X : Cx} : CallR X (.type "int") rInt2 := by
  intro pins s σ H xs us Q I r h
  obtain ⟨z, rfl, ne, hl, all, q⟩ := h
  obtain ⟨u, v, rfl, ⟨t1, rfl⟩, ⟨t2, rfl⟩⟩ := vals2 r
  exact callType_new F.called_int F.newNe_int (Hx.typeCall_int_2 _ _) (Hx.newCall_int_2 _ _) (fun obj => F.initArgs_range_2 obj _ _) F.entry_int_new (Bn.gives2 hl all ne).meets
    (show (Made.int ((Bn.val2 z.cps.toList : Nat) : Int)).post _ s from ⟨rfl, .int ((Bn.val2 z.cps.toList : Nat) : Int), H, I.tok _, ⟨_, rfl⟩, q⟩)
end K0
end
/-! ### N1 -/
section
set_option linter.all false
/-! Rows of places as numbers: a place is a bit; free places are passed on by a sum. -/
namespace Pat
theorem tb0 (x : Nat) (a : Bool) : (2 * x + a.toNat).testBit 0 = a := by
  rw [Nat.testBit_zero]
  cases a
  · have : (2 * x + Bool.toNat false) % 2 = 0 := by show (2 * x + 0) % 2 = 0; omega
    rw [this]; rfl
  · have : (2 * x + Bool.toNat true) % 2 = 1 := by show (2 * x + 1) % 2 = 1; omega
    rw [this]; rfl
theorem tbS (x i : Nat) (a : Bool) : (2 * x + a.toNat).testBit (i + 1) = x.testBit i := by
  rw [Nat.testBit_succ]
  have : (2 * x + a.toNat) / 2 = x := by cases a <;> simp [Bool.toNat] <;> omega
  rw [this]
theorem split2 (x : Nat) : x = 2 * (x / 2) + (x.testBit 0).toNat := by
  rw [Nat.testBit_zero]
  rcases Nat.mod_two_eq_zero_or_one x with h | h
  · rw [h]; show x = 2 * (x / 2) + 0; omega
  · rw [h]; show x = 2 * (x / 2) + 1; omega
theorem and2 (x y : Nat) (a b : Bool) : (2 * x + a.toNat) &&& (2 * y + b.toNat) = 2 * (x &&& y) + (a && b).toNat := by
  refine Nat.eq_of_testBit_eq fun i => ?_
  cases i with
  | zero => rw [Nat.testBit_and, tb0, tb0, tb0]
  | succ i => rw [Nat.testBit_and, tbS, tbS, tbS, Nat.testBit_and]
theorem or2 (x y : Nat) (a b : Bool) : (2 * x + a.toNat) ||| (2 * y + b.toNat) = 2 * (x ||| y) + (a || b).toNat := by
  refine Nat.eq_of_testBit_eq fun i => ?_
  cases i with
  | zero => rw [Nat.testBit_or, tb0, tb0, tb0]
  | succ i => rw [Nat.testBit_or, tbS, tbS, tbS, Nat.testBit_or]
theorem xor2 (x y : Nat) (a b : Bool) : (2 * x + a.toNat) ^^^ (2 * y + b.toNat) = 2 * (x ^^^ y) + (a ^^ b).toNat := by
  refine Nat.eq_of_testBit_eq fun i => ?_
  cases i with
  | zero => rw [Nat.testBit_xor, tb0, tb0, tb0]
  | succ i => rw [Nat.testBit_xor, tbS, tbS, tbS, Nat.testBit_xor]
def onwC (p f : Nat) (c : Bool) : Nat := p ||| (((p &&& f) + f + c.toNat) ^^^ f)
/-- places, and what comes from them over free ones -/
def onw (p f : Nat) : Nat := p ||| (((p &&& f) + f) ^^^ f)
theorem onw_step (x y : Nat) (a b c : Bool) : onwC (2 * x + a.toNat) (2 * y + b.toNat) c = 2 * onwC x y ((a || c) && b) + (a || c).toNat := by
  unfold onwC
  rw [and2]
  have e : 2 * (x &&& y) + (a && b).toNat + (2 * y + b.toNat) + c.toNat = 2 * ((x &&& y) + y + ((a || c) && b).toNat) + (c ^^ (a && b) ^^ b).toNat := by
    cases a <;> cases b <;> cases c <;> simp [Bool.toNat] <;> omega
  rw [e, xor2, or2]
  cases a <;> cases b <;> cases c <;> rfl
theorem onwC_bit : ∀ (j p f : Nat) (c : Bool), (onwC p f c).testBit j = true ↔ (∃ i, i ≤ j ∧ p.testBit i = true ∧ ∀ k, i ≤ k → k < j → f.testBit k = true) ∨ (c = true ∧ ∀ k, k < j → f.testBit k = true)
  | 0, p, f, c => by
    rw [split2 p, split2 f, onw_step, tb0, ← split2 p, Bool.or_eq_true]
    constructor
    · rintro (h | h)
      · exact .inl ⟨0, Nat.le_refl _, h, fun k _ h => by omega⟩
      · exact .inr ⟨h, fun k h => by omega⟩
    · rintro (⟨i, hi, h, _⟩ | ⟨h, _⟩)
      · have : i = 0 := by omega
        subst this
        exact .inl h
      · exact .inr h
  | j + 1, p, f, c => by
    have ep := split2 p
    have ef := split2 f
    generalize p / 2 = x at ep
    generalize f / 2 = y at ef
    generalize p.testBit 0 = a at ep
    generalize f.testBit 0 = b at ef
    subst ep ef
    rw [onw_step, tbS, onwC_bit j, Bool.and_eq_true, Bool.or_eq_true]
    constructor
    · rintro (⟨i, hi, h, hk⟩ | ⟨⟨h, hb⟩, hk⟩)
      · refine .inl ⟨i + 1, by omega, by rw [tbS]; exact h, fun k h1 h2 => ?_⟩
        cases k with
        | zero => omega
        | succ k => rw [tbS]; exact hk k (by omega) (by omega)
      · have all : ∀ k, k < j + 1 → (2 * y + b.toNat).testBit k = true := fun k h2 => by
          cases k with
          | zero => rw [tb0]; exact hb
          | succ k => rw [tbS]; exact hk k (by omega)
        rcases h with h | h
        · exact .inl ⟨0, by omega, by rw [tb0]; exact h, fun k _ h2 => all k h2⟩
        · exact .inr ⟨h, all⟩
    · rintro (⟨i, hi, h, hk⟩ | ⟨h, hk⟩)
      · cases i with
        | zero =>
          refine .inr ⟨⟨.inl (by rw [tb0] at h; exact h), ?_⟩, fun k h2 => ?_⟩
          · have := hk 0 (by omega) (by omega)
            rwa [tb0] at this
          · have := hk (k + 1) (by omega) (by omega)
            rwa [tbS] at this
        | succ i =>
          refine .inl ⟨i, by omega, by rw [tbS] at h; exact h, fun k h1 h2 => ?_⟩
          have := hk (k + 1) (by omega) (by omega)
          rwa [tbS] at this
      · refine .inr ⟨⟨.inr h, ?_⟩, fun k h2 => ?_⟩
        · have := hk 0 (by omega)
          rwa [tb0] at this
        · have := hk (k + 1) (by omega)
          rwa [tbS] at this
theorem onw_bit (j p f : Nat) : (onw p f).testBit j = true ↔ ∃ i, i ≤ j ∧ p.testBit i = true ∧ ∀ k, i ≤ k → k < j → f.testBit k = true := by
  have e : onw p f = onwC p f false := by
    unfold onw onwC
    rfl
  rw [e, onwC_bit]
  constructor
  · rintro (h | ⟨h, _⟩)
    · exact h
    · cases h
  · exact .inl
theorem onw_zero (p f : Nat) : (onw p f).testBit 0 = p.testBit 0 := by
  rw [Bool.eq_iff_iff, onw_bit]
  constructor
  · rintro ⟨i, hi, h, _⟩
    have : i = 0 := by omega
    subst this
    exact h
  · exact fun h => ⟨0, Nat.le_refl _, h, fun k _ h => by omega⟩
theorem onw_succ (j p f : Nat) : (onw p f).testBit (j + 1) = true ↔ p.testBit (j + 1) = true ∨ ((onw p f).testBit j = true ∧ f.testBit j = true) := by
  rw [onw_bit, onw_bit]
  constructor
  · rintro ⟨i, hi, h, hk⟩
    by_cases e : i = j + 1
    · subst e
      exact .inl h
    · exact .inr ⟨⟨i, by omega, h, fun k h1 h2 => hk k h1 (by omega)⟩, hk j (by omega) (by omega)⟩
  · rintro (h | ⟨⟨i, hi, h, hk⟩, hj⟩)
    · exact ⟨j + 1, Nat.le_refl _, h, fun k h1 h2 => by omega⟩
    · exact ⟨i, by omega, h, fun k h1 h2 => by
        by_cases e : k = j
        · subst e; exact hj
        · exact hk k h1 (by omega)⟩
/-! ### bits of marks -/
def bits : List Bool → Nat
  | [] => 0
  | b :: bs => 2 * bits bs + b.toNat
theorem bits_bit : ∀ (bs : List Bool) (i : Nat), (bits bs).testBit i = true ↔ bs[i]? = some true
  | [], i => by
    show (0 : Nat).testBit i = true ↔ _
    rw [Nat.zero_testBit]
    simp
  | b :: bs, 0 => by
    show (2 * bits bs + b.toNat).testBit 0 = true ↔ _
    rw [tb0]
    simp
  | b :: bs, i + 1 => by
    show (2 * bits bs + b.toNat).testBit (i + 1) = true ↔ _
    rw [tbS, bits_bit bs i, List.getElem?_cons_succ]
/-! ### fitting -/
theorem fit_snoc_star' {P q : List Nat} {s : Nat} : Fit (P ++ [42]) (q ++ [s]) ↔ Fit P (q ++ [s]) ∨ Fit (P ++ [42]) q := by
  rw [fit_app', fit_app']
  constructor
  · rintro ⟨a, b, e, h1, h2⟩
    rcases List.eq_nil_or_concat b with rfl | ⟨b', d, rfl⟩
    · rw [List.append_nil] at e
      rw [e]
      exact .inl h1
    · rw [List.concat_eq_append, ← List.append_assoc] at e
      obtain ⟨e1, _⟩ := List.append_inj' e rfl
      refine .inr ⟨a, b', e1, h1, ?_⟩
      clear h2 e e1
      induction b' with
      | nil => exact .skip .nil
      | cons x b' ih => exact .take ih
  · rintro (h | ⟨a, b, rfl, h1, h2⟩)
    · exact ⟨q ++ [s], [], by simp, h, .skip .nil⟩
    · refine ⟨a, b ++ [s], by simp, h1, ?_⟩
      generalize b ++ [s] = z
      induction z with
      | nil => exact .skip .nil
      | cons x z ih => exact .take ih
theorem fit_snoc_star0 {P : List Nat} : Fit (P ++ [42]) [] ↔ Fit P [] := by
  rw [fit_app']
  constructor
  · rintro ⟨a, b, e, h1, _⟩
    obtain ⟨rfl, rfl⟩ := List.append_eq_nil_iff.mp e.symm
    exact h1
  · exact fun h => ⟨[], [], rfl, h, .skip .nil⟩
theorem fit_snoc_one' {P q : List Nat} {c s : Nat} (hc : c ≠ 42) : Fit (P ++ [c]) (q ++ [s]) ↔ Fit P q ∧ (c = 63 ∨ c = s) := by
  rw [fit_app']
  constructor
  · rintro ⟨a, b, e, h1, h2⟩
    obtain ⟨d, r, rfl, h3, h4⟩ := (fit_one hc).mp h2
    rw [fit_nil.mp h4] at e
    obtain ⟨e1, e2⟩ := List.append_inj' e rfl
    have e2 : s = d := by simpa using e2
    rw [e1, e2]
    exact ⟨h1, h3⟩
  · rintro ⟨h1, h2⟩
    exact ⟨q, [s], rfl, h1, .one hc h2 .nil⟩
theorem fit_snoc_one0 {P : List Nat} {c : Nat} (hc : c ≠ 42) : ¬ Fit (P ++ [c]) [] := by
  rw [fit_app']
  rintro ⟨a, b, e, h1, h2⟩
  obtain ⟨rfl, rfl⟩ := List.append_eq_nil_iff.mp e.symm
  obtain ⟨d, r, e2, _⟩ := (fit_one hc).mp h2
  cases e2
theorem take_snoc {l : List Nat} {j c : Nat} (h : l[j]? = some c) : l.take (j + 1) = l.take j ++ [c] := by
  rw [List.take_succ, h]
  rfl
/-- the places that a part of the path leads to -/
def At (l q : List Nat) (S : Nat) : Prop := ∀ j, S.testBit j = true ↔ j ≤ l.length ∧ Fit (l.take j) q
structure Marks (l : List Nat) (stays skips : Nat) (takes : Nat → Nat) (signs : List Nat) : Prop where
  sk : ∀ k, skips.testBit k = true ↔ l[k]? = some 42
  st : ∀ k, stays.testBit k = true ↔ ∃ i, k = i + 1 ∧ l[i]? = some 42
  tk : ∀ s ∈ signs, ∀ k, (takes s).testBit k = true ↔ ∃ c, l[k]? = some c ∧ (c = s ∨ c = 63)
  no : 42 ∉ signs
theorem at_first {l : List Nat} {stays skips : Nat} {takes : Nat → Nat} {signs : List Nat} (M : Marks l stays skips takes signs) : At l [] (onw 1 skips) := by
  intro j
  induction j with
  | zero =>
    rw [onw_zero]
    constructor
    · exact fun _ => ⟨Nat.zero_le _, .nil⟩
    · exact fun _ => rfl
  | succ j ih =>
    rw [onw_succ, ih, M.sk]
    have one : (1 : Nat).testBit (j + 1) = false := by
      rw [Nat.testBit_succ]
      exact Nat.zero_testBit j
    rw [one]
    constructor
    · rintro (h | ⟨⟨hj, h⟩, hl⟩)
      · cases h
      · have := (List.getElem?_eq_some_iff.mp hl).1
        refine ⟨by omega, ?_⟩
        rw [take_snoc hl, fit_snoc_star0]
        exact h
    · rintro ⟨hj, h⟩
      have hl : l[j]? = some l[j] := List.getElem?_eq_getElem (by omega)
      rw [take_snoc hl] at h
      by_cases e : l[j] = 42
      · rw [e] at h hl
        exact .inr ⟨⟨by omega, fit_snoc_star0.mp h⟩, hl⟩
      · exact absurd h (fit_snoc_one0 e)
def behindN (stays skips tk S : Nat) : Nat := onw ((S &&& stays) ||| ((S &&& tk) * 2)) skips
theorem at_step {l q : List Nat} {stays skips s S : Nat} {takes : Nat → Nat} {signs : List Nat} (M : Marks l stays skips takes signs) (hs : s ∈ signs) (h : At l q S) : At l (q ++ [s]) (behindN stays skips (takes s) S) := by
  have hs42 : s ≠ 42 := fun e => M.no (e ▸ hs)
  intro j
  unfold behindN
  generalize hA : (S &&& stays) ||| ((S &&& takes s) * 2) = A
  have tA0 : A.testBit 0 = false := by
    rw [← hA, Nat.testBit_or, Nat.testBit_and]
    have e1 : stays.testBit 0 = false := by
      cases e : stays.testBit 0 with
      | false => rfl
      | true => obtain ⟨i, hi, _⟩ := (M.st 0).mp e; omega
    have e2 : ((S &&& takes s) * 2).testBit 0 = false := by
      have := tb0 (S &&& takes s) false
      rw [show 2 * (S &&& takes s) + Bool.toNat false = (S &&& takes s) * 2 from by show 2 * (S &&& takes s) + 0 = _; omega] at this
      exact this
    rw [e1, e2]
    simp
  have tAS : ∀ i, A.testBit (i + 1) = true ↔ (S.testBit (i + 1) = true ∧ l[i]? = some 42) ∨ (S.testBit i = true ∧ ∃ c, l[i]? = some c ∧ (c = s ∨ c = 63)) := fun i => by
    have e2 : ((S &&& takes s) * 2).testBit (i + 1) = (S &&& takes s).testBit i := by
      have := tbS (S &&& takes s) i false
      rw [show 2 * (S &&& takes s) + Bool.toNat false = (S &&& takes s) * 2 from by show 2 * (S &&& takes s) + 0 = _; omega] at this
      exact this
    rw [← hA, Nat.testBit_or, Bool.or_eq_true, Nat.testBit_and, Bool.and_eq_true, e2, Nat.testBit_and, Bool.and_eq_true, M.st, M.tk s hs]
    constructor
    · rintro (⟨h1, i', e, h2⟩ | h)
      · have : i = i' := by omega
        subst this
        exact .inl ⟨h1, h2⟩
      · exact .inr h
    · rintro (⟨h1, h2⟩ | h)
      · exact .inl ⟨h1, i, rfl, h2⟩
      · exact .inr h
  induction j with
  | zero =>
    rw [onw_zero, tA0]
    constructor
    · intro h; cases h
    · rintro ⟨_, h⟩
      have h : Fit [] (q ++ [s]) := by simpa using h
      have := fit_nil.mp h
      simp at this
  | succ j ih =>
    rw [onw_succ, propext ih, tAS, M.sk, h (j + 1), h j]
    constructor
    · rintro ((⟨⟨hj, h1⟩, hl⟩ | ⟨⟨hj, h1⟩, c, hl, hc⟩) | ⟨⟨hj, h1⟩, hl⟩)
      · refine ⟨hj, ?_⟩
        rw [take_snoc hl] at h1 ⊢
        rw [fit_snoc_star']
        exact .inr h1
      · have := (List.getElem?_eq_some_iff.mp hl).1
        refine ⟨by omega, ?_⟩
        have c42 : c ≠ 42 := by rcases hc with rfl | rfl; exact hs42; decide
        rw [take_snoc hl, fit_snoc_one' c42]
        exact ⟨h1, hc.symm⟩
      · have := (List.getElem?_eq_some_iff.mp hl).1
        refine ⟨by omega, ?_⟩
        rw [take_snoc hl, fit_snoc_star']
        exact .inl h1
    · rintro ⟨hj, h1⟩
      have hl : l[j]? = some l[j] := List.getElem?_eq_getElem (by omega)
      rw [take_snoc hl] at h1
      by_cases e : l[j] = 42
      · rw [e] at h1 hl
        rcases fit_snoc_star'.mp h1 with h2 | h2
        · exact .inr ⟨⟨by omega, h2⟩, hl⟩
        · exact .inl (.inl ⟨⟨hj, by rw [take_snoc hl]; exact h2⟩, hl⟩)
      · obtain ⟨h2, h3⟩ := (fit_snoc_one' e).mp h1
        exact .inl (.inr ⟨⟨by omega, h2⟩, _, hl, h3.symm⟩)
theorem at_end {l p : List Nat} {S : Nat} (h : At l p S) : S.testBit l.length = fitsL l p := by
  rw [Bool.eq_iff_iff, h, fitsL_iff, List.take_length]
  exact ⟨fun z => z.2, fun z => ⟨Nat.le_refl _, z⟩⟩
end Pat
end
/-! ### P1 -/
section
set_option Elab.async false
set_option linter.all false
set_option maxRecDepth 100000
set_option maxHeartbeats 4000000
/-! bits_of, places_onward. -/
namespace K0
open PySem PySem.Spec PyProof.Rows L2 Pat
/-- a comprehension's list that grows by what is due -/
theorem grow {H H' H4 : Hp} {D : Addr} {ys : List V} {i : Nat} {y : V} (nD : H D = none) (s1 : Same H H') (hD : H' D = some (.lst (ys.take i))) (s3 : Same H' H4) (hy : ys[i]? = some y) (sz : ys.length ≤ 1000) :
    ∃ acc, H4 D = some (.lst acc) ∧ acc.length < sizeLine ∧ (Same H (upd H4 D (.lst (acc ++ [y]))) ∧ upd H4 D (.lst (acc ++ [y])) D = some (.lst (ys.take (i + 1)))) := by
  refine ⟨ys.take i, s3 _ _ hD, small1000 (by rw [List.length_take]; omega), fun b o z => ?_, ?_⟩
  · rw [upd_ne (ne_of_none z nD)]
    exact s3 _ _ (s1 _ _ z)
  · rw [upd_same, List.take_succ, hy]
    rfl
def bitC (b : Bool) : Nat := if b then 49 else 48
theorem val2_snoc (l : List Nat) (c : Nat) : Bn.val2 (l ++ [c]) = Bn.val2 l * 2 + (c - 48) := by
  unfold Bn.val2
  rw [List.foldl_append]
  rfl
theorem val2_bits : ∀ bs : List Bool, Bn.val2 (48 :: (bs.reverse.map bitC)) = bits bs
  | [] => rfl
  | b :: bs => by
    rw [List.reverse_cons, List.map_append, ← List.cons_append, List.map_cons, List.map_nil, val2_snoc, val2_bits bs]
    show bits bs * 2 + (bitC b - 48) = 2 * bits bs + b.toNat
    cases b
    · show bits bs * 2 + (48 - 48) = 2 * bits bs + 0
      omega
    · show bits bs * 2 + (49 - 48) = 2 * bits bs + 1
      omega
theorem two_codes (bs : List Bool) : ∀ c ∈ 48 :: (bs.reverse.map bitC), Bn.Two c := by
  intro c hc
  rcases List.mem_cons.mp hc with rfl | hc
  · exact .inl rfl
  · obtain ⟨b, _, rfl⟩ := List.mem_map.mp hc
    cases b
    · exact .inl rfl
    · exact .inr rfl
def bitV (b : Bool) : V := .str (if b then "1" else "0")
theorem bitV_eq (b : Bool) : bitV b = oneV (bitC b) := by
  cases b <;> rfl
theorem scBits : FnScope ["marks", "mark"] ["marks"] (defScope (top iBits)) := ⟨rfl, rfl, rfl, by decide +kernel, rfl, by decide +kernel, by decide +kernel⟩
def spBits (K : PySem.W.Frag) : Sp := fun vs H Q _ => ∃ (a : Addr) (bs : List Bool), vs = [.ref a] ∧ SqL K H a (blV bs) ∧ bs.length ≤ 100 ∧ ∀ H', Same H H' → Q (.int (bits bs : Nat)) H'
section
variable {P : Program} {w : World} {K : PySem.W.Frag} {mg : Str → Option Value} {base : Heap} {f : Addr} {fd : FuncData}
theorem ok_bits {k : Nat} (F : FnP K "bits_of" iBits f fd) (mint : mg "int" = none) : FnOk P w K mg base CX0 (k + 1) f fd ["marks"] (spBits K) := by
  refine F.ok scBits (fun vs H Q E h => ?_) (fun cdv A outer s H vs Q E hr h => ?_)
  · obtain ⟨a, bs, rfl, _⟩ := h
    rfl
  · obtain ⟨a, bs, rfl, hS, l100, q⟩ := h
    refine ⟨_, PSs.nox (pss_one (ps_ret (pe_callTy call_int2 (by rfl) mint boot_int (pa_cons (pe_op op_add_str pe_str (pe_join pe_str (pe_lc (own := [("mark", 1)]) (g := gName 1) (tt := tYes) (te := tIf (tB (tVar 1)) (tC (.str "1")) (tC (.str "0"))) rfl scBits.nd (pi_list (pe_revL (pv 0))) (blkOk_by (N := ["marks", "mark"]) (sc := defScope (top iBits)) (by decide +kernel))
        (fun _ _ _ _ _ => pg_name (i := 1) scBits.nd rfl (Or.inl rfl)) (fun _ _ _ _ _ => pts_nil) (fun _ _ _ _ _ => pe_ifExp (pt_val (pv 1)) pe_str pe_str)))) (pa_cons pe_int pa_nil))))), ?_⟩
    have yl : (bs.reverse.map bitV).length = bs.length := by simp
    have xl : (blV bs).reverse.length = bs.length := by rw [List.length_reverse]; exact blV_len bs
    have ye : bs.reverse.map bitV = ((bs.reverse.map bitC).map oneS).map V.str := by
      rw [List.map_map, List.map_map]
      exact List.map_congr_left fun b _ => bitV_eq b
    refine ⟨⟨_, rfl⟩, _, rfl, a, _, rfl, hS, fun r nr => ⟨r, rfl, ⟨_, .of upd_same⟩, fun D nD => lc_list (xs := (blV bs).reverse) (fun i H' => Same (upd H r (.lst (blV bs).reverse)) H' ∧ H' D = some (.lst ((bs.reverse.map bitV).take i))) ⟨same_upd nD, upd_same⟩ (fun i H' hi hP => .of (hP.1 _ _ upd_same)) (fun i x H' hx hP => ?_) (fun H' hP => ?_)⟩⟩
    · obtain ⟨s1, hD⟩ := hP
      have hb : ∃ b, bs.reverse[i]? = some b ∧ x = .bl b := by
        unfold blV at hx
        rw [← List.map_reverse, List.getElem?_map] at hx
        cases e : bs.reverse[i]? with
        | none => rw [e] at hx; cases hx
        | some b => rw [e] at hx; exact ⟨b, rfl, (Option.some.inj hx).symm⟩
      obtain ⟨b, e, rfl⟩ := hb
      have hy : (bs.reverse.map bitV)[i]? = some (bitV b) := by rw [List.getElem?_map, e]; rfl
      refine ⟨rfl, _, rfl, b, rfl, ?_⟩
      have fin := grow nD s1 hD (Same.refl H') hy (by omega)
      cases b
      · exact ite2 (fun z => by cases z) (fun _ => fin)
      · exact ite2 (fun _ => fin) (fun z => absurd rfl z)
    · obtain ⟨s1, hD⟩ := hP
      rw [xl, ← yl, List.take_length, ye] at hD
      have ws : ((bs.reverse.map bitC).map oneS).length = bs.length := by simp
      refine ⟨_, D, (bs.reverse.map bitC).map oneS, rfl, rfl, .inl (.of hD), ?_, ?_⟩
      · rw [ones_sum, ws, List.length_map, List.length_reverse]
        show bs.length + bs.length * 0 ≤ _
        omega
      have ej : Txt.join "" ((bs.reverse.map bitC).map oneS) = txt (bs.reverse.map bitC) := glued_ones _
      have ec : (("0" : Str) ++ txt (bs.reverse.map bitC)) = txt (48 :: bs.reverse.map bitC) := by
        show (⟨#[48] ++ (bs.reverse.map bitC).toArray⟩ : Str) = ⟨(48 :: bs.reverse.map bitC).toArray⟩
        simp
      rw [ej]
      refine ⟨"0", txt (bs.reverse.map bitC), rfl, rfl, ?_, ?_⟩
      · rw [txt_len, List.length_map, List.length_reverse, sizeLine_eq]
        show 1 + _ ≤ _
        omega
      rw [ec]
      refine ⟨txt (48 :: bs.reverse.map bitC), rfl, ?_, ?_, ?_, ?_⟩
      · show cpsL (txt _) ≠ []
        rw [txt_codes]
        simp
      · rw [txt_len, List.length_cons, List.length_map, List.length_reverse]
        omega
      · show ∀ c ∈ cpsL (txt _), Bn.Two c
        rw [txt_codes]
        exact two_codes bs
      · show Q (.int ((Bn.val2 (cpsL (txt (48 :: bs.reverse.map bitC))) : Nat) : Int)) H'
        rw [txt_codes, val2_bits]
        exact q H' ((same_upd nr).trans s1)
end
/-! ### ints that are sets -/
theorem and_nat (x y : Nat) : Builtin.bitAnd (x : Int) (y : Int) = ((x &&& y : Nat) : Int) := by
  have h := PyProof.Rows.bitAnd_pp (x := (x : Int)) (y := (y : Int)) (Int.natCast_nonneg _) (Int.natCast_nonneg _)
  rw [Int.toNat_natCast, Int.toNat_natCast] at h
  exact h
theorem or_nat (x y : Nat) : Builtin.bitOr (x : Int) (y : Int) = ((x ||| y : Nat) : Int) := by
  have h := bitOr_nn (x := (x : Int)) (y := (y : Int)) (Int.natCast_nonneg _) (Int.natCast_nonneg _)
  rw [Int.toNat_natCast, Int.toNat_natCast] at h
  exact h
theorem xor_add (x : Nat) : ∀ y : Nat, (x ^^^ y) + 2 * (x &&& y) = x + y := by
  induction x using Nat.strongRecOn with
  | _ x ih =>
    intro y
    by_cases z : x = 0
    · subst z
      simp
    have ex := split2 x
    have ey := split2 y
    have h := ih (x / 2) (by omega) (y / 2)
    generalize x / 2 = a at ex h
    generalize y / 2 = b at ey h
    generalize x.testBit 0 = p at ex
    generalize y.testBit 0 = q at ey
    subst ex ey
    rw [xor2, and2]
    cases p <;> cases q <;> simp only [Bool.toNat, Bool.xor_self, Bool.and_self, Bool.false_xor, Bool.xor_false, Bool.and_false, Bool.false_and, cond_true, cond_false, Bool.and_true, Bool.true_and, Bool.true_xor, Bool.not_false, Bool.not_true] at * <;> omega
theorem xor_nat (x y : Nat) : Builtin.bitXor (x : Int) (y : Int) = ((x ^^^ y : Nat) : Int) := by
  rw [bitXor_and, and_nat]
  have h := xor_add x y
  omega
theorem scOnward : FnScope ["places", "free"] ["places", "free"] (defScope (top iOnward)) := ⟨rfl, rfl, rfl, by decide +kernel, rfl, by decide +kernel, by decide +kernel⟩
def spOnward : Sp := fun vs H Q _ => ∃ (x y : Nat), vs = [.int (x : Nat), .int (y : Nat)] ∧ Q (.int (onw x y : Nat)) H
section
variable {P : Program} {w : World} {K : PySem.W.Frag} {mg : Str → Option Value} {base : Heap} {f : Addr} {fd : FuncData}
theorem ok_onward {k : Nat} (F : FnP K "places_onward" iOnward f fd) : FnOk P w K mg base CX0 (k + 1) f fd ["places", "free"] spOnward := by
  refine F.ok scOnward (fun vs H Q E h => ?_) (fun cdv A outer s H vs Q E hr h => ?_)
  · obtain ⟨x, y, rfl, _⟩ := h
    rfl
  · obtain ⟨x, y, rfl, q⟩ := h
    refine ⟨_, PSs.nox (pss_one (ps_ret (pe_op op_or (pv 0) (pe_op op_xor (pe_op op_add (pe_op op_and (pv 0) (pv 1)) (pv 1)) (pv 1))))), ?_⟩
    refine ⟨_, rfl, _, rfl, _, rfl, _, _, rfl, rfl, _, rfl, _, _, rfl, rfl, _, rfl, _, _, rfl, rfl, _, _, rfl, rfl, ?_⟩
    rw [and_nat, show ((x &&& y : Nat) : Int) + ((y : Nat) : Int) = (((x &&& y) + y : Nat) : Int) by omega, xor_nat]
    show Q (.int (Builtin.bitOr (x : Int) (((x &&& y) + y ^^^ y : Nat) : Int))) H
    rw [or_nat]
    exact q
end
end K0
end
/-! ### TW -/
section
set_option Elab.async false
set_option linter.all false
set_option maxRecDepth 100000
set_option maxHeartbeats 4000000
/-! Comprehensions over any walk: from any heap; with two fors; of dicts. -/
namespace K0
open PySem PySem.Spec PyProof.Rows L2 Pat
section
variable {J : It} {n : Nat} {G : Hp → Prop} {Y : Nat → Hp → V → Hp → Prop}
theorem turns (w : Walk J n G Y) {g : TG} {tt : TT} {te : TE} {vs : List Nat} {σ : L2.St} {H0 : Hp} {D : Addr} {Qd : Hp → Prop} (I : Nat → Hp → Prop) (start : I 0 H0) (good : ∀ i H, i ≤ n → I i H → G H)
    (one : ∀ i x H H1, i < n → I i H → Y i H x H1 → g x (wipe σ vs) H1 fun σ2 H2 => wipe σ2 vs = wipe σ vs ∧ tt σ2 H2 fun b H3 =>
      if b = true then te σ2 H3 fun y H4 => ∃ acc, H4 D = some (.lst acc) ∧ acc.length < sizeLine ∧ I (i + 1) (upd H4 D (.lst (acc ++ [y]))) else I (i + 1) H3) (done : ∀ H, I n H → Qd H) :
    ∃ W : Nat → Nat → Hp → Prop, (∃ m, W 0 m H0) ∧ ∀ i m H, W i m H →
      (J.stop i H ∧ Qd H) ∨ (J.go i H ∧ ∃ Nx : Hp → Prop, (∀ H', Nx H' → ∃ m', m' < m ∧ W (i + 1) m' H') ∧ ∀ x H', J.yld i H x H' → g x (wipe σ vs) H' fun σ2 H2 => wipe σ2 vs = wipe σ vs ∧ tt σ2 H2 fun b H3 =>
        if b = true then te σ2 H3 fun y H4 => ∃ acc, H4 D = some (.lst acc) ∧ acc.length < sizeLine ∧ Nx (upd H4 D (.lst (acc ++ [y]))) else Nx H3) := by
  refine ⟨fun i m H => (i ≤ n ∧ m = n - i) ∧ I i H, ⟨n, ⟨Nat.zero_le _, by simp⟩, start⟩, fun i m H hW => ?_⟩
  obtain ⟨⟨hi, rfl⟩, inv⟩ := hW
  have gd := good i H hi inv
  rcases Nat.lt_or_ge i n with lt | ge
  · exact .inr ⟨w.goes i H lt gd, I (i + 1), fun H' inv' => ⟨n - (i + 1), by omega, ⟨lt, rfl⟩, inv'⟩, fun x H' y => one i x H H' lt inv (w.yields i H x H' lt gd y)⟩
  · obtain rfl : i = n := by omega
    exact .inl ⟨w.stops H gd, done H inv⟩
theorem dturns (w : Walk J n G Y) {g : TG} {tt : TT} {tk tv : TE} {vs : List Nat} {σ : L2.St} {H0 : Hp} {D : Addr} {Qd : Hp → Prop} (I : Nat → Hp → Prop) (start : I 0 H0) (good : ∀ i H, i ≤ n → I i H → G H)
    (one : ∀ i x H H1, i < n → I i H → Y i H x H1 → g x (wipe σ vs) H1 fun σ2 H2 => wipe σ2 vs = wipe σ vs ∧ tt σ2 H2 fun b H3 =>
      if b = true then tk σ2 H3 fun y H4 => tv σ2 H4 fun z H5 => ∃ kvs k, y = kV k ∧ H5 D = some (.dK kvs) ∧ kvs.length < sizeLine ∧ I (i + 1) (upd H5 D (.dK (putK kvs k z))) else I (i + 1) H3) (done : ∀ H, I n H → Qd H) :
    ∃ W : Nat → Nat → Hp → Prop, (∃ m, W 0 m H0) ∧ ∀ i m H, W i m H →
      (J.stop i H ∧ Qd H) ∨ (J.go i H ∧ ∃ Nx : Hp → Prop, (∀ H', Nx H' → ∃ m', m' < m ∧ W (i + 1) m' H') ∧ ∀ x H', J.yld i H x H' → g x (wipe σ vs) H' fun σ2 H2 => wipe σ2 vs = wipe σ vs ∧ tt σ2 H2 fun b H3 =>
        if b = true then tk σ2 H3 fun y H4 => tv σ2 H4 fun z H5 => ∃ kvs k, y = kV k ∧ H5 D = some (.dK kvs) ∧ kvs.length < sizeLine ∧ Nx (upd H5 D (.dK (putK kvs k z))) else Nx H3) := by
  refine ⟨fun i m H => (i ≤ n ∧ m = n - i) ∧ I i H, ⟨n, ⟨Nat.zero_le _, by simp⟩, start⟩, fun i m H hW => ?_⟩
  obtain ⟨⟨hi, rfl⟩, inv⟩ := hW
  have gd := good i H hi inv
  rcases Nat.lt_or_ge i n with lt | ge
  · exact .inr ⟨w.goes i H lt gd, I (i + 1), fun H' inv' => ⟨n - (i + 1), by omega, ⟨lt, rfl⟩, inv'⟩, fun x H' y => one i x H H' lt inv (w.yields i H x H' lt gd y)⟩
  · obtain rfl : i = n := by omega
    exact .inl ⟨w.stops H gd, done H inv⟩
/-- two fors: what the outer one's item does is told as a whole -/
theorem turns2 (w : Walk J n G Y) {g : TG} {tt : TT} {wi1 : TI} {g1 : TG} {tt1 : TT} {te : TE} {vs vs1 : List Nat} {σ : L2.St} {H0 : Hp} {D : Addr} {Qd : Hp → Prop} (I : Nat → Hp → Prop) (start : I 0 H0) (good : ∀ i H, i ≤ n → I i H → G H)
    (one : ∀ i x H H1, i < n → I i H → Y i H x H1 → g x (wipe σ vs) H1 fun σ2 H2 => wipe σ2 vs = wipe σ vs ∧ tt σ2 H2 fun b H3 =>
      if b = true then wi1 σ2 H3 fun J1 H4 => ∃ W1 : Nat → Nat → Hp → Prop, (∃ m, W1 0 m H4) ∧ ∀ j k H, W1 j k H →
        (J1.stop j H ∧ I (i + 1) H) ∨ (J1.go j H ∧ ∃ Nx1 : Hp → Prop, (∀ H', Nx1 H' → ∃ k', k' < k ∧ W1 (j + 1) k' H') ∧ ∀ x H', J1.yld j H x H' → g1 x (wipe σ2 vs1) H' fun σ3 H5 => wipe σ3 vs1 = wipe σ2 vs1 ∧ tt1 σ3 H5 fun b H6 =>
          if b = true then te σ3 H6 fun y H7 => ∃ acc, H7 D = some (.lst acc) ∧ acc.length < sizeLine ∧ Nx1 (upd H7 D (.lst (acc ++ [y]))) else Nx1 H6)
      else I (i + 1) H3) (done : ∀ H, I n H → Qd H) :
    ∃ W : Nat → Nat → Hp → Prop, (∃ m, W 0 m H0) ∧ ∀ i m H, W i m H →
      (J.stop i H ∧ Qd H) ∨ (J.go i H ∧ ∃ Nx : Hp → Prop, (∀ H', Nx H' → ∃ m', m' < m ∧ W (i + 1) m' H') ∧ ∀ x H', J.yld i H x H' → g x (wipe σ vs) H' fun σ2 H2 => wipe σ2 vs = wipe σ vs ∧ tt σ2 H2 fun b H3 =>
        if b = true then wi1 σ2 H3 fun J1 H4 => ∃ W1 : Nat → Nat → Hp → Prop, (∃ m, W1 0 m H4) ∧ ∀ j k H, W1 j k H →
          (J1.stop j H ∧ Nx H) ∨ (J1.go j H ∧ ∃ Nx1 : Hp → Prop, (∀ H', Nx1 H' → ∃ k', k' < k ∧ W1 (j + 1) k' H') ∧ ∀ x H', J1.yld j H x H' → g1 x (wipe σ2 vs1) H' fun σ3 H5 => wipe σ3 vs1 = wipe σ2 vs1 ∧ tt1 σ3 H5 fun b H6 =>
            if b = true then te σ3 H6 fun y H7 => ∃ acc, H7 D = some (.lst acc) ∧ acc.length < sizeLine ∧ Nx1 (upd H7 D (.lst (acc ++ [y]))) else Nx1 H6)
        else Nx H3) := by
  refine ⟨fun i m H => (i ≤ n ∧ m = n - i) ∧ I i H, ⟨n, ⟨Nat.zero_le _, by simp⟩, start⟩, fun i m H hW => ?_⟩
  obtain ⟨⟨hi, rfl⟩, inv⟩ := hW
  have gd := good i H hi inv
  rcases Nat.lt_or_ge i n with lt | ge
  · exact .inr ⟨w.goes i H lt gd, I (i + 1), fun H' inv' => ⟨n - (i + 1), by omega, ⟨lt, rfl⟩, inv'⟩, fun x H' y => one i x H H' lt inv (w.yields i H x H' lt gd y)⟩
  · obtain rfl : i = n := by omega
    exact .inl ⟨w.stops H gd, done H inv⟩
end
end K0
end
/-! ### P2 -/
section
set_option Elab.async false
set_option linter.all false
set_option maxRecDepth 100000
set_option maxHeartbeats 4000000
/-! Fitting.__init__. -/
namespace K0
open PySem PySem.Spec PyProof.Rows L2 Pat
def clsBody (s : Stmt) : Stmt := match s with
  | .ClassDef _ _ _ b _ _ _ _ _ _ _ => b.getD 0 (.Pass ⟨0, 0, 0, 0⟩)
  | _ => .Pass ⟨0, 0, 0, 0⟩
def fini : Stmt := clsBody (top iFitting)
abbrev fitN : List Str := ["self", "patterns", "row", "starts", "pattern", "character", "sign", "at"]
theorem scFini : FnScope fitN ["self", "patterns"] (defScope fini) := ⟨rfl, rfl, rfl, by decide +kernel, rfl, by decide +kernel, by decide +kernel⟩
abbrev FiP (K : PySem.W.Frag) (f : Addr) (fd : FuncData) : Prop := FunD K "__init__" "Fitting.__init__" (defArgs fini) (defBody fini) (defScope fini) [] [] f fd
/-- what the written part says of Fitting -/
structure FitK (K : PySem.W.Frag) (CF : Addr) : Prop where
  cl : Cls K CF
  st : NoAttr K CF "stays"
  sk : NoAttr K CF "skips"
  tk : NoAttr K CF "takes"
  en : NoAttr K CF "ends"
  fi : NoAttr K CF "first"
/-! ### the rows of a pattern -/
abbrev sgn : List Nat := allSigns.cps.toList
def rowC (l : List Nat) : List Nat := l ++ [32]
def isStar (c : Nat) : Bool := decide (c = 42)
def isFor (s c : Nat) : Bool := decide (c = s) || decide (c = 63)
def staysB (l : List Nat) : Nat := bits (false :: (rowC l).map isStar)
def skipsB (l : List Nat) : Nat := bits ((rowC l).map isStar)
def takesB (l : List Nat) (s : Nat) : Nat := bits ((rowC l).map (isFor s))
theorem sgn_no : 42 ∉ sgn ∧ 32 ∉ sgn ∧ 63 ∉ sgn := by decide +kernel
theorem row_at {l : List Nat} {f : Nat → Bool} (h : f 32 = false) (k : Nat) : ((rowC l).map f)[k]? = some true ↔ ∃ c, l[k]? = some c ∧ f c = true := by
  unfold rowC
  rw [List.getElem?_map]
  by_cases hk : k < l.length
  · rw [List.getElem?_append_left hk, List.getElem?_eq_getElem hk]
    simp
  · rw [List.getElem?_append_right (by omega)]
    have e : l[k]? = none := List.getElem?_eq_none (by omega)
    rw [e]
    constructor
    · intro z
      cases j : k - l.length with
      | zero =>
        rw [j] at z
        have z : some (f 32) = some true := z
        rw [h] at z
        cases z
      | succ n =>
        rw [j] at z
        have z : (none : Option Bool) = some true := z
        cases z
    · rintro ⟨c, z, _⟩
      cases z
theorem marks_of (l : List Nat) : Marks l (staysB l) (skipsB l) (takesB l) sgn := by
  refine ⟨fun k => ?_, fun k => ?_, fun s hs k => ?_, sgn_no.1⟩
  · unfold skipsB
    rw [bits_bit, row_at (by decide)]
    constructor
    · rintro ⟨c, h, e⟩
      have e : c = 42 := of_decide_eq_true e
      rw [← e]
      exact h
    · exact fun h => ⟨42, h, by decide⟩
  · unfold staysB
    rw [bits_bit]
    cases k with
    | zero =>
      constructor
      · intro h
        have h : some false = some true := h
        cases h
      · rintro ⟨i, h, _⟩
        omega
    | succ k =>
      rw [List.getElem?_cons_succ, row_at (by decide)]
      constructor
      · rintro ⟨c, h, e⟩
        have e : c = 42 := of_decide_eq_true e
        exact ⟨k, rfl, by rw [← e]; exact h⟩
      · rintro ⟨i, e, h⟩
        have e : k = i := by omega
        subst e
        exact ⟨42, h, by decide⟩
  · unfold takesB
    have s32 : s ≠ 32 := fun e => sgn_no.2.1 (e ▸ hs)
    have f32 : isFor s 32 = false := by
      unfold isFor
      rw [decide_eq_false (fun e => s32 e.symm)]
      rfl
    rw [bits_bit, row_at f32]
    unfold isFor
    constructor
    · rintro ⟨c, h, e⟩
      rw [Bool.or_eq_true, decide_eq_true_iff, decide_eq_true_iff] at e
      exact ⟨c, h, e⟩
    · rintro ⟨c, h, e⟩
      refine ⟨c, h, ?_⟩
      rw [Bool.or_eq_true, decide_eq_true_iff, decide_eq_true_iff]
      exact e
theorem bits_one (n : Nat) : bits (true :: List.replicate n false) = 1 := by
  have z : ∀ n, bits (List.replicate n false) = 0 := fun n => by
    induction n with
    | zero => rfl
    | succ n ih =>
      rw [List.replicate_succ]
      show 2 * bits (List.replicate n false) + 0 = 0
      rw [ih]
  show 2 * bits (List.replicate n false) + 1 = 1
  rw [z]
/-! ### dicts of signs -/
def sgK (s : Nat) : Key := .inr (oneS s)
theorem sgK_inj {s t : Nat} (h : sgK s = sgK t) : s = t := by
  unfold sgK at h
  injection h with h
  unfold oneS at h
  injection h with h
  injection h with h
  injection h
theorem putK_new {kvs : List (Key × V)} {k : Key} {v : V} (h : ∀ p ∈ kvs, p.1 ≠ k) : putK kvs k v = kvs ++ [(k, v)] := by
  unfold putK
  rw [if_neg]
  intro z
  obtain ⟨p, hp, e⟩ := List.any_eq_true.mp z
  exact h p hp (of_decide_eq_true e)
theorem put_len (kvs : List (Key × V)) (k : Key) (v : V) : (putK kvs k v).length ≤ kvs.length + 1 := by
  unfold putK
  split
  · rw [List.length_map]
    omega
  · rw [List.length_append]
    exact Nat.le_refl _
theorem valV_map {f : Nat → V} : ∀ {l : List Nat} {s : Nat}, s ∈ l → valV (l.map fun t => (sgK t, f t)) (sgK s) = some (f s)
  | [], s, h => by cases h
  | t :: l, s, h => by
    by_cases e : t = s
    · subst e
      unfold valV
      rw [List.map_cons, List.find?_cons]
      simp
    · have h2 : s ∈ l := by
        rcases List.mem_cons.mp h with z | z
        · exact absurd z.symm e
        · exact z
      have ih := valV_map (f := f) h2
      unfold valV at ih ⊢
      rw [List.map_cons, List.find?_cons]
      have ne : ¬ sgK t = sgK s := fun z => e (sgK_inj z)
      simp only [ne, decide_false]
      exact ih
/-! ### marks of a row -/
theorem rd_marks {K : PySem.W.Frag} {σ : L2.St} {r : Addr} {cs : List Nat} {H : Hp} {Q : VK} {te : TE} {f : Nat → Bool} (hσ : σ[2]? = some (some (.ref r))) (hr : H r = some (.lst (cs.map oneV))) (sz : cs.length ≤ 100)
    (el : ∀ c ∈ cs, ∀ H' Q', (∀ H'', Same H' H'' → Q' (.bl (f c)) H'') → te ((wipe σ [5]).set 5 (some (oneV c))) H' Q') (wp : ∀ v : V, wipe ((wipe σ [5]).set 5 (some v)) [5] = wipe σ [5]) (k : ∀ D H', Same H H' → H D = none → H' D = some (.lst (blV (cs.map f))) → Q (.ref D) H') :
    tLc (iList K (tVar 2)) (gName 5) tYes te [5] σ H Q := by
  have yl : (blV (cs.map f)).length = cs.length := by rw [blV_len, List.length_map]
  refine ⟨_, hσ, r, rfl, ⟨_, .of hr⟩, fun D nD => lc_list (xs := cs.map oneV) (fun i H' => Same H H' ∧ H' D = some (.lst ((blV (cs.map f)).take i))) ⟨same_upd nD, upd_same⟩ (fun i H' hi hP => .of (hP.1 _ _ hr)) (fun i x H' hx hP => ?_) (fun H' hP => ?_)⟩
  · obtain ⟨s1, hD⟩ := hP
    obtain ⟨c, hc, rfl⟩ : ∃ c, cs[i]? = some c ∧ x = oneV c := by
      rw [List.getElem?_map] at hx
      cases e : cs[i]? with
      | none => rw [e] at hx; cases hx
      | some c => rw [e] at hx; exact ⟨c, rfl, (Option.some.inj hx).symm⟩
    have hy : (blV (cs.map f))[i]? = some (.bl (f c)) := blV_get (by rw [List.getElem?_map, hc]; rfl)
    exact ⟨wp _, el c (List.mem_of_getElem? hc) H' _ fun H'' s3 => grow nD s1 hD s3 hy (by omega)⟩
  · obtain ⟨s1, hD⟩ := hP
    rw [List.length_map, ← yl, List.take_length] at hD
    exact k D H' s1 nD hD
/-- all but what stands at x is as it was -/
def KX (x : Addr) (H H' : Hp) : Prop := ∀ b o, b ≠ x → H b = some o → H' b = some o
theorem KX.same {x : Addr} {H H1 H2 : Hp} (k : KX x H H1) (s : Same H1 H2) : KX x H H2 := fun b o n e => s _ _ (k b o n e)
theorem KX.put {x : Addr} {H H1 : Hp} {o : HO} (k : KX x H H1) : KX x H (upd H1 x o) := fun b u n e => by
  rw [upd_ne n]
  exact k b u n e
/-- the places of one pattern, as an instance has them -/
def FitAt (CF : Addr) (H : Hp) (x : Addr) (l : List Nat) : Prop := ∃ (dx td te : Addr) (kvs : List (Key × V)),
  H x = some (.ins CF dx [("stays", .int (staysB l : Nat)), ("skips", .int (skipsB l : Nat)), ("takes", .ref td), ("ends", .ref te), ("first", .int (onw 1 (skipsB l) : Nat))]) ∧
  H td = some (.dK kvs) ∧ (∀ s ∈ sgn, valV kvs (sgK s) = some (.int (takesB l s : Nat))) ∧ H te = some (.lst [.int (l.length : Nat)])
def spFini (K : PySem.W.Frag) (CF : Addr) : Sp := fun vs H Q _ => ∃ (x dx a : Addr) (l : List Nat), vs = [.ref x, .ref a] ∧ H x = some (.ins CF dx []) ∧ SqL K H a [.str (txt l)] ∧ patOk l ∧ ∀ H', KX x H H' → FitAt CF H' x l → Q .non H'
section
variable {P : Program} {w : World} {K : PySem.W.Frag} {mg : Str → Option Value} {base : Heap} {f fB fO CF : Addr} {fd fdB fdO : FuncData}
theorem ok_fini {k : Nat} (F : FiP K f fd) (T : FitK K CF) (mlen : mg "len" = none) (mrange : mg "range" = none) (menum : mg "enumerate" = none)
    (mS : ∃ t, mg "SIGNS" = some (.str allSigns t)) (mT : ∃ t, mg "STAR" = some (.str "*" t)) (mA : ∃ t, mg "ANY" = some (.str "?" t))
    (FB : FnOk P w K mg base CX0 (k + 1) fB fdB ["marks"] (spBits K)) (gB : mg "bits_of" = some (.ref fB)) (kB : PySem.W.keepIn K (.ref fB) = true) (bB : Binds K fdB ["marks"] [])
    (FO : FnOk P w K mg base CX0 (k + 1) fO fdO ["places", "free"] spOnward) (gO : mg "places_onward" = some (.ref fO)) (kO : PySem.W.keepIn K (.ref fO) = true) (bO : Binds K fdO ["places", "free"] []) :
    FnOk P w K mg base CX0 (k + 2) f fd ["self", "patterns"] (spFini K CF) := by
  refine F.ok scFini (fun vs H Q E h => ?_) (fun cdv A outer s H vs Q E hr h => ?_)
  · obtain ⟨x, dx, a, l, rfl, _⟩ := h
    rfl
  · obtain ⟨x, dx, a, l, rfl, hx, hS, lp, q⟩ := h
    obtain ⟨tS, mS⟩ := mS
    obtain ⟨tT, mT⟩ := mT
    obtain ⟨tA, mA⟩ := mA
    refine ⟨_, PSs.nox (C8.pss_cut (ps_set (i := 2) scFini.nd rfl (.inr rfl) (pe_lc2 (own := [("pattern", 4), ("character", 5)]) (vs1 := [5]) (g := gName 4) (tt := tYes) (g1 := gName 5) (tt1 := tYes) (te := tVar 5) rfl scFini.nd (pi_list (pv 1)) (blkOk_by (N := fitN) (sc := defScope fini) (by decide +kernel)) (by decide)
        (fun _ _ _ _ _ => pg_name (i := 4) scFini.nd rfl (Or.inl rfl)) (fun _ _ _ _ _ => pts_nil) (fun _ _ _ _ _ => pi_str (pe_op op_add_str (pv 4) pe_str)) (fun _ _ _ _ _ => pg_name (i := 5) scFini.nd rfl (Or.inl rfl)) (fun _ _ _ _ _ => pts_nil) (fun _ _ _ _ _ => pv 5)))
      (C8.pss_cut (ps_fld (pv 0) (pe_call FB hr (by rfl) gB kB bB .nil pass0 (pa_cons (pe_op op_cat (pe_lst (pa_cons pe_bl pa_nil)) (pe_lc (own := [("character", 5)]) (g := gName 5) (tt := tYes) rfl scFini.nd (pi_list (pv 2)) (blkOk_by (N := fitN) (sc := defScope fini) (by decide +kernel))
        (fun _ _ _ _ _ => pg_name (i := 5) scFini.nd rfl (Or.inl rfl)) (fun _ _ _ _ _ => pts_nil) (fun _ _ _ _ _ => pe_cmpR op_eq (pv 5) (pe_glob (v := .str "*") (by rfl) mT ⟨tT, rfl⟩) (nomark _)))) pa_nil)) rfl)
      (C8.pss_cut (ps_fld (pv 0) (pe_call FB hr (by rfl) gB kB bB .nil pass0 (pa_cons (pe_lc (own := [("character", 5)]) (g := gName 5) (tt := tYes) rfl scFini.nd (pi_list (pv 2)) (blkOk_by (N := fitN) (sc := defScope fini) (by decide +kernel))
        (fun _ _ _ _ _ => pg_name (i := 5) scFini.nd rfl (Or.inl rfl)) (fun _ _ _ _ _ => pts_nil) (fun _ _ _ _ _ => pe_cmpR op_eq (pv 5) (pe_glob (v := .str "*") (by rfl) mT ⟨tT, rfl⟩) (nomark _))) pa_nil)) rfl)
      (C8.pss_cut (ps_fld (pv 0) (pe_dc (own := [("sign", 6)]) (g := gName 6) (tt := tYes) (tk := tVar 6) (tv := tCall (spBits K) [] (fun _ _ _ => False) (tCons (tLc (iList K (tVar 2)) (gName 5) tYes (tOp (rIn K false) (tVar 5) (tTup (tCons (tVar 6) (tCons (tC (.str "?")) tNil)))) [5]) tNil)) rfl scFini.nd (pi_str (pe_glob (v := .str allSigns) (by rfl) mS ⟨tS, rfl⟩)) (blkOk_by (N := fitN) (sc := defScope fini) (by decide +kernel))
        (fun _ _ _ _ _ => pg_name (i := 6) scFini.nd rfl (Or.inr rfl)) (fun _ _ _ _ _ => pts_nil) (fun _ _ _ _ _ => pv 6)
        (fun _ _ _ _ _ => pe_call FB hr (by rfl) gB kB bB .nil pass0 (pa_cons (pe_lc (own := [("character", 5)]) (g := gName 5) (tt := tYes) rfl scFini.nd (pi_list (pv 2)) (blkOk_by (N := fitN) rfl)
          (fun _ _ _ _ _ => pg_name (i := 5) scFini.nd rfl (Or.inl rfl)) (fun _ _ _ _ _ => pts_nil) (fun _ _ _ _ _ => pe_cmpR (op_inK K rfl) (pv 5) (pe_tup (pa_cons (pv 6) (pa_cons (pe_glob (v := .str "?") (by rfl) mA ⟨tA, rfl⟩) pa_nil))) rfl)) pa_nil))) rfl)
      (C8.pss_cut (ps_fld (pv 0) (pe_lc (own := [("at", 7), ("character", 5)]) (g := gTup K 2 (gCons (gName 7) (gCons (gName 5) gNil))) (te := tVar 7) rfl scFini.nd (pi_enum (by rfl) menum (pa_cons (pv 2) pa_nil)) (blkOk_by (N := fitN) (sc := defScope fini) (by decide +kernel))
        (fun _ _ _ _ _ => pg_tup rfl (pgs_cons (pg_name (i := 7) scFini.nd rfl (Or.inl rfl)) (pgs_cons (pg_name (i := 5) scFini.nd rfl (Or.inl rfl)) pgs_nil))) (fun _ _ _ _ _ => pts_one (pt_cmpR op_eq (pv 5) pe_str (nomark _))) (fun _ _ _ _ _ => pv 7)) rfl)
      (C8.pss_cut (ps_setLc (i := 3) (own := [("at", 7)]) (g := gName 7) (tt := tYes) (te := tOrV (tOp rEq (tVar 7) (tC (.int 0))) (tOp rEq (tOp (rIxL K) (tVar 2) (tOp (rI0 fun i j => .int (i - j)) (tVar 7) (tC (.int 1)))) (tC (.str " ")))) rfl scFini.nd rfl rfl (sw_true rfl rfl rfl (by decide +kernel)) (pi_range1 (by rfl) mrange (pa_cons (pe_callB call_len_seq (by rfl) mlen PySem.boot_len (pa_cons (pv 2) pa_nil)) pa_nil)) (blkOk_by (N := fitN) (sc := defScope fini) (by decide +kernel))
        (fun _ _ _ _ _ => pg_name (i := 7) scFini.nd rfl (Or.inl rfl)) (fun _ _ _ _ _ => pts_nil) (fun _ _ _ _ _ => pe_or (pe_cmpR op_eq (pv 7) pe_int (nomark _)) (pe_one (pe_cmpR op_eq (pe_ix ix_list (pv 2) (pe_op op_sub (pv 7) pe_int) (fun _ _ => rfl)) pe_str (nomark _)))))
      (pss_one (ps_fld (pv 0) (pe_call FO hr (by rfl) gO kO bO .nil pass0 (pa_cons (pe_call FB hr (by rfl) gB kB bB .nil pass0 (pa_cons (pv 3) pa_nil)) (pa_cons (pe_fld (pv 0) rfl) pa_nil))) rfl)))))))), ?_⟩
    obtain ⟨lne, l12, lmem⟩ := lp
    have lr : (rowC l).length = l.length + 1 := by unfold rowC; rw [List.length_append]; rfl
    have rsz : (rowC l).length ≤ 100 := by omega
    have no32 : ∀ c ∈ l, c ≠ 32 := fun c hc e => by
      subst e
      rcases lmem 32 hc with z | z | z
      · exact sgn_no.2.1 z
      · cases z
      · cases z
    have tx : (txt l ++ (" " : Str)) = txt (rowC l) := by
      show (⟨l.toArray ++ #[32]⟩ : Str) = ⟨(l ++ [32]).toArray⟩
      simp
    have csz : (txt (rowC l)).cps.size = (rowC l).length := by
      show ((rowC l).toArray).size = _
      simp
    -- row
    refine ⟨fun σ' H' => ∃ r, σ' = [some (.ref x), some (.ref a), some (.ref r), none, none, none, none, none] ∧ Same H H' ∧ H' r = some (.lst ((rowC l).map oneV)), ?_, ?_⟩
    · refine ⟨_, rfl, a, rfl, ⟨_, hS⟩, fun D nD => turns2 (walk_list (xs := [V.str (txt l)])) (fun i H' => Same H H' ∧ H' D = some (.lst (((rowC l).map oneV).take (i * (rowC l).length)))) ⟨same_upd nD, by rw [Nat.zero_mul]; exact upd_same⟩ (fun i H' hi hP => hP.1.seq hS) (fun i v H' H1 hi hP hY => ?_) (fun H' hP => ?_)⟩
      · obtain ⟨s1, hD⟩ := hP
        obtain ⟨rfl, hv⟩ := hY
        obtain rfl : i = 0 := by
          have hi : i < 1 := hi
          omega
        obtain rfl : V.str (txt l) = v := by simpa using hv
        refine ⟨rfl, _, rfl, _, _, rfl, rfl, ?_, ?_⟩
        · rw [txt_len, sizeLine_eq]
          show l.length + 1 ≤ _
          omega
        rw [tx]
        refine ⟨_, rfl, turns (walk_str (z := txt (rowC l))) (fun j H' => Same H H' ∧ H' D = some (.lst (((rowC l).map oneV).take j))) ⟨s1, by rw [Nat.zero_mul] at hD; exact hD⟩ (fun _ _ _ _ => trivial) (fun j v H2 H3 hj hP hY => ?_) (fun H2 hP => ?_)⟩
        · obtain ⟨s2, hD2⟩ := hP
          obtain ⟨rfl, c, hc, rfl⟩ := hY
          have hc2 : (rowC l)[j]? = some c := by
            have : (txt (rowC l)).cps[j]? = (rowC l)[j]? := by
              show (rowC l).toArray[j]? = _
              simp
            rw [← this]
            exact hc
          exact ⟨rfl, _, rfl, grow nD s2 hD2 (Same.refl _) (by rw [List.getElem?_map, hc2]; rfl) (by rw [List.length_map]; omega)⟩
        · obtain ⟨s2, hD2⟩ := hP
          refine ⟨s2, ?_⟩
          rw [csz] at hD2
          rw [Nat.zero_add, Nat.one_mul]
          exact hD2
      · obtain ⟨s1, hD⟩ := hP
        refine ⟨D, rfl, s1, ?_⟩
        have e : ((rowC l).map oneV).take ([V.str (txt l)].length * (rowC l).length) = (rowC l).map oneV := by
          rw [show [V.str (txt l)].length * (rowC l).length = ((rowC l).map oneV).length by rw [List.length_map]; exact Nat.one_mul _, List.take_length]
        rw [e] at hD
        exact hD
    rintro σ1 H1 ⟨r, rfl, s1, hr1⟩
    have hx1 := s1 _ _ hx
    have rx : r ≠ x := ne_of hr1 hx1 (fun z => nomatch z)
    have star : ∀ (row : Option V) (H' : Hp) (Q' : VK) (c : Nat), (∀ H'', Same H' H'' → Q' (.bl (isStar c)) H'') → tOp rEq (tVar 5) (tC (.str "*")) [some (.ref x), some (.ref a), row, none, none, some (oneV c), none, none] H' Q' := fun row H' Q' c q' => by
      refine ⟨_, rfl, rfl, ?_⟩
      have e : decide (oneV c = V.str "*") = isStar c := eq_code
      rw [e]
      exact q' H' (Same.refl H')
    -- stays
    refine ⟨fun σ' H' => σ' = [some (.ref x), some (.ref a), some (.ref r), none, none, none, none, none] ∧ KX x H H' ∧ H' r = some (.lst ((rowC l).map oneV)) ∧ H' x = some (.ins CF dx [("stays", .int (staysB l : Nat))]), ?_, ?_⟩
    · refine ⟨by show 1 ≤ sizeLine; decide, fun l1 n1 => ?_⟩
      have sl1 := same_upd (o := .lst [.bl false]) n1
      refine rd_marks (K := K) (r := r) (cs := rowC l) (f := isStar) rfl (sl1 _ _ hr1) rsz (fun c _ H' Q' q' => star _ H' Q' c q') (by intro v; rfl) fun D H2 s2 nD hD => ?_
      refine ⟨l1, D, [.bl false], _, rfl, rfl, s2 _ _ upd_same, hD, ?_, fun l2 n2 => ?_⟩
      · rw [blV_len, List.length_map, lr]
        show 1 + (l.length + 1) ≤ _
        rw [sizeLine_eq]
        omega
      have s12 := (sl1.trans s2).trans (same_upd (o := .lst ([.bl false] ++ blV ((rowC l).map isStar))) n2)
      refine ⟨l2, false :: (rowC l).map isStar, rfl, .of upd_same, by rw [List.length_cons, List.length_map]; omega, fun H3 s3 => ?_⟩
      have s13 := s12.trans s3
      refine ⟨_, rfl, x, CF, dx, [], rfl, s13 _ _ hx1, T.cl, T.st, by decide, rfl, KX.put (fun b o _ e => s13 _ _ (s1 _ _ e)), ?_, upd_same⟩
      rw [upd_ne rx]
      exact s13 _ _ hr1
    rintro σ2 H2 ⟨rfl, k2, hr2, hx2⟩
    -- skips
    refine ⟨fun σ' H' => σ' = [some (.ref x), some (.ref a), some (.ref r), none, none, none, none, none] ∧ KX x H H' ∧ H' r = some (.lst ((rowC l).map oneV)) ∧ H' x = some (.ins CF dx [("stays", .int (staysB l : Nat)), ("skips", .int (skipsB l : Nat))]), ?_, ?_⟩
    · dsimp only [sFld, tCall, tCons]
      refine rd_marks (K := K) (r := r) (cs := rowC l) (f := isStar) rfl hr2 rsz (fun c _ H' Q' q' => star _ H' Q' c q') (by intro v; rfl) fun D H3 s3 nD hD => ?_
      refine ⟨D, (rowC l).map isStar, rfl, .of hD, by rw [List.length_map]; omega, fun H4 s4 => ?_⟩
      have s24 := s3.trans s4
      refine ⟨_, rfl, x, CF, dx, _, rfl, s24 _ _ hx2, T.cl, T.sk, by show 1 < 1000; decide, rfl, (k2.same s24).put, ?_, upd_same⟩
      rw [upd_ne rx]
      exact s24 _ _ hr2
    rintro σ3 H3 ⟨rfl, k3, hr3, hx3⟩
    -- takes
    refine ⟨fun σ' H' => ∃ td kvs, σ' = [some (.ref x), some (.ref a), some (.ref r), none, none, none, none, none] ∧ KX x H H' ∧ H' r = some (.lst ((rowC l).map oneV)) ∧ H' x = some (.ins CF dx [("stays", .int (staysB l : Nat)), ("skips", .int (skipsB l : Nat)), ("takes", .ref td)]) ∧ H' td = some (.dK kvs) ∧ ∀ s ∈ sgn, valV kvs (sgK s) = some (.int (takesB l s : Nat)), ?_, ?_⟩
    · refine ⟨_, rfl, fun D nD => dturns (walk_str (z := allSigns)) (fun i H' => Same H3 H' ∧ ∃ kvs, H' D = some (.dK kvs) ∧ kvs.length ≤ i ∧ ∀ s ∈ sgn.take i, valV kvs (sgK s) = some (.int (takesB l s : Nat))) ⟨same_upd nD, [], upd_same, Nat.le_refl _, fun s hs => nomatch hs⟩ (fun _ _ _ _ => trivial) (fun i v H' H4 hi hP hY => ?_) (fun H' hP => ?_)⟩
      · obtain ⟨s4, kvs, hD, kl, kv⟩ := hP
        obtain ⟨rfl, c, hc, rfl⟩ := hY
        have hc2 : sgn[i]? = some c := by
          rw [← hc]
          simp
        have i15 : i < 15 := hi
        refine ⟨rfl, _, rfl, ?_⟩
        dsimp only [tCall, tCons]
        refine rd_marks (K := K) (r := r) (cs := rowC l) (f := isFor c) rfl (s4 _ _ hr3) rsz (fun d _ H5 Q5 q5 => ?_) (by intro v; rfl) fun E5 H5 s5 nE hE => ?_
        · refine ⟨_, rfl, _, rfl, by show 2 ≤ sizeLine; decide, fun t nt => ⟨t, _, rfl, .inr (.of upd_same), rfl, rfl, ?_⟩⟩
          have e : inV (oneV d) [V.str ⟨#[c]⟩, V.str "?"] = isFor c d := by
            show (eqV (V.str ⟨#[c]⟩) (V.str ⟨#[d]⟩) || (eqV (V.str ⟨#[63]⟩) (V.str ⟨#[d]⟩) || false)) = (decide (d = c) || decide (d = 63))
            rw [eqv_code, eqv_code, Bool.or_false, decide_eq_decide.mpr (eq_comm (a := c) (b := d)), decide_eq_decide.mpr (eq_comm (a := 63) (b := d))]
          show Q5 (.bl (inV (oneV d) [V.str ⟨#[c]⟩, V.str "?"])) _
          rw [e]
          exact q5 _ (same_upd nt)
        · refine ⟨E5, (rowC l).map (isFor c), rfl, .of hE, by rw [List.length_map]; omega, fun H6 s6 => ?_⟩
          have s46 := s5.trans s6
          refine ⟨kvs, sgK c, rfl, s46 _ _ hD, small1000 (by omega), fun b o e => ?_, _, upd_same, Nat.le_trans (put_len _ _ _) (by omega), fun t ht => ?_⟩
          · rw [upd_ne (ne_of_none e nD)]
            exact s46 _ _ (s4 _ _ e)
          · rw [valV_put]
            by_cases e : t = c
            · subst e
              rw [if_pos rfl]
              rfl
            · rw [if_neg (fun z => e (sgK_inj z))]
              rw [List.take_succ, hc2] at ht
              rcases List.mem_append.mp ht with ht | ht
              · exact kv t ht
              · exact absurd (List.mem_singleton.mp ht) e
      · obtain ⟨s4, kvs, hD, kl, kv⟩ := hP
        have e15 : sgn.take allSigns.cps.size = sgn := by
          refine List.take_of_length_le ?_
          show allSigns.cps.toList.length ≤ _
          rw [Array.length_toList]
          exact Nat.le_refl _
        rw [e15] at kv
        have Dx : D ≠ x := ne_of hD (s4 _ _ hx3) (fun z => nomatch z)
        refine ⟨_, rfl, x, CF, dx, _, rfl, s4 _ _ hx3, T.cl, T.tk, by show 2 < 1000; decide, D, kvs, rfl, (k3.same s4).put, ?_, upd_same, ?_, kv⟩
        · rw [upd_ne rx]
          exact s4 _ _ hr3
        · rw [upd_ne Dx]
          exact hD
    rintro σ4 H4 ⟨td, kvs, rfl, k4, hr4, hx4, ht4, kv⟩
    have tx4 : td ≠ x := ne_of ht4 hx4 (fun z => nomatch z)
    -- ends
    refine ⟨fun σ' H' => ∃ te, σ' = [some (.ref x), some (.ref a), some (.ref r), none, none, none, none, none] ∧ KX x H H' ∧ H' r = some (.lst ((rowC l).map oneV)) ∧ H' x = some (.ins CF dx [("stays", .int (staysB l : Nat)), ("skips", .int (skipsB l : Nat)), ("takes", .ref td), ("ends", .ref te)]) ∧ H' td = some (.dK kvs) ∧ H' te = some (.lst [.int (l.length : Nat)]), ?_, ?_⟩
    · refine ⟨_, rfl, r, _, rfl, .of hr4, fun D nD => turns (walk_enum (xs := (rowC l).map oneV)) (fun i H' => Same H4 H' ∧ H' D = some (.lst (if i ≤ l.length then [] else [.int (l.length : Nat)]))) ⟨same_upd nD, upd_same⟩ (fun i H' _ hP => .of (hP.1 _ _ hr4)) (fun i v H' H5 hi hP hY => ?_) (fun H' hP => ?_)⟩
      · obtain ⟨s4, hD⟩ := hP
        obtain ⟨T', y, z, rfl, nT, rfl, hy, hz⟩ := hY
        obtain rfl : V.int (i : Nat) = y := Option.some.inj hy
        have hz : ((rowC l).map oneV)[i]? = some z := hz
        rw [List.getElem?_map] at hz
        cases e : (rowC l)[i]? with
        | none => rw [e] at hz; cases hz
        | some c =>
          rw [e] at hz
          obtain rfl : oneV c = z := Option.some.inj hz
          have sT := same_upd (o := .tup [.int (i : Nat), oneV c]) nT
          have DT : D ≠ T' := ne_of_none hD nT
          refine ⟨T', _, rfl, .of upd_same, rfl, _, _, rfl, _, _, rfl, rfl, rfl, _, rfl, rfl, _, rfl, ?_⟩
          have ed : decide (oneV c = V.str " ") = decide (c = 32) := eq_code (c := c) (d := 32)
          rw [ed]
          by_cases il : i < l.length
          · have c32 : c ≠ 32 := by
              unfold rowC at e
              rw [List.getElem?_append_left il] at e
              exact no32 c (List.mem_of_getElem? e)
            refine ite2 (fun z => absurd (of_decide_eq_true z) c32) (fun _ => ⟨s4.trans sT, ?_⟩)
            rw [if_pos (by omega)] at hD
            rw [if_pos (by omega), upd_ne DT]
            exact hD
          · have hi2 : i < (rowC l).length := (List.getElem?_eq_some_iff.mp e).1
            obtain rfl : i = l.length := by omega
            have c32 : c = 32 := by
              unfold rowC at e
              rw [List.getElem?_append_right (Nat.le_refl _), Nat.sub_self] at e
              exact (Option.some.inj e).symm
            refine ite2 (fun _ => ?_) (fun z => absurd (decide_eq_true c32) z)
            rw [if_pos (Nat.le_refl _)] at hD
            refine ⟨_, rfl, [], by rw [upd_ne DT]; exact hD, by show 0 < sizeLine; rw [sizeLine_eq]; omega, fun b o z => ?_, ?_⟩
            · rw [upd_ne (ne_of_none z nD)]
              exact sT _ _ (s4 _ _ z)
            · rw [upd_same, if_neg (by omega)]
              rfl
      · obtain ⟨s4, hD⟩ := hP
        rw [List.length_map, lr, if_neg (by omega)] at hD
        have Dx : D ≠ x := ne_of hD (s4 _ _ hx4) (fun z => nomatch z)
        refine ⟨_, rfl, x, CF, dx, _, rfl, s4 _ _ hx4, T.cl, T.en, by show 3 < 1000; decide, D, rfl, (k4.same s4).put, ?_, upd_same, ?_, ?_⟩
        · rw [upd_ne rx]
          exact s4 _ _ hr4
        · rw [upd_ne tx4]
          exact s4 _ _ ht4
        · rw [upd_ne Dx]
          exact hD
    rintro σ5 H5 ⟨te, rfl, k5, hr5, hx5, ht5, he5⟩
    have ex5 : te ≠ x := ne_of he5 hx5 (fun z => nomatch z)
    -- starts
    refine ⟨fun σ' H' => ∃ q, σ' = [some (.ref x), some (.ref a), some (.ref r), some (.ref q), none, none, none, none] ∧ Same H5 H' ∧ H' q = some (.lst (blV (true :: List.replicate l.length false))), ?_, ?_⟩
    · have yl : (blV (true :: List.replicate l.length false)).length = l.length + 1 := by rw [blV_len, List.length_cons, List.length_replicate]
      refine ⟨_, rfl, r, _, rfl, .inl (.of hr5), _, rfl, by omega, by rw [List.length_map, lr]; omega, fun D nD => lc_range (lo := 0) (n := ((rowC l).map oneV).length) (fun i H' => Same H5 H' ∧ H' D = some (.lst ((blV (true :: List.replicate l.length false)).take i))) ⟨same_upd nD, upd_same⟩ (fun i H' hi hP => ?_) (fun H' hP => ?_)⟩
      · obtain ⟨s6, hD⟩ := hP
        rw [List.length_map, lr] at hi
        refine ⟨rfl, _, rfl, rfl, ?_⟩
        cases i with
        | zero => exact ⟨_, rfl, ite2 (fun _ => grow nD s6 hD (Same.refl H') rfl (by omega)) (fun z => absurd rfl z)⟩
        | succ i =>
          have e0 : decide (V.int (0 + ((i + 1 : Nat) : Int)) = V.int 0) = false := decide_eq_false fun z => by
            injection z with z
            omega
          refine ⟨_, rfl, ?_⟩
          rw [e0]
          refine ite2 (fun z => by cases z) (fun _ => ?_)
          have hg : ((rowC l).map oneV)[i]? = some (oneV (l[i]'(by omega))) := by
            unfold rowC
            rw [List.getElem?_map, List.getElem?_append_left (by omega), List.getElem?_eq_getElem (by omega)]
            rfl
          have hy : (blV (true :: List.replicate l.length false))[i + 1]? = some (.bl false) := blV_get (by
            rw [List.getElem?_cons_succ, List.getElem?_replicate, if_pos (by omega)])
          have ei : (0 : Int) + ((i + 1 : Nat) : Int) - 1 = ((i : Nat) : Int) := by omega
          refine ⟨_, rfl, _, rfl, _, _, rfl, rfl, r, _, _, _, rfl, rfl, .of (s6 _ _ hr5), by rw [ei]; exact atI_nat hg, rfl, ?_⟩
          have e1 : decide (oneV (l[i]'(by omega)) = V.str " ") = false := by
            rw [show decide (oneV (l[i]'(by omega)) = V.str " ") = decide (l[i]'(by omega) = 32) from eq_code]
            exact decide_eq_false (no32 _ (List.getElem_mem _))
          rw [e1]
          exact grow nD s6 hD (Same.refl H') hy (by omega)
      · obtain ⟨s6, hD⟩ := hP
        rw [List.length_map, lr, ← yl, List.take_length] at hD
        exact ⟨D, rfl, s6, hD⟩
    rintro σ6 H6 ⟨q', rfl, s6, hq6⟩
    -- first
    refine ⟨_, rfl, q', _, rfl, .of hq6, by rw [List.length_cons, List.length_replicate]; omega, fun H7 s7 => ?_⟩
    have s57 := s6.trans s7
    have hx7 := s57 _ _ hx5
    refine ⟨_, rfl, x, CF, dx, _, _, rfl, hx7, T.cl, T.sk, rfl, 1, skipsB l, ?_, ?_⟩
    · rw [bits_one]
      rfl
    refine ⟨_, rfl, x, CF, dx, _, rfl, hx7, T.cl, T.fi, by show 4 < 1000; decide, ?_⟩
    refine q _ (k5.same s57).put ⟨dx, td, te, kvs, upd_same, ?_, kv, ?_⟩
    · rw [upd_ne tx4]
      exact s57 _ _ ht5
    · rw [upd_ne ex5]
      exact s57 _ _ he5
end
end K0
end
/-! ### P3 -/
section
set_option Elab.async false
set_option linter.all false
set_option maxRecDepth 100000
set_option maxHeartbeats 4000000
/-! places_behind, places_of, fitting_ones. -/
namespace K0
open PySem PySem.Spec PyProof.Rows L2 Pat
theorem bits_lt : ∀ bs : List Bool, bits bs < 2 ^ bs.length
  | [] => by decide
  | b :: bs => by
    have ih := bits_lt bs
    show 2 * bits bs + b.toNat < 2 ^ (bs.length + 1)
    rw [Nat.pow_succ]
    have : b.toNat ≤ 1 := by cases b <;> decide
    omega
theorem takes_small {l : List Nat} (h : l.length ≤ 12) (s x : Nat) : (x &&& takesB l s) < 2 ^ 20 := by
  have h1 := bits_lt ((rowC l).map (isFor s))
  have h2 : ((rowC l).map (isFor s)).length ≤ 13 := by
    rw [List.length_map]
    unfold rowC
    rw [List.length_append]
    show l.length + 1 ≤ 13
    omega
  have h3 : 2 ^ ((rowC l).map (isFor s)).length ≤ 2 ^ 13 := Nat.pow_le_pow_right (by decide) h2
  have h4 : (x &&& takesB l s) ≤ takesB l s := Nat.and_le_right
  have h5 : takesB l s < 2 ^ 13 := Nat.lt_of_lt_of_le h1 h3
  have h6 : (2 : Nat) ^ 13 < 2 ^ 20 := by decide
  omega
theorem scPBeh : FnScope ["fitting", "places", "sign"] ["fitting", "places", "sign"] (defScope (top iPBeh)) := ⟨rfl, rfl, rfl, by decide +kernel, rfl, by decide +kernel, by decide +kernel⟩
theorem scPOf : FnScope ["fitting", "text", "places", "sign"] ["fitting", "text"] (defScope (top iPOf)) := ⟨rfl, rfl, rfl, by decide +kernel, rfl, by decide +kernel, by decide +kernel⟩
theorem scOnes : FnScope ["fitting", "places", "end"] ["fitting", "places"] (defScope (top iOnes)) := ⟨rfl, rfl, rfl, by decide +kernel, rfl, by decide +kernel, by decide +kernel⟩
def spPBeh (CF : Addr) : Sp := fun vs H Q _ => ∃ (x : Addr) (S s : Nat) (l : List Nat), vs = [.ref x, .int (S : Nat), oneV s] ∧ FitAt CF H x l ∧ l.length ≤ 12 ∧ s ∈ sgn ∧ Q (.int (behindN (staysB l) (skipsB l) (takesB l s) S : Nat)) H
def spPOf (CF : Addr) : Sp := fun vs H Q _ => ∃ (x : Addr) (l p : List Nat), vs = [.ref x, .str (txt p)] ∧ FitAt CF H x l ∧ l.length ≤ 12 ∧ (∀ s ∈ p, s ∈ sgn) ∧ ∀ S, At l p S → Q (.int (S : Nat)) H
def spOnes (CF : Addr) : Sp := fun vs H Q _ => ∃ (x : Addr) (S : Nat) (l : List Nat), vs = [.ref x, .int (S : Nat)] ∧ FitAt CF H x l ∧ ∀ H' D, Same H H' → H D = none → H' D = some (.lst [.bl (S.testBit l.length)]) → Q (.ref D) H'
section
variable {P : Program} {w : World} {K : PySem.W.Frag} {mg : Str → Option Value} {base : Heap} {f fO CF : Addr} {fd fdO : FuncData}
theorem ok_pbeh {k : Nat} (F : FnP K "places_behind" iPBeh f fd) (T : FitK K CF)
    (FO : FnOk P w K mg base CX0 (k + 1) fO fdO ["places", "free"] spOnward) (gO : mg "places_onward" = some (.ref fO)) (kO : PySem.W.keepIn K (.ref fO) = true) (bO : Binds K fdO ["places", "free"] []) :
    FnOk P w K mg base CX0 (k + 2) f fd ["fitting", "places", "sign"] (spPBeh CF) := by
  refine F.ok scPBeh (fun vs H Q E h => ?_) (fun cdv A outer s H vs Q E hr h => ?_)
  · obtain ⟨x, S, s, l, rfl, _⟩ := h
    rfl
  · obtain ⟨x, S, sg, l, rfl, ⟨dx, td, te, kvs, hx, ht, kv, he⟩, l12, hs, q⟩ := h
    refine ⟨_, PSs.nox (pss_one (ps_ret (pe_call FO hr (by rfl) gO kO bO .nil pass0 (pa_cons (pe_op op_or (pe_op op_and (pv 1) (pe_fld (pv 0) rfl)) (pe_op op_shlN (pe_op op_and (pv 1) (pe_dget (hu_of hr) (pe_fld (pv 0) rfl) (pv 2) (fun _ _ => rfl))) pe_int)) (pa_cons (pe_fld (pv 0) rfl) pa_nil))))), ?_⟩
    have a1 := and_nat S (staysB l)
    have a2 := and_nat S (takesB l sg)
    have sm : (((S &&& takesB l sg : Nat) : Int)).natAbs < 2 ^ 20 := by
      rw [Int.natAbs_natCast]
      exact takes_small l12 sg S
    refine ⟨_, rfl, _, rfl, x, CF, dx, _, _, rfl, hx, T.cl, T.st, rfl, _, _, rfl, rfl, ?_⟩
    refine ⟨_, rfl, _, rfl, x, CF, dx, _, _, rfl, hx, T.cl, T.tk, rfl, _, rfl, td, _, rfl, .inl ⟨kvs, sgK sg, .inl ht, rfl, (kv sg hs).symm⟩, _, _, rfl, rfl, ?_⟩
    refine ⟨((S &&& takesB l sg : Nat) : Int), 1, by rw [← a2], rfl, shl_ok sm (by decide), _, _, rfl, rfl, ?_⟩
    refine ⟨_, rfl, x, CF, dx, _, _, rfl, hx, T.cl, T.sk, rfl, (S &&& staysB l) ||| ((S &&& takesB l sg) * 2), skipsB l, ?_, q⟩
    rw [a1, show ((S &&& takesB l sg : Nat) : Int) * 2 ^ 1 = (((S &&& takesB l sg) * 2 : Nat) : Int) by omega]
    show [V.int (Builtin.bitOr ((S &&& staysB l : Nat) : Int) (((S &&& takesB l sg) * 2 : Nat) : Int)), V.int ((skipsB l : Nat) : Int)] = _
    rw [or_nat]
theorem ok_pof {k : Nat} (F : FnP K "places_of" iPOf f fd) (T : FitK K CF)
    (FO : FnOk P w K mg base CX0 (k + 2) fO fdO ["fitting", "places", "sign"] (spPBeh CF)) (gO : mg "places_behind" = some (.ref fO)) (kO : PySem.W.keepIn K (.ref fO) = true) (bO : Binds K fdO ["fitting", "places", "sign"] []) :
    FnOk P w K mg base CX0 (k + 3) f fd ["fitting", "text"] (spPOf CF) := by
  refine F.ok scPOf (fun vs H Q E h => ?_) (fun cdv A outer s H vs Q E hr h => ?_)
  · obtain ⟨x, l, p, rfl, _⟩ := h
    rfl
  · obtain ⟨x, l, p, rfl, fit, l12, hp, q⟩ := h
    have fit0 := fit
    obtain ⟨dx, td, te, kvs, hx, ht, kv, he⟩ := fit0
    refine ⟨_, PSs.nox (C8.pss_cut (ps_set (i := 2) scPOf.nd rfl (.inl rfl) (pe_fld (pv 0) rfl))
      (C8.pss_cut (ps_for PassesOwn.never rfl (pi_str (pv 1)) (pg_name (i := 3) scPOf.nd rfl (.inl rfl))
        (pss_one (ps_set (i := 2) scPOf.nd rfl (.inl rfl) (pe_call FO hr (by rfl) gO kO bO .nil pass0 (pa_cons (pv 0) (pa_cons (pv 2) (pa_cons (pv 3) pa_nil)))))))
      (pss_one (ps_ret (pv 2))))), ?_⟩
    refine ⟨fun σ' H' => σ' = [some (.ref x), some (.str (txt p)), some (.int (onw 1 (skipsB l) : Nat)), none] ∧ H' = H, ⟨_, rfl, x, CF, dx, _, _, rfl, hx, T.cl, T.fi, rfl, rfl, rfl⟩, ?_⟩
    rintro σ1 H1 ⟨rfl, rfl⟩
    refine ⟨fun σ' H' => ∃ S a3, At l p S ∧ σ' = [some (.ref x), some (.str (txt p)), some (.int (S : Nat)), a3] ∧ H' = H1, ?_, ?_⟩
    · have pl : (txt p).cps.size = p.length := by
        show (p.toArray).size = _
        simp
      refine ⟨_, rfl, txt p, rfl, for_it (walk_str (z := txt p)) (fun i σ' H' => ∃ S a3, At l (p.take i) S ∧ σ' = [some (.ref x), some (.str (txt p)), some (.int (S : Nat)), a3] ∧ H' = H1) ⟨_, none, at_first (marks_of l), rfl, rfl⟩ (fun _ _ _ _ _ => trivial) (fun i v σ' H' H'' hi hP hY => ?_) (fun σ' H' hP => ?_)⟩
      · obtain ⟨S, a3, hS, rfl, rfl⟩ := hP
        obtain ⟨rfl, c, hc, rfl⟩ := hY
        have hc2 : p[i]? = some c := by
          have : (txt p).cps[i]? = p[i]? := by
            show p.toArray[i]? = _
            simp
          rw [← this]
          exact hc
        have cs : c ∈ sgn := hp c (List.mem_of_getElem? hc2)
        refine ⟨_, rfl, _, rfl, _, rfl, x, S, c, l, rfl, fit, l12, cs, _, _, ?_, rfl, rfl⟩
        rw [take_snoc hc2]
        exact at_step (marks_of l) cs hS
      · obtain ⟨S, a3, hS, rfl, rfl⟩ := hP
        rw [pl, List.take_length] at hS
        exact ⟨S, a3, hS, rfl, rfl⟩
    rintro σ2 H2 ⟨S, a3, hS, rfl, rfl⟩
    exact ⟨_, rfl, q S hS⟩
theorem bit_shift (S n : Nat) : decide (((S / 2 ^ n % 2 : Nat) : Int) = 1) = S.testBit n := by
  rw [Nat.testBit_eq_decide_div_mod_eq]
  refine decide_eq_decide.mpr ⟨fun h => by omega, fun h => by omega⟩
theorem ok_ones {k : Nat} (F : FnP K "fitting_ones" iOnes f fd) (T : FitK K CF) : FnOk P w K mg base CX0 (k + 1) f fd ["fitting", "places"] (spOnes CF) := by
  refine F.ok scOnes (fun vs H Q E h => ?_) (fun cdv A outer s H vs Q E hr h => ?_)
  · obtain ⟨x, S, l, rfl, _⟩ := h
    rfl
  · obtain ⟨x, S, l, rfl, ⟨dx, td, te, kvs, hx, ht, kv, he⟩, q⟩ := h
    refine ⟨_, PSs.nox (pss_one (ps_ret (pe_lc (own := [("end", 2)]) (g := gName 2) (tt := tYes) rfl scOnes.nd (pi_list (pe_fld (pv 0) rfl)) (blkOk_by (N := ["fitting", "places", "end"]) (sc := defScope (top iOnes)) (by decide +kernel))
      (fun _ _ _ _ _ => pg_name (i := 2) scOnes.nd rfl (Or.inl rfl)) (fun _ _ _ _ _ => pts_nil) (fun _ _ _ _ _ => pe_cmpR op_eq (pe_op op_odd (pe_op op_shrN (pv 1) (pv 2)) pe_int) pe_int (nomark _))))), ?_⟩
    refine ⟨_, rfl, x, CF, dx, _, _, rfl, hx, T.cl, T.en, rfl, te, rfl, ⟨_, .of he⟩, fun D nD => lc_list (xs := [V.int (l.length : Nat)]) (fun i H' => Same H H' ∧ H' D = some (.lst ([V.bl (S.testBit l.length)].take i))) ⟨same_upd nD, upd_same⟩ (fun i H' hi hP => .of (hP.1 _ _ he)) (fun i v H' hv hP => ?_) (fun H' hP => ?_)⟩
    · obtain ⟨s1, hD⟩ := hP
      have hi := (List.getElem?_eq_some_iff.mp hv).1
      obtain rfl : i = 0 := by
        have hi : i < 1 := hi
        omega
      obtain rfl : V.int (l.length : Nat) = v := by simpa using hv
      refine ⟨rfl, _, rfl, _, rfl, _, l.length, rfl, rfl, S / 2 ^ l.length, ?_, rfl, rfl, ?_⟩
      · show V.int (((S : Nat) : Int) / 2 ^ l.length) = V.int ((S / 2 ^ l.length : Nat) : Int)
        congr 1
      · rw [show decide (V.int ((S / 2 ^ l.length % 2 : Nat) : Int) = V.int 1) = S.testBit l.length from (decide_eq_decide.mpr ⟨fun z => by injection z, fun z => by rw [z]⟩).trans (bit_shift S l.length)]
        exact grow nD s1 hD (Same.refl H') rfl (by show 1 ≤ 1000; decide)
    · obtain ⟨s1, hD⟩ := hP
      exact q H' D s1 nD hD
end
end K0
end
/-! ### TK -/
section
set_option Elab.async false
set_option linter.all false
set_option maxRecDepth 100000
set_option maxHeartbeats 4000000
/-! What has surely given out a token: a call with a written text among its arguments, a test made of such a call. -/
namespace K0
open PySem PySem.Spec PyProof.Rows L2
section
variable {X : Cx}
/-- arguments that give out a token -/
def PAk (X : Cx) (es : List Expr) (t : TA) : Prop := ∀ (pos : Pos) (pins : List (Addr × Obj)) (s : Shared) (σ : L2.St) (H : Hp) (Q : List V → Hp → Prop), Inv X pins σ H s → t σ H Q →
  wpAny (model X.prog X.w) X.A (spliced (backTo pos (starEach es X.env))) (fun us s' => 1 ≤ s'.toks ∧ AP X pins σ Q us s') X.xe s
/-- an expression, a test, that gives out a token -/
def PEk (X : Cx) (e : Expr) (t : TE) : Prop := ∀ (pins : List (Addr × Obj)) (s : Shared) (σ : L2.St) (H : Hp) (Q : VK), Inv X pins σ H s → t σ H Q →
  wpAny (model X.prog X.w) X.A (eval e X.env) (fun u s' => 1 ≤ s'.toks ∧ EP X pins σ Q u s') X.xe s
/-- .. if the answer is b -/
def PTk (X : Cx) (b : Bool) (e : Expr) (t : TT) : Prop := ∀ (whole : Sem Value) (pins : List (Addr × Obj)) (s : Shared) (σ : L2.St) (H : Hp) (Q : Bool → Hp → Prop), (whole = eval e X.env ∨ True) → Inv X pins σ H s → t σ H Q →
  wpAny (model X.prog X.w) X.A (isTrue e X.env (eval e X.env)) (fun c s' => (c = b → 1 ≤ s'.toks) ∧ TP X pins σ Q c s') X.xe s
theorem from_tok {α : Type} {t : Sem α} {Q : α → Shared → Prop} {E : Value → Shared → Prop} {M : Model} {A : Around} {s : Shared} (h1 : 1 ≤ s.toks) (h : wpAny M A t Q E s) : wpAny M A t (fun a s' => 1 ≤ s'.toks ∧ Q a s') E s :=
  wpAny_mono (PySem.wpAny_toks h) (fun _ _ z => ⟨Nat.le_trans h1 z.1, z.2⟩) fun _ _ z => z.2
theorem pak_str {x : Str} {j : Nat} {cp : Pos} {es : List Expr} {t : TA} (hr : PA X es t) (hs : starEach (.Constant (.str x) j cp :: es) X.env = (false, eval (.Constant (.str x) j cp) X.env) :: starEach es X.env := by rfl) :
    PAk X (.Constant (.str x) j cp :: es) (tCons (tC (.str x)) t) := by
  intro pos pins s σ H Q I h
  rw [hs]
  show wpAny _ _ (spliced ((false, eval (.Constant (.str x) j cp) X.env) :: backTo pos (starEach es X.env))) _ _ s
  refine Calls.spliced_cons (Calls.Constant_str ?_)
  refine from_tok (Nat.le_add_left 1 s.toks) (thn (hr.run pos pins _ σ H _ (I.tok _) h) fun us s' z => ?_)
  obtain ⟨vs, H', I', r, q⟩ := z
  exact ⟨.str x :: vs, H', I', .cons ⟨_, rfl⟩ r, q⟩
theorem pek_call {CX : CXT} {k : Nat} {f : Addr} {fd : FuncData} {ps : List Str} {sp : Sp} {x : Str} {e : Expr} {es : List Expr} {t : TA} {E : XK} {p pos : Pos} (F : FnOk X.prog X.w X.K X.mg X.base CX k f fd ps sp) (hr : Room k X.A) (hg : Gl X x) (hm : X.mg x = some (.ref f)) (hk : PySem.W.keepIn X.K (.ref f) = true) (hb : Binds X.K fd ps []) (hx : Passes CX X E)
    (ha : PAk X (e :: es) t) (hdb : (x == ("__debug__" : Str)) = false := by decide) (he : starEach (e :: es) X.env = (false, eval e X.env) :: starEach es X.env := by rfl) (hpl : (backTo pos (starEach es X.env)).any (·.1) = false := by rfl) :
    PEk X (.Call (.Name x p) (e :: es) [] pos) (tCall sp [] E t) := fun pins s σ H Q I h =>
  wpAny_Call_Name_kw (ld_glob I hg hm (PySem.W.callWith_K (h₀ := X.base) I.ok.mod.kin hk (thn (ha pos pins s σ H _ I h) fun us s1 ⟨k1, vs, H1, I1, r, q⟩ => ⟨I1.kIn, from_tok k1 (run_fn F hr hb .nil hx I1 r q)⟩) he hpl) hdb)
theorem ptk_val {e : Expr} {t : TE} {b : Bool} (h : PEk X e t) (he : ∀ whole, isTrue e X.env whole = (do let v ← whole; standAt e.pos; holding [v] (truthy v)) := by intro _; rfl) : PTk X b e (tB t) := by
  intro wh pins s σ H Q _ I hw
  refine isTrue_plain (thn (h pins s σ H _ I hw) fun v s1 ⟨k1, x, H1, I1, r1, q1⟩ => ?_) (he _)
  obtain ⟨d, rfl, q⟩ := q1
  cases r1
  exact wpAny_truthy_bool ⟨fun _ => k1, H1, I1, q⟩
theorem ptk_not {a : Expr} {tA : TT} {pos : Pos} {b : Bool} (ha : PTk X (!b) a tA) : PTk X b (.UnaryOp .Not a pos) (tNot tA) := by
  intro wh pins s σ H Q _ I h
  exact isTrue_not (thn (ha wh pins s σ H (fun c H1 => Q (!c) H1) (.inr trivial) I h) fun c s1 ⟨k1, z⟩ => ⟨fun e => k1 (by rw [← e, Bool.not_not]), z⟩)
theorem ptk_or {a b : Expr} {tA tB' : TT} {pos : Pos} (ha : PT X a tA) (hb : PTk X false b tB') : PTk X false (.BoolOp .Or [a, b] pos) (tOr tA tB') := by
  intro wh pins s σ H Q _ I h
  refine isTrue_or (thn (ha.run pins s σ H _ I h) fun c s1 ⟨H1, I1, q1⟩ => ?_)
  cases c with
  | true => exact ⟨fun e => by (cases e), H1, I1, q1⟩
  | false =>
    refine isTrue_or (thn (hb wh pins s1 σ H1 Q (.inr trivial) I1 q1) fun c s2 ⟨k2, z⟩ => ?_)
    cases c with
    | true => exact ⟨fun e => by (cases e), z⟩
    | false => exact isTrue_or_nil ⟨k2, z⟩
/-- name = e, where there was a token -/
theorem pst_name {i : Nat} {x : Str} {e : Expr} {te : TE} {px pos : Pos} (nd : X.N.Nodup) (at_i : X.N[i]? = some x) (loc : Loc X.env.scope x) (pe : PET X e te) (sw : swapsWith e (some (.Name x px)) pos.line X.env = pure false := by rfl) (fn : X.fn x = true ∨ X.env.scope.names.lookup x = some .local := by first | exact .inl rfl | exact .inr rfl | assumption) :
    PST X (.Assign [.Name x px] e pos) (tAsg te (gName i)) := fun pins s σ H D tk I h =>
  wpAny_Assign_Name (thn (pe pins s σ H _ tk I h) fun _ s1 z => by
    obtain ⟨y, H1, J, rv, q⟩ := z
    exact store_ok J nd at_i loc rv (fun s2 J2 => ⟨_, H1, J2, q⟩) fn) sw
/-- if t: suite, the suite leaves; what follows has a token -/
theorem pss_ifk {c : Expr} {a rest : List Stmt} {tc : TT} {t u : TS} {pos : Pos} (hc : PTk X false c tc) (ha : PSs X a t) (hr : PSsT X rest u) (hn : ∀ D σ H, t D σ H → t { D with nx := fun _ _ => False } σ H) : PSs X (.If c a [] pos :: rest) (tSeq (tIfS tc t tNext) u) := by
  refine ⟨fun pins s σ H D I h => ?_⟩
  refine wpAny_execs_cons (wpAny_If (thn (hc (eval c X.env) pins s σ H _ (.inl rfl) I h) fun d s1 ⟨k1, H1, I1, q1⟩ => ?_))
  cases d with
  | true =>
    refine thn (ha.run pins s1 σ H1 _ I1 (hn _ _ _ q1)) fun f s2 q => ?_
    cases f with
    | next => obtain ⟨_, _, _, z⟩ := q; exact z.elim
    | ret v => exact q
    | brk => exact q
    | cont => exact q
  | false =>
    refine wpAny_execs_nil ?_
    exact hr pins s1 σ H1 D (k1 rfl) I1 q1
end
end K0
end
/-! ### L5 -/
section
set_option Elab.async false
set_option linter.all false
set_option maxRecDepth 100000
set_option maxHeartbeats 4000000
/-! _law_long_right: patterns near a path. -/
namespace K0
open PySem PySem.Spec PyProof.Rows L2 Pat CwR
theorem str_empty {z : Str} (h : z.length = 0) : z = ⟨#[]⟩ := by
  obtain ⟨a⟩ := z
  have e : a = #[] := Array.eq_empty_of_size_eq_zero h
  rw [e]
theorem rep_none {z : Str} {n : Int} (h : n.toNat = 0 ∨ z.length = 0) : rep z n = ⟨#[]⟩ := str_empty (by
  rw [rep_len]
  rcases h with h | h <;> rw [h]
  · exact Nat.zero_mul _
  · exact Nat.mul_zero _)
theorem rep_one (z : Str) : rep z 1 = z := by
  obtain ⟨a⟩ := z
  show (⟨#[] ++ a⟩ : Str) = _
  rw [Array.empty_append]
def rStrMulA : R2 := fun x y H Q => ∃ (z : Str) (n : Int), x = .str z ∧ y = .int n ∧ 0 ≤ n ∧ n ≤ 10000 ∧ z.length ≤ 1000 ∧ Q (.str (rep z n)) H
theorem op_strMulA {X : Cx} : OpR X (binaryOp .Mult) rStrMulA := by
  intro pins s σ H x y v u Q I rx ry h
  obtain ⟨z, n, rfl, rfl, n0, n1, z2, q⟩ := h
  obtain ⟨t, rfl⟩ := rx
  obtain ⟨t', rfl⟩ := ry
  have e2 : (2 : Int) ^ 63 = 9223372036854775808 := by decide
  have big : z.length * n.toNat ≤ 1000 * 10000 := Nat.mul_le_mul z2 (by omega)
  refine PySem.P.mul_str (by simp; omega) (fun hn _ => ?_) (fun _ _ => ?_) ?_
  · have h1 : (1000 : Int) ≤ (2 ^ 63 - 1) / n := (Int.le_ediv_iff_mul_le (by omega)).mpr (by omega)
    omega
  · unfold Builtin.Str.tooLong
    rw [sizeLine_eq]
    exact decide_eq_false (by omega)
  · by_cases c1 : n < 1
    · rw [if_pos c1]
      have e : rep z n = Str.empty := rep_none (.inl (by omega))
      rw [e] at q
      exact ⟨by decide, ⟨.str Str.empty, H, I.tok _, ⟨_, rfl⟩, q⟩⟩
    · rw [if_neg c1]
      by_cases c2 : (n == 1 || z.length == 0) = true
      · rw [if_pos c2]
        have e : rep z n = z := by
          rw [Bool.or_eq_true, beq_iff_eq, beq_iff_eq] at c2
          rcases c2 with rfl | c2
          · exact rep_one z
          · rw [rep_none (.inr c2), str_empty c2]
        rw [e] at q
        exact ⟨.str z, H, I, ⟨t, rfl⟩, q⟩
      · rw [if_neg c2]
        have hl := rep_len z n
        exact ⟨by show (rep z n).length ≤ sizeLine; rw [hl, Nat.mul_comm, sizeLine_eq]; omega, ⟨.str (rep z n), H, I.tok _, ⟨_, rfl⟩, q⟩⟩
theorem fold_mark (e : Nat) : ∀ (r : Nat) (acc : Array Nat), (List.replicate r (#[e] : Array Nat)).foldl (· ++ ·) acc = acc ++ (List.replicate r e).toArray
  | 0, acc => by simp
  | r + 1, acc => by
    rw [List.replicate_succ, List.foldl_cons, fold_mark e r, List.replicate_succ, Array.append_assoc]
    congr 1
    exact Array.ext' (by simp)
theorem rep_mark (r : Nat) : rep ("?" : Str) (r : Nat) = txt (List.replicate r 63) := by
  show (⟨(List.replicate ((r : Nat) : Int).toNat (#[63] : Array Nat)).foldl (· ++ ·) #[]⟩ : Str) = _
  rw [Int.toNat_natCast, fold_mark, Array.empty_append]
  rfl
theorem txt_app (a b : List Nat) : txt a ++ txt b = txt (a ++ b) := by
  show (⟨a.toArray ++ b.toArray⟩ : Str) = ⟨(a ++ b).toArray⟩
  simp
theorem repl_wide : ∀ l : List Nat, StrLaws.replL [42] [42, 42] l = wide l
  | [] => StrLaws.replL_nil
  | c :: r => by
    by_cases h : c = 42
    · subst h
      rw [StrLaws.replL_hit (by simp) (by rfl)]
      show [42, 42] ++ StrLaws.replL [42] [42, 42] r = _
      rw [repl_wide r]
      rfl
    · rw [StrLaws.replL_miss (by show ¬ [c] = [42]; simpa using h), repl_wide r]
      show _ = (if c = 42 then [42, 42] else [c]) ++ wide r
      rw [if_neg h]
      rfl
theorem replace_wide (l : List Nat) : Txt.replace (txt l) ("*" : Str) ("**" : Str) = txt (wide l) := by
  rw [← codes_txt (Txt.replace _ _ _)]
  congr 1
  have e := StrLaws.replace_list (x := txt l) (y := ("*" : Str)) (z := ("**" : Str)) (by decide)
  show (Txt.replace (txt l) ("*" : Str) ("**" : Str)).cps.toList = _
  rw [e]
  show StrLaws.replL [42] [42, 42] (cpsL (txt l)) = _
  rw [txt_codes, repl_wide]
theorem wide_len (l : List Nat) : (wide l).length ≤ 2 * l.length ∧ (l ≠ [] → wide l ≠ []) := by
  induction l with
  | nil => exact ⟨Nat.le_refl _, fun h => absurd rfl h⟩
  | cons c r ih =>
    have e : wide (c :: r) = (if c = 42 then [42, 42] else [c]) ++ wide r := rfl
    rw [e]
    by_cases h : c = 42
    · rw [if_pos h]
      exact ⟨by rw [List.length_append, show (c :: r).length = r.length + 1 from rfl]; show 2 + _ ≤ _; omega, fun _ z => by cases z⟩
    · rw [if_neg h]
      exact ⟨by rw [List.length_append, show (c :: r).length = r.length + 1 from rfl]; show 1 + _ ≤ _; omega, fun _ z => by cases z⟩
theorem wide_mem {l : List Nat} {d : Nat} (h : d ∈ wide l) : d ∈ l := by
  obtain ⟨c, hc, hd⟩ := List.mem_flatMap.mp h
  by_cases e : c = 42
  · rw [if_pos e] at hd
    have : d = 42 := by simpa using hd
    rw [this, ← e]
    exact hc
  · rw [if_neg e] at hd
    rw [List.mem_singleton.mp hd]
    exact hc
def okCh (d : Nat) : Prop := d ∈ allSigns.cps.toList ∨ d = 42 ∨ d = 63
theorem patOk_take {x : List Nat} (h0 : x ≠ []) (h : ∀ d ∈ x, okCh d) : patOk (x.take 12) := by
  refine ⟨fun e => ?_, by rw [List.length_take]; omega, fun d hd => h d (List.mem_of_mem_take hd)⟩
  cases x with
  | nil => exact h0 rfl
  | cons c r => cases e
/-- the patterns near a path -/
def nearL (l p : List Nat) (i r : Nat) : List (List Nat) := [l, p, p.take i ++ [42] ++ p.drop (i + r), p.take i ++ [63] ++ p.drop (i + 1), [42] ++ p.drop i, [42], p ++ [42]]
theorem near_ok {l p : List Nat} {i r : Nat} (hl : l ≠ [] ∧ ∀ d ∈ l, okCh d) (hp : p ≠ [] ∧ ∀ d ∈ p, okCh d) : ∀ x ∈ nearL l p i r, patOk (x.take 12) := by
  have c1 : ∀ d ∈ ([42] : List Nat), okCh d := fun d h => .inr (.inl (List.mem_singleton.mp h))
  have c2 : ∀ d ∈ ([63] : List Nat), okCh d := fun d h => .inr (.inr (List.mem_singleton.mp h))
  have tk : ∀ n, ∀ d ∈ p.take n, okCh d := fun n d h => hp.2 d (List.mem_of_mem_take h)
  have dr : ∀ n, ∀ d ∈ p.drop n, okCh d := fun n d h => hp.2 d (List.mem_of_mem_drop h)
  have ap : ∀ a b : List Nat, (∀ d ∈ a, okCh d) → (∀ d ∈ b, okCh d) → ∀ d ∈ a ++ b, okCh d := fun a b ha hb d h => (List.mem_append.mp h).elim (ha d) (hb d)
  intro x hx
  simp only [nearL, List.mem_cons, List.not_mem_nil, or_false] at hx
  rcases hx with rfl | rfl | rfl | rfl | rfl | rfl | rfl
  · exact patOk_take hl.1 hl.2
  · exact patOk_take hp.1 hp.2
  · exact patOk_take (by simp) (ap _ _ (ap _ _ (tk _) c1) (dr _))
  · exact patOk_take (by simp) (ap _ _ (ap _ _ (tk _) c2) (dr _))
  · exact patOk_take (by simp) (ap _ _ c1 (dr _))
  · exact patOk_take (by simp) c1
  · exact patOk_take (by simp) (ap _ _ hp.2 c1)
theorem near_size {l p : List Nat} {i r : Nat} (hl : l.length ≤ 12) (hp : p.length ≤ 12) : ∀ x ∈ nearL l p i r, x.length ≤ 30 := by
  intro x hx
  simp only [nearL, List.mem_cons, List.not_mem_nil, or_false] at hx
  rcases hx with rfl | rfl | rfl | rfl | rfl | rfl | rfl <;> (try simp only [List.length_append, List.length_take, List.length_drop, List.length_cons, List.length_nil]) <;> omega
theorem star_fits (p : List Nat) : fitsL [42] p = true := (fitsL_iff _ _).mpr (star_all p)
theorem marks_fit (p : List Nat) : fitsL (List.replicate p.length 63) p = true := (fitsL_iff _ _).mpr (fit_any p)
theorem marks_miss {p : List Nat} {n : Nat} (h : n ≠ p.length) : fitsL (List.replicate n 63) p = false := by
  cases e : fitsL (List.replicate n 63) p with
  | false => rfl
  | true =>
    have z := fit_plain (fun m => by have := List.eq_of_mem_replicate m; cases this) ((fitsL_iff _ _).mp e)
    rw [List.length_replicate] at z
    exact absurd z.symm h
theorem patOk_marks {n : Nat} (h1 : 1 ≤ n) (h2 : n ≤ 12) : patOk (List.replicate n 63) := by
  refine ⟨fun e => ?_, by rw [List.length_replicate]; exact h2, fun d hd => .inr (.inr (List.eq_of_mem_replicate hd))⟩
  have := congrArg List.length e
  rw [List.length_replicate] at this
  simp at this
  omega
end K0
end
/-! ### L6 -/
section
set_option Elab.async false
set_option linter.all false
set_option maxRecDepth 100000
set_option maxHeartbeats 4000000
/-! _law_long_right itself. -/
namespace K0
open PySem PySem.Spec PyProof.Rows L2 Pat CwR
abbrev longN : List Str := ["dice", "signs", "path", "pattern", "at", "cut", "near", "one", "wider", "turn", "text"]
theorem scLong : FnScope longN ["dice", "signs"] (defScope (top iLong)) := ⟨rfl, rfl, rfl, by decide +kernel, rfl, by decide +kernel, by decide +kernel⟩
def spLong (K : PySem.W.Frag) : Sp := fun vs H Q _ => ∃ (p t : Addr) (a b c : Int) (cs : List Nat), vs = [.ref p, .ref t] ∧ H p = some (dk a b c) ∧ SqT K H t (cs.map oneV) ∧ cs ≠ [] ∧ cs.length ≤ 3 ∧ (∀ c ∈ cs, c ∈ allSigns.cps.toList) ∧ t ≠ p ∧ ∀ H', Keep p H H' → Q (.bl true) H'
theorem small_txt {l : List Nat} (h : l.length ≤ 1000) : (txt l).length ≤ sizeLine := by rw [txt_len, sizeLine_eq]; omega
section
variable {P : Program} {w : World} {K : PySem.W.Frag} {mg : Str → Option Value} {base : Heap} {f fP fR fO fL fF : Addr} {fd fdP fdR fdO fdL fdF : FuncData}
theorem ok_long {k : Nat} (F : FnP K "_law_long_right" iLong f fd) (mlen : mg "len" = none) (mrepr : mg "repr" = none) (mrange : mg "range" = none)
    (FR : FnOk P w K mg base CX0 k fR fdR ["dice", "total"] spRoll) (gR : mg "_law_roll" = some (.ref fR)) (kR : PySem.W.keepIn K (.ref fR) = true) (bR : Binds K fdR ["dice", "total"] [])
    (FO : FnOk P w K mg base CX0 k fO fdO ["dice", "items"] (spOne K)) (gO : mg "_law_one_of" = some (.ref fO)) (kO : PySem.W.keepIn K (.ref fO) = true) (bO : Binds K fdO ["dice", "items"] [])
    (FP : FnOk P w K mg base CX0 k fP fdP ["dice", "signs", "size"] (spPat K)) (gP : mg "_law_pattern" = some (.ref fP)) (kP : PySem.W.keepIn K (.ref fP) = true) (bP : Binds K fdP ["dice", "signs", "size"] [])
    (FL : FnOk P w K mg base CX0 k fL fdL ["pattern", "path"] spLFits) (gL : mg "_law_fits" = some (.ref fL)) (kL : PySem.W.keepIn K (.ref fL) = true) (bL : Binds K fdL ["pattern", "path"] [])
    (FF : FnOk P w K mg base CX0 k fF fdF ["pattern", "path"] spFits) (gF : mg "fits" = some (.ref fF)) (kF : PySem.W.keepIn K (.ref fF) = true) (bF : Binds K fdF ["pattern", "path"] []) :
    FnOk P w K mg base CX0 (k + 1) f fd ["dice", "signs"] (spLong K) := by
  refine F.ok scLong (fun vs H Q E h => ?_) (fun cdv A outer s H vs Q E hr h => ?_)
  · obtain ⟨p, t, a, b, c, cs, rfl, _⟩ := h
    rfl
  · obtain ⟨pd, t, a, b, c, cs, rfl, hp, hT, cne, c3, inS, ntp, q⟩ := h
    refine ⟨_, PSs.nox (C8.pss_cut (ps_set (i := 2) scLong.nd rfl (.inl rfl) (pe_join pe_str (pe_lc (own := [("turn", 9)]) (g := gName 9) (tt := tYes) rfl scLong.nd (pi_range1 (by rfl) mrange (pa_cons (pe_op op_add pe_int (pe_call FR hr (by rfl) gR kR bR .nil pass0 (pa_cons (pv 0) (pa_cons pe_int pa_nil)))) pa_nil)) (blkOk_by (N := longN) (sc := defScope (top iLong)) (by decide +kernel))
          (fun _ _ _ _ _ => pg_name (i := 9) scLong.nd rfl (Or.inl rfl)) (fun _ _ _ _ _ => pts_nil) (fun _ _ _ _ _ => pe_call FO hr (by rfl) gO kO bO .nil pass0 (pa_cons (pv 0) (pa_cons (pv 1) pa_nil))))))
      (C8.pss_cut (ps_set (i := 3) scLong.nd rfl (.inl rfl) (pe_call FP hr (by rfl) gP kP bP .nil pass0 (pa_cons (pv 0) (pa_cons (pv 1) (pa_cons pe_int pa_nil)))))
      (C8.pss_cut (ps_set (i := 4) scLong.nd rfl (.inl rfl) (pe_call FR hr (by rfl) gR kR bR .nil pass0 (pa_cons (pv 0) (pa_cons (pe_op op_add (pe_callB call_len (by rfl) mlen PySem.boot_len (pa_cons (pv 2) pa_nil)) pe_int) pa_nil))))
      (C8.pss_cut (ps_set (i := 5) scLong.nd rfl (.inl rfl) (pe_slice sl_str (pv 2) (po_some (pe_op op_add (pv 4) (pe_call FR hr (by rfl) gR kR bR .nil pass0 (pa_cons (pv 0) (pa_cons pe_int pa_nil))))) po_none))
      (C8.pss_cut (ps_set (i := 6) scLong.nd rfl (.inl rfl) (pe_lst (pa_cons (pv 3) (pa_cons (pv 2)
          (pa_cons (pe_op op_add_str (pe_op op_add_str (pe_slice sl_str (pv 2) po_none (po_some (pv 4))) pe_str) (pv 5))
          (pa_cons (pe_op op_add_str (pe_op op_add_str (pe_slice sl_str (pv 2) po_none (po_some (pv 4))) pe_str) (pe_slice sl_str (pv 2) (po_some (pe_op op_add (pv 4) pe_int)) po_none))
          (pa_cons (pe_op op_add_str pe_str (pe_slice sl_str (pv 2) (po_some (pv 4)) po_none)) (pa_cons pe_str (pa_cons (pe_op op_add_str (pv 2) pe_str) pa_nil)))))))))
      (C8.pss_cut (ps_for PassesOwn.never rfl (pi_list (pe_lc (own := [("text", 10)]) (g := gName 10) (tt := tYes) rfl scLong.nd (pi_list (pv 6)) (blkOk_by (N := longN) (sc := defScope (top iLong)) (by decide +kernel))
            (fun _ _ _ _ _ => pg_name (i := 10) scLong.nd rfl (Or.inl rfl)) (fun _ _ _ _ _ => pts_nil) (fun _ _ _ _ _ => pe_slice sl_str (pv 10) po_none (po_some pe_int)))) (pg_name (i := 7) scLong.nd rfl (.inl rfl))
          (pss_ifk (ptk_or (pt_cmpR op_ne (pe_callB call_reprB (by rfl) mrepr (by decide +kernel) (pa_cons (pe_call FF hr (by rfl) gF kF bF .nil pass0 (pa_cons (pv 7) (pa_cons (pv 2) pa_nil))) pa_nil))
                (pe_callB call_reprB (by rfl) mrepr (by decide +kernel) (pa_cons (pe_call FL hr (by rfl) gL kL bL .nil pass0 (pa_cons (pv 7) (pa_cons (pv 2) pa_nil))) pa_nil)) (nomark _))
              (ptk_not (ptk_val (pek_call FF hr (by rfl) gF kF bF pass0 (pak_str (pa_cons (pv 2) pa_nil))))))
            (pss_one (ps_ret pe_bl))
            (psst_cons (pst_name (i := 8) scLong.nd rfl (.inl rfl) (pet_replC (pv 7)))
              (PSsT.of (pss_one (ps_if (PW.pt (pw_and (pt_cmpR op_le (pe_callB call_len (by rfl) mlen PySem.boot_len (pa_cons (pv 8) pa_nil)) pe_int (nomark _))
                (pw_and1 (pt_cmpR op_ne (pe_call FF hr (by rfl) gF kF bF .nil pass0 (pa_cons (pv 8) (pa_cons (pv 2) pa_nil))) (pe_call FF hr (by rfl) gF kF bF .nil pass0 (pa_cons (pv 7) (pa_cons (pv 2) pa_nil))) (nomark _)))))
                (pss_one (ps_ret pe_bl)) pss_nil))))
            (fun D σ H z => z)))
      (pss_one (ps_ret (pe_and (pe_call FF hr (by rfl) gF kF bF .nil pass0 (pa_cons (pe_op op_strMulA pe_str (pe_callB call_len (by rfl) mlen PySem.boot_len (pa_cons (pv 2) pa_nil))) (pa_cons (pv 2) pa_nil)))
        (pe_one (pe_not (pe_call FF hr (by rfl) gF kF bF .nil pass0 (pa_cons (pe_op op_strMulA pe_str (pe_op op_add (pe_op op_mod (pe_callB call_len (by rfl) mlen PySem.boot_len (pa_cons (pv 2) pa_nil)) pe_int) pe_int)) (pa_cons (pv 2) pa_nil)))))))))))))), ?_⟩
    refine ⟨fun σ' H' => ∃ p : List Nat, σ' = [some (.ref pd), some (.ref t), some (.str (txt p)), none, none, none, none, none, none, none, none] ∧ Keep pd H H' ∧ pathOk p ∧ (∀ d ∈ p, d ∈ cs), ?_, ?_⟩
    · refine ⟨⟨_, rfl⟩, _, rfl, pd, a, b, c, 12, rfl, hp, wide_div (b := 4) (by decide) (by decide) (by decide) (by decide), fun a1 b1 c1 r r0 r1 => ⟨_, _, rfl, rfl, _, rfl, by omega, by omega, fun D nD => ?_⟩⟩
      have k1 : Keep pd H (upd H pd (dk a1 b1 c1)) := .dice a1 b1 c1
      refine lc_range (lo := 0) (n := (1 + r).toNat) (fun i H' => Keep pd (upd H pd (dk a1 b1 c1)) H' ∧ ∃ l : List Nat, l.length = i ∧ (∀ d ∈ l, d ∈ cs) ∧ H' D = some (.lst ((l.map oneS).map V.str))) ⟨.new upd_same nD, [], rfl, (fun d hd => nomatch hd), upd_same⟩ (fun i H' hi hP => ?_) (fun H' hP => ?_)
      · obtain ⟨kk, l, hl, hm, hDD⟩ := hP
        obtain ⟨a2, b2, c2, hp2⟩ := kk.2
        have hT2 : SqT K H' t (cs.map oneV) := keep_sqt (k1.trans kk) ntp hT
        refine ⟨rfl, _, rfl, _, rfl, pd, a2, b2, c2, _, cs.map oneV, rfl, hp2, .inl ⟨t, rfl, .inr hT2⟩, (fun z => cne (List.map_eq_nil_iff.mp z)), by rw [List.length_map]; exact Nat.le_of_lt (small1000 (by omega)), fun a' b' c' => .inl ⟨t, rfl, .inr (keep_sqt (.dice a' b' c') ntp hT2)⟩, fun a3 b3 c3 j x hx => ?_⟩
        obtain ⟨d, hd, rfl⟩ := ones_at hx
        have nDp : D ≠ pd := dk_apart hDD hp2
        refine ⟨(l.map oneS).map V.str, by rw [upd_ne nDp]; exact hDD, ?_, ⟨fun y o ny e => ?_, a3, b3, c3, by rw [upd_ne nDp.symm, upd_same]⟩, l ++ [d], by rw [List.length_append, hl]; rfl, fun e he => ?_, ?_⟩
        · rw [List.length_map, List.length_map, hl]
          exact small1000 (by omega)
        · rw [upd_ne (ne_of_none e nD), upd_ne ny]
          exact kk.1 y o ny e
        · rcases List.mem_append.mp he with he | he
          · exact hm e he
          · rw [List.mem_singleton.mp he]
            exact hd
        · rw [upd_same, List.map_append, List.map_append]
          rfl
      · obtain ⟨kk, l, hl, hm, hDD⟩ := hP
        refine ⟨_, D, l.map oneS, rfl, rfl, .inl (.of hDD), ?_, ?_⟩
        · rw [ones_sum]
          show _ + (l.map oneS).length * 0 ≤ _
          have z := small1000 (n := l.length) (by omega)
          omega
        · refine ⟨l, ?_, k1.trans kk, ⟨fun e => by rw [e] at hl; have z : 0 = (1 + r).toNat := hl; omega, by omega, fun d hd => inS d (hm d hd)⟩, hm⟩
          show [_, _, some (V.str (Builtin.Str.glued ("" : Str) (l.map oneS))), _, _, _, _, _, _, _, _] = _
          rw [glued_ones]
    rintro σ1 H1 ⟨p, rfl, k1, hP, hpc⟩
    obtain ⟨pne, p12, pin⟩ := hP
    have p0 : 0 < p.length := List.length_pos_iff.mpr pne
    refine ⟨fun σ' H' => ∃ l : List Nat, σ' = [some (.ref pd), some (.ref t), some (.str (txt p)), some (.str (txt l)), none, none, none, none, none, none, none] ∧ Keep pd H H' ∧ l ≠ [] ∧ l.length ≤ 12 ∧ (∀ d ∈ l, okCh d), ?_, ?_⟩
    · obtain ⟨a1, b1, c1, e1⟩ := k1.2
      refine ⟨_, rfl, _, rfl, pd, t, a1, b1, c1, cs, 12, rfl, e1, keep_sqt k1 ntp hT, by omega, by omega, by omega, fun H2 l k2 l0 l12 lm => ⟨l, rfl, k1.trans k2, l0, l12, fun d hd => ?_⟩⟩
      rcases lm d hd with z | z
      · exact .inl (inS d z)
      · exact .inr z
    rintro σ2 H2 ⟨l, rfl, k2, l0, l12, lm⟩
    refine ⟨fun σ' H' => ∃ i : Nat, σ' = [some (.ref pd), some (.ref t), some (.str (txt p)), some (.str (txt l)), some (.int (i : Nat)), none, none, none, none, none, none] ∧ Keep pd H H' ∧ i ≤ p.length, ?_, ?_⟩
    · obtain ⟨a1, b1, c1, e1⟩ := k2.2
      refine ⟨_, rfl, _, rfl, _, p.length, rfl, ⟨small_txt (by omega), by rw [txt_len]⟩, _, _, rfl, rfl, pd, a1, b1, c1, (p.length : Int) + 1, rfl, e1, wide_div (b := 5) (by omega) (by omega) (by decide) (by decide), fun a2 b2 c2 r r0 r1 => ⟨r.toNat, ?_, k2.trans (.dice a2 b2 c2), by omega⟩⟩
      rw [show r = ((r.toNat : Nat) : Int) by omega]
      rfl
    rintro σ3 H3 ⟨i, rfl, k3, ip⟩
    refine ⟨fun σ' H' => ∃ r : Nat, σ' = [some (.ref pd), some (.ref t), some (.str (txt p)), some (.str (txt l)), some (.int (i : Nat)), some (.str (txt (p.drop (i + r)))), none, none, none, none, none] ∧ Keep pd H H', ?_, ?_⟩
    · obtain ⟨a1, b1, c1, e1⟩ := k3.2
      refine ⟨_, rfl, _, rfl, _, rfl, pd, a1, b1, c1, 3, rfl, e1, wide_div (b := 4) (by decide) (by decide) (by decide) (by decide), fun a2 b2 c2 r r0 r1 => ⟨_, _, rfl, rfl, _, rfl, txt p, rfl, small_txt (by omega), r.toNat, ?_, k3.trans (.dice a2 b2 c2)⟩⟩
      show [_, _, _, _, _, some (V.str (cutS (txt p) (some ((i : Nat) + r)) none)), _, _, _, _, _] = _
      rw [show ((i : Nat) : Int) + r = ((i + r.toNat : Nat) : Int) by omega, cut_from]
    rintro σ4 H4 ⟨r, rfl, k4⟩
    refine ⟨fun σ' H' => ∃ L : Addr, σ' = [some (.ref pd), some (.ref t), some (.str (txt p)), some (.str (txt l)), some (.int (i : Nat)), some (.str (txt (p.drop (i + r)))), some (.ref L), none, none, none, none] ∧ Keep pd H H' ∧ H' L = some (.lst ((nearL l p i r).map fun x => V.str (txt x))), ?_, ?_⟩
    · have sl : ∀ x : List Nat, x.length ≤ 30 → (txt x).length ≤ sizeLine := fun x h => small_txt (by omega)
      have c1 := cut_to p i
      have c2 := cut_from p i
      have c3 := cut_from p (i + 1)
      have d1 : (p.drop (i + r)).length ≤ 12 := by rw [List.length_drop]; omega
      have d2 : (p.drop (i + 1)).length ≤ 12 := by rw [List.length_drop]; omega
      have d3 : (p.drop i).length ≤ 12 := by rw [List.length_drop]; omega
      have t1 : (p.take i).length ≤ 12 := by rw [List.length_take]; omega
      have sz : ∀ {x y : List Nat}, x.length + y.length ≤ 100 → (txt x).length + (txt y).length ≤ sizeLine := fun {x y} h => by rw [txt_len, txt_len, sizeLine_eq]; omega
      refine ⟨_, rfl, _, rfl, ?_⟩
      refine ⟨_, rfl, _, rfl, _, rfl, txt p, rfl, sl p (by omega), txt (p.take i), txt [42], by rw [c1], rfl, sz (by show _ + 1 ≤ 100; omega), _, rfl, txt (p.take i ++ [42]), txt (p.drop (i + r)), by rw [txt_app], rfl, sz (by rw [List.length_append]; show _ + 1 + _ ≤ 100; omega), ?_⟩
      refine ⟨_, rfl, _, rfl, _, rfl, txt p, rfl, sl p (by omega), txt (p.take i), txt [63], by rw [c1], rfl, sz (by show _ + 1 ≤ 100; omega), _, rfl, _, rfl, _, _, rfl, rfl, _, rfl, txt p, rfl, sl p (by omega), txt (p.take i ++ [63]), txt (p.drop (i + 1)), by rw [txt_app], by rw [show ((i : Nat) : Int) + 1 = ((i + 1 : Nat) : Int) by omega, c3], sz (by rw [List.length_append]; show _ + 1 + _ ≤ 100; omega), ?_⟩
      refine ⟨_, rfl, _, rfl, _, rfl, txt p, rfl, sl p (by omega), txt [42], txt (p.drop i), rfl, by rw [c2], sz (by show 1 + _ ≤ 100; omega), ?_⟩
      refine ⟨_, rfl, txt p, txt [42], rfl, rfl, sz (by show _ + 1 ≤ 100; omega), ?_⟩
      refine ⟨by show 7 ≤ sizeLine; decide, fun L nL => ⟨L, rfl, k4.new2 nL, ?_⟩⟩
      rw [upd_same]
      unfold nearL
      simp only [txt_app, List.map_cons, List.map_nil]
      rfl
    rintro σ5 H5 ⟨L, rfl, k5, eL⟩
    have pOk : pathOk p := ⟨pne, p12, pin⟩
    have okN := near_ok (l := l) (p := p) (i := i) (r := r) ⟨l0, lm⟩ ⟨pne, fun d hd => .inl (pin d hd)⟩
    have szN := near_size (l := l) (p := p) (i := i) (r := r) l12 p12
    refine ⟨fun σ' H' => ∃ a3 a4 a5 a6 a7 a8 a9 a10, σ' = [some (.ref pd), some (.ref t), some (.str (txt p)), a3, a4, a5, a6, a7, a8, a9, a10] ∧ Keep pd H H', ?_, ?_⟩
    · refine ⟨_, rfl, L, rfl, ⟨_, .of eL⟩, fun D nD => lc_list (xs := (nearL l p i r).map fun x => V.str (txt x)) (fun m H' => Same H5 H' ∧ H' D = some (.lst (((nearL l p i r).take m).map fun x => V.str (txt (x.take 12))))) ⟨same_upd nD, upd_same⟩ (fun m H' hm hP => .of (hP.1 _ _ eL)) (fun m x H' hx hP => ?_) (fun H' hP => ?_)⟩
      · obtain ⟨s6, e6⟩ := hP
        rw [List.getElem?_map] at hx
        obtain ⟨X, hX, rfl⟩ := Option.map_eq_some_iff.mp hx
        have hXs := szN X (List.mem_of_getElem? hX)
        refine ⟨rfl, _, rfl, _, rfl, txt X, rfl, small_txt (by omega), _, e6, by rw [List.length_map]; exact small1000 (by rw [List.length_take]; show min m 7 ≤ 1000; omega), fun y o u => by rw [upd_ne (ne_of_none u nD)]; exact s6 _ _ u, ?_⟩
        rw [upd_same, List.take_add_one, hX, List.map_append]
        show some (HO.lst (_ ++ [V.str (cutS (txt X) none (some 12))])) = _
        rw [show cutS (txt X) none (some 12) = txt (X.take 12) from cut_to X 12]
        rfl
      obtain ⟨s6, e6⟩ := hP
      rw [List.take_of_length_le (by rw [List.length_map]; exact Nat.le_refl _)] at e6
      have k6 := k5.same s6
      have nDp : D ≠ pd := by
        obtain ⟨_, _, _, e⟩ := k5.2
        exact (ne_of_none e nD).symm
      refine ⟨D, rfl, ⟨_, .of e6⟩, for_list (xs := (nearL l p i r).map fun x => V.str (txt (x.take 12))) (fun m σ' H'' => ∃ a7 a8, σ' = [some (.ref pd), some (.ref t), some (.str (txt p)), some (.str (txt l)), some (.int (i : Nat)), some (.str (txt (p.drop (i + r)))), some (.ref L), a7, a8, none, none] ∧ Same H' H'') ⟨none, none, rfl, Same.refl _⟩ (fun m σ' H'' hm hP => ?_) (fun m x σ' H'' hx hP => ?_) (fun σ' H'' hP => ?_)⟩
      · obtain ⟨_, _, _, s7⟩ := hP
        exact .of (s7 _ _ e6)
      · obtain ⟨a7, a8, rfl, s7⟩ := hP
        rw [List.getElem?_map] at hx
        obtain ⟨X, hX, rfl⟩ := Option.map_eq_some_iff.mp hx
        have hO := okN X (List.mem_of_getElem? hX)
        generalize X.take 12 = o at hO
        have o12 := hO.2.1
        refine ⟨_, rfl, _, rfl, o, p, rfl, hO, pOk, fun H8 s8 => ⟨_, rfl, _, rfl, _, rfl, txt o, txt p, rfl, by rw [txt_len]; omega, by rw [txt_len]; omega, fun H9 s9 => ?_⟩⟩
        rw [txt_codes, txt_codes]
        refine ⟨_, rfl, rfl, _, rfl, ite2 (fun e => absurd e (by simp)) (fun _ => ?_)⟩
        refine ⟨_, rfl, [42], p, rfl, ⟨by simp, by show 1 ≤ 12; decide, fun d hd => .inr (.inl (List.mem_singleton.mp hd))⟩, pOk, fun H10 s10 => ⟨true, by rw [star_fits], ite2 (fun e => by cases e) (fun _ => ?_)⟩⟩
        refine ⟨_, rfl, txt o, rfl, by rw [txt_len]; show _ + (_ + 1) * 2 ≤ _; omega, ?_⟩
        rw [replace_wide]
        have s11 := ((s7.trans s8).trans s9).trans s10
        refine ⟨_, rfl, _, (wide o).length, rfl, ⟨small_txt (by have := (wide_len o).1; omega), by rw [txt_len]⟩, _, _, rfl, rfl, _, rfl, ite2 (fun e => ?_) (fun e => ⟨_, _, rfl, s11⟩)⟩
        have w12 : (wide o).length ≤ 12 := by
          have z := of_decide_eq_true e
          omega
        refine ⟨_, rfl, _, rfl, wide o, p, rfl, ⟨(wide_len o).2 hO.1, w12, fun d hd => hO.2.2 d (wide_mem hd)⟩, pOk, fun H12 s12 => ⟨_, rfl, _, rfl, o, p, rfl, hO, pOk, fun H13 s13 => ⟨rfl, _, rfl, ?_⟩⟩⟩
        rw [fitsL_wide]
        exact ite2 (fun e => absurd e (by simp)) (fun _ => ⟨_, _, rfl, (s11.trans s12).trans s13⟩)
      · obtain ⟨a7, a8, rfl, s7⟩ := hP
        exact ⟨_, _, _, _, _, _, _, _, rfl, k6.same s7⟩
    rintro σ6 H6 ⟨a3, a4, a5, a6, a7, a8, a9, a10, rfl, k6⟩
    have ln : ∀ H, LenV K (.str (txt p)) H p.length := fun H => ⟨small_txt (by omega), by rw [txt_len]⟩
    refine ⟨_, rfl, _, p.length, rfl, ln _, ("?" : Str), (p.length : Nat), rfl, rfl, by omega, by omega, by show 1 ≤ 1000; decide, _, rfl, List.replicate p.length 63, p, by rw [rep_mark]; rfl, patOk_marks p0 p12, pOk, fun H7 s7 => ⟨true, by rw [marks_fit], ite2 (fun _ => ?_) (fun e => absurd rfl e)⟩⟩
    have hm1 : (p.length : Int) % 12 + 1 = ((p.length % 12 + 1 : Nat) : Int) := by omega
    refine ⟨_, rfl, _, p.length, rfl, ln _, _, _, rfl, rfl, (by show (0 : Int) < 12; decide), _, _, rfl, rfl, ("?" : Str), (p.length : Int) % 12 + 1, rfl, rfl, by omega, by omega, by show 1 ≤ 1000; decide, _, rfl, List.replicate (p.length % 12 + 1) 63, p, by rw [hm1, rep_mark]; rfl, patOk_marks (by omega) (by omega), pOk, fun H8 s8 => ⟨false, by rw [marks_miss (by omega)], ?_⟩⟩
    exact q H8 ((k6.same s7).same s8)
end
end K0
end
/-! ### E0 -/
section
set_option Elab.async false
set_option linter.all false
set_option maxRecDepth 100000
set_option maxHeartbeats 4000000
/-! except (A, B, ..): how a tuple of any length is matched. -/
namespace K0
open PySem PySem.Spec PyProof.Rows PySem.W
section
variable {M : Model} {A : Around} {E : Value → Shared → Prop} {s : Shared}
theorem loopY {β : Type} {f : Value → β → Sem (ForInStep β)} {b : β} {Q : β → Shared → Prop} : ∀ (cs : List Value), (∀ c ∈ cs, ∀ Q' : ForInStep β → Shared → Prop, Q' (.yield b) s → wpAny M A (f c b) Q' E s) → Q b s → wpAny M A (forIn cs b f) Q E s
  | [], _, q => by
    rw [List.forIn_nil]
    exact wpAny_pure q
  | c :: cs, h, q => by
    rw [List.forIn_cons]
    exact wpAny_bind (h c List.mem_cons_self _ (loopY cs (fun d hd => h d (List.mem_cons_of_mem _ hd)) q))
theorem loopR {β : Type} {f : Value → β → Sem (ForInStep β)} {b dv : β} {Q : β → Shared → Prop} : ∀ (cs : List Value) (bs : List Bool), Paired (fun c i => ∀ Q' : ForInStep β → Shared → Prop, Q' (if i = true then .done dv else .yield b) s → wpAny M A (f c b) Q' E s) cs bs →
    Q (if bs.any id = true then dv else b) s → wpAny M A (forIn cs b f) Q E s
  | [], _, h, q => by
    cases h
    rw [List.forIn_nil]
    exact wpAny_pure q
  | c :: cs, i :: bs, .cons h t, q => by
    rw [List.forIn_cons]
    refine wpAny_bind (h _ ?_)
    cases i with
    | true =>
      rw [if_pos rfl]
      exact wpAny_pure (by simpa using q)
    | false =>
      rw [if_neg Bool.false_ne_true]
      exact loopR cs bs t (by simpa using q)
end
def anyB : List (Option Bool) → Option Bool
  | [] => some false
  | some b :: r => (anyB r).map (b || ·)
  | none :: _ => none
theorem exmAny_bs {K : Frag} {cls : Value} : ∀ {cs : List Value} {b : Bool}, exmAny K cls cs = some b → ∃ bs : List Bool, Paired (fun c i => exmOne K cls c = some i) cs bs ∧ bs.any id = b
  | [], b, h => ⟨[], .nil, by cases h; rfl⟩
  | c :: cs, b, h => by
    obtain ⟨b1, d1, h1, h2, rfl⟩ := exmAny_cons h
    obtain ⟨bs, p, q⟩ := exmAny_bs h2
    exact ⟨b1 :: bs, .cons h1 p, by rw [List.any_cons, q]; rfl⟩
theorem paired_mem {α β : Type} {F : α → β → Prop} : ∀ {l : List α} {m : List β}, Paired F l m → ∀ x ∈ l, ∃ y, F x y
  | _, _, .nil, _, h => nomatch h
  | _, _, .cons r t, x, h => by
    rcases List.mem_cons.mp h with rfl | h
    · exact ⟨_, r⟩
    · exact paired_mem t x h
theorem paired_map {α β : Type} {F G : α → β → Prop} : ∀ {l : List α} {m : List β}, Paired F l m → (∀ a b, F a b → G a b) → Paired G l m
  | _, _, .nil, _ => .nil
  | _, _, .cons r t, f => .cons (f _ _ r) (paired_map t f)
theorem exm_any {M : Model} {K : Frag} {cs : List Value} {cls : Value} {tp e : Addr} {b : Bool} {h : Heap} (X : K.In h) (LT : Looks M h (typeOf (.ref e)) cls) (hp : h.get? tp = some { cls := .type "tuple", data := .seq cs.toArray }) (hx : exmAny K cls cs = some b) :
    Looks M h (excMatches (.ref e) (.ref tp)) b := by
  intro A Q E s k₀ q
  obtain ⟨hh, g, d, tk, os⟩ := s
  have k : ∀ b o, h.get? b = some o → hh.get? b = some o := k₀
  have LT0 : Looks M h (isInstance (.ref tp) (.type "tuple")) true := ((Looks.ld hp).andThen .now).andThen (Looks.of_pure isSubtype_tuple_tuple)
  obtain ⟨bs, pr, eb⟩ := exmAny_bs hx
  have hp' := k _ _ hp
  unfold excMatches
  refine wpAny_bind ((LT0.keeps k).at ?_)
  dsimp only
  rw [if_pos rfl]
  first
    | refine wpAny_bind (wpAny_seqItems hp' rfl ?_)
    | refine wpAny_bind (wpAny_bind (wpAny_seqItems hp' rfl (wpAny_pure ?_)))
  dsimp only [Option.getD_some, Option.getD]
  refine wpAny_bind (wpAny_pure ?_)
  refine wpAny_bind (loopY _ (fun c hc Q' q' => ?_) ?_)
  · obtain ⟨i, hi⟩ := paired_mem pr c hc
    obtain ⟨e1, _⟩ := exm_cls (M := M) X hi
    refine wpAny_bind ((e1.keeps k).at ?_)
    simp only [Bool.not_true, Bool.false_eq_true, if_false]
    exact wpAny_pure q'
  · refine wpAny_bind ((LT.keeps k).at ?_)
    refine wpAny_bind (loopR (dv := (some true, ())) cs bs (paired_map pr fun c i hi Q' q' => ?_) ?_)
    · obtain ⟨_, e2⟩ := exm_cls (M := M) X hi
      refine wpAny_bind ((e2.keeps k).at ?_)
      cases i with
      | true => simp only [if_true] at q' ⊢; exact wpAny_pure q'
      | false => simp only [Bool.false_eq_true, if_false] at q' ⊢; exact wpAny_pure q'
    · rw [eb]
      cases b with
      | true => simp only [if_true]; exact wpAny_pure q
      | false => simp only [Bool.false_eq_true, if_false]; exact wpAny_pure q
end K0
end
/-! ### E1 -/
section
set_option Elab.async false
set_option linter.all false
set_option maxRecDepth 100000
set_option maxHeartbeats 4000000
/-! try with several clauses; a clause names a class or a tuple of classes, and may name the exception. -/
namespace K0
open PySem PySem.Spec PyProof.Rows L2
theorem flying_push {B h : Heap} {l : List Env} {a : Addr} {Z : Obj → Prop} {o : Obj} (x : HandSPX.FlyingZ B l a Z h) : HandSPX.FlyingZ B l a Z (h.push o) := by
  have k : ∀ b u, h.get? b = some u → (h.push o).get? b = some u := fun b u e => Heap.get?_push_of_some _ e
  obtain ⟨x1, x2, x3, oe, vs, T, oT, ts, y1, y2, y3, y4, y5, y6, y7, y8, y9⟩ := x
  exact ⟨fun b u e => k b u (x1 b u e), x2, Heap.FunFrames.of_keeps (fun b u e _ => ⟨u, k b u e, rfl⟩) x3, oe, vs, T, oT, ts, k _ _ y1, y2, y3, y4, y5, y6, k _ _ y7, y8, y9⟩
inductive NamesAll (X : Cx) : List Expr → List Value → Prop
  | nil : NamesAll X [] []
  | cons {x : Str} {np : Pos} {c : Value} {es : List Expr} {cs : List Value} : Names X x c → NamesAll X es cs → NamesAll X (.Name x np :: es) (c :: cs)
/-- the test of a clause -/
inductive Cls (X : Cx) : Expr → List Value → Prop
  | one {x : Str} {np : Pos} {c : Value} : Names X x c → Cls X (.Name x np) [c]
  | tup {es : List Expr} {cs : List Value} {k : Nat} {pos : Pos} : NamesAll X es cs → cs.length ≤ 1000 → Cls X (.Tuple es k pos) cs
structure HC where
  cs : List Value
  slot : Option Nat
  ts : Addr → Value → Option Addr → TS
def endsW (D : Ends) : Option Nat → Ends
  | none => D
  | some i => { nx := fun σ' H' => D.nx (σ'.set i none) H', rt := D.rt, bk := fun σ' H' => D.bk (σ'.set i none) H', ct := fun σ' H' => D.ct (σ'.set i none) H' }
def slotW (σ : L2.St) (a : Addr) : Option Nat → L2.St
  | none => σ
  | some i => σ.set i (some (.ref a))
def wAny (K : PySem.W.Frag) (Wout : WX) (D : Ends) : List HC → WX
  | [] => Wout
  | c :: r => fun cls d σ H => ∃ b, PySem.W.exmAny K cls c.cs = some b ∧ (b = true → ∀ a, H a = none → c.ts a cls d (endsW D c.slot) (slotW σ a c.slot) H) ∧ (b = false → wAny K Wout D r cls d σ H)
inductive Hds (X : Cx) : List ExceptHandler → List HC → Prop
  | nil : Hds X [] []
  | cons {t : Expr} {cs : List Value} {nm : Option Str} {sl : Option Nat} {ts : Addr → Value → Option Addr → TS} {b₀ : Stmt} {suite : List Stmt} {pos' : Pos} {hds : List ExceptHandler} {l : List HC} (ht : Cls X t cs)
      (hn : (nm = none ∧ sl = none) ∨ ∃ n i, nm = some n ∧ sl = some i ∧ X.N[i]? = some n ∧ X.env.kindOf n = some .local)
      (hs : ∀ (a : Addr) (oe : Obj) (cls : Value) (d : Option Addr) (pn : List (Addr × Obj)), Zc cls d oe → (∃ vs, oe.data = .fields vs) → PSs (X.suite a ((a, oe) :: pn)) (b₀ :: suite) (ts a cls d)) (r : Hds X hds l) :
      Hds X (.ExceptHandler (some t) nm (b₀ :: suite) pos' :: hds) (⟨cs, sl, ts⟩ :: l)
section
variable {X : Cx}
theorem names_run {pins : List (Addr × Obj)} {σ : L2.St} {H : Hp} {s : Shared} (I : Inv X pins σ H s) {pos : Pos} {E : Value → Shared → Prop} : ∀ {es : List Expr} {cs : List Value} {Q : List Value → Shared → Prop}, NamesAll X es cs → Q cs s → wpAny (model X.prog X.w) X.A (spliced (backTo pos (starEach es X.env))) Q E s
  | _, _, _, .nil, q => Calls.spliced_nil q
  | _, _, _, .cons (x := x) (np := np) (es := es) nm r, q => by
    show wpAny _ _ (spliced ((false, eval (.Name x np) X.env) :: backTo pos (starEach es X.env))) _ _ s
    refine Calls.spliced_cons ?_
    obtain ⟨g, db, z | ⟨z, bv, nn⟩⟩ := nm
    · exact ld_glob I g z (names_run I r q) db
    · exact ld_blt I g z bv (names_run I r q) nn db
/-- a clause's test: it leaves the heap but for a tuple -/
theorem cls_run {pins : List (Addr × Obj)} {σ : L2.St} {H : Hp} {s : Shared} (I : Inv X pins σ H s) {cls : Value} {e : Addr} {cs : List Value} {t : Expr} {b : Bool} {Q : Bool → Shared → Prop} {E1 E2 : Value → Shared → Prop} (LT : PySem.W.Looks (model X.prog X.w) s.heap (typeOf (.ref e)) cls)
    (c : Cls X t cs) (hb : PySem.W.exmAny X.K cls cs = some b) (q1 : Q b s) (q2 : ∀ o, Q b { s with heap := s.heap.push o }) : wpAny (model X.prog X.w) X.A (eval t X.env) (fun v s₁ => wpAny (model X.prog X.w) X.A (excMatches (.ref e) v) Q E2 s₁) E1 s := by
  cases c with
  | one nm =>
    obtain ⟨b1, d1, h1, h2, rfl⟩ := PySem.W.exmAny_cons hb
    have h3 : some false = some d1 := h2
    cases h3
    have L := PySem.W.exm_one (M := model X.prog X.w) I.kIn LT h1
    rw [Bool.or_false] at q1
    obtain ⟨g, db, z | ⟨z, bv, nn⟩⟩ := nm
    · exact ld_glob I g z (L.here q1) db
    · exact ld_blt I g z bv (L.here q1) nn db
  | tup nms hl =>
    refine wpAny_Tuple_spliced (names_run I nms ⟨Nat.le_of_lt (small1000 hl), ?_⟩)
    obtain ⟨hp, g, d, tk, os⟩ := s
    have k : ∀ b u, hp.get? b = some u → (hp.push { cls := .type "tuple", data := .seq cs.toArray }).get? b = some u := fun b u z => Heap.get?_push_of_some _ z
    have L := exm_any (M := model X.prog X.w) (I.kIn.keeps k) (LT.keeps k) (Heap.get?_push_size hp rfl) hb
    exact L.here (q2 _)
variable {body : List Stmt} {h₀ : ExceptHandler} {hds : List ExceptHandler} {l : List HC} {pos : Pos} {tb : WX → TS} {Wout : WX}
theorem ps_tryA (hs : X.stack = X.env :: X.outer) (hf : X.env.frame = some X.env.locals) (hN : X.N.Nodup) (tk : Takes X Wout)
    (hb : ∀ (W : WX) (pn : List (Addr × Obj)) (xe : Value → Shared → Prop), Takes (X.tr pn xe) W → PassesOwn (model X.prog X.w) X.A X.env xe → PSs (X.tr pn xe) body (tb W)) (hh : Hds X (h₀ :: hds) l) : PS X (.Try body (h₀ :: hds) [] [] pos) (fun D σ H => tb (wAny X.K Wout D l) D σ H) := by
  refine ⟨fun pins s σ H D I h => wpAny_Try_except ?_⟩
  have ok := I.ok
  have frames : X.A.frames = some (X.env :: X.outer) := by rw [ok.frames, hs]
  refine wpAny_mono ((hb (wAny X.K Wout D l) (X.pn ++ pins) _ (fun u s' air => ?_) PassesOwn.looking).run [] s σ H D (I.toTry _) h) (fun f s1 z => ?_) (fun e s1 z => z)
  · obtain ⟨a, B, sI, pins', σ', H', cls, d, rfl, J', gr, up, sky, na, os, ag, w⟩ := air
    have J : Inv X pins σ' H' sI := J'.ofTry ok
    have sky2 : Sky B (X.env :: X.outer) a (Zc cls d) X.env.locals s'.heap := by rw [← hs]; exact sky
    show wpAny _ _ (noteFrame (.ref a) X.env) _ _ _
    refine Sky.land Zc.steady frames hf sky2 fun h3 fl3 up3 => ?_
    have suiteAt : ∀ {h : Heap} {tk' : Nat}, HandSPX.FlyingZ B (X.env :: X.outer) a (Zc cls d) h → sI.heap.UpToSlots h → ∃ oe, (∃ vs, oe.data = .fields vs) ∧ Zc cls d oe ∧ h.get? a = some oe ∧ Inv (X.suite a ((a, oe) :: (X.pn ++ pins))) [] σ' H' { s' with heap := h } := by
      intro h tk' fl upS
      obtain ⟨oe, vs, e1, e2, e3⟩ := fl.there
      have nfr : a ∉ frs (X.env :: X.outer) := fun m => by
        obtain ⟨_, o, e4, nf⟩ := fl.2.2.1.mem m
        rw [e1] at e4
        cases e4
        exact nf vs e3
      have nL : a ≠ X.env.locals := fun z => nfr (List.mem_filterMap.mpr ⟨X.env, List.mem_cons_self, by rw [hf, z]⟩)
      have nF : a ∉ X.fs := fun m => (List.mem_filterMap.mp m).elim fun e z => nfr (List.mem_filterMap.mpr ⟨e, List.mem_cons_of_mem _ z.1, z.2⟩)
      exact ⟨oe, ⟨vs, e3⟩, e2, e1, (J.landed (s' := { s' with heap := h }) gr fl.1 upS os ag).suite e1 e3 na nL nF⟩
    have go : ∀ {hs2 : List ExceptHandler} {l2 : List HC}, Hds X hs2 l2 → wAny X.K Wout D l2 cls d σ' H' → ∀ h, HandSPX.FlyingZ B (X.env :: X.outer) a (Zc cls d) h → sI.heap.UpToSlots h → wpAny (model X.prog X.w) X.A (handleBy (.ref a) X.env hs2) (SP X pins D) X.xe { s' with heap := h } := by
      intro hs2 l2 hk
      induction hk with
      | nil =>
        intro w h fl upS
        refine wpAny_handleBy_nil ?_
        obtain ⟨k1, k2, k3, oe, vs, T, oT, ts', he, hz, hd, h1, hr⟩ := id fl
        unfold PySem.passOn
        refine wpAny_bind (wpAny_field he hd h1 ?_)
        rw [if_neg (show ¬ ((Value.ref T == Value.none) = true) by simp)]
        have out : wpAny (model X.prog X.w) X.A (setFlight (.ref a) X.env.frame) (fun _ s4 => wpAny (model X.prog X.w) X.A (throw (.ref a) : Sem Flow) (SP X pins D) X.xe s4) X.xe { s' with heap := h } := by
          rw [hf]
          exact HandSPX.setFlight_upZ fl fun h4 hh4 up4 => wpAny_throw (tk _ _ ⟨a, B, sI, pins, σ', H', cls, d, rfl, J, gr, upS.trans up4, .inr (.inr (by rw [hs]; exact hh4)), na, os, ag, w⟩)
        first
          | exact wpAny_bind (wpAny_pure (wpAny_bind out))
          | exact wpAny_bind out
      | @cons t cs nm sl ts b₀ suite pos' hds2 l3 ht hn hsu r ih =>
        intro w h fl upS
        obtain ⟨b, hb1, yes, no⟩ := w
        obtain ⟨oe, hfl, hz, he, S⟩ := suiteAt (tk' := 0) fl upS
        have LT : PySem.W.Looks (model X.prog X.w) h (typeOf (.ref a)) cls := fun A Q E s k q => wpAny_typeOf_ref (k _ _ he) (by rw [hz.1]; exact q)
        have htS : Cls (X.suite a ((a, oe) :: (X.pn ++ pins))) t cs := by
          have nmS : ∀ {es : List Expr} {cs : List Value}, NamesAll X es cs → NamesAll (X.suite a ((a, oe) :: (X.pn ++ pins))) es cs := by
            intro es cs z
            induction z with
            | nil => exact .nil
            | cons n r ih => exact .cons n ih
          cases ht with
          | one n => exact .one n
          | tup n z => exact .tup (nmS n) z
        refine wpAny_handleBy_cons (codeAny_handlers_test ?_) (by intro q; cases q)
        have next : ∀ h2, HandSPX.FlyingZ B (X.env :: X.outer) a (Zc cls d) h2 → sI.heap.UpToSlots h2 →
            (match (Except.ok (if b then Flow.brk else Flow.next) : Result) with
              | .ok .brk => codeAny (model X.prog X.w) (X.A.mark (some (.ref a))) (.handlers (.ref a) [.ExceptHandler none nm (b₀ :: suite) pos'] X.env) (fun r s₂ => match (generalizing := false) r with
                  | .ok f => (match (generalizing := false) nm with
                    | none => SP X pins D f s₂
                    | some n => wpAny (model X.prog X.w) X.A (do bindName X.env n .none; unbindBehindTheSuite X.env n pos') (fun _ s₃ => SP X pins D f s₃) X.xe s₂)
                  | .error x => cameBackBy (model X.prog X.w) X.A X.env X.xe x s₂) { s' with heap := h2 }
              | .ok _ => wpAny (model X.prog X.w) X.A (handleBy (.ref a) X.env hds2) (SP X pins D) X.xe { s' with heap := h2 }
              | .error x => cameBackBy (model X.prog X.w) X.A X.env X.xe x { s' with heap := h2 }) := by
          intro h2 fl2 up2
          cases b with
          | false => exact ih (no rfl) h2 fl2 up2
          | true =>
            rcases hn with ⟨rfl, rfl⟩ | ⟨n, i, rfl, rfl, hi, hl⟩
            · refine codeAny_handlers_suite (HandSPX.lands_againZ fl2 fun h4 fl4 up4 => ?_)
              obtain ⟨oe4, f4, z4, e4, S4⟩ := suiteAt (tk' := 0) fl4 (up2.trans up4)
              refine wpAny_mono ((hsu a oe4 cls d (X.pn ++ pins) z4 f4).run [] _ _ H' _ S4 (yes rfl a na)) (fun f s6 z => ?_) (fun _ _ z => z.elim)
              cases f with
              | next => exact z.elim fun σ6 z => z.elim fun H6 z => ⟨σ6, H6, z.1.unsuite ok, z.2⟩
              | brk => exact z.elim fun σ6 z => z.elim fun H6 z => ⟨σ6, H6, z.1.unsuite ok, z.2⟩
              | cont => exact z.elim fun σ6 z => z.elim fun H6 z => ⟨σ6, H6, z.1.unsuite ok, z.2⟩
              | ret u => obtain ⟨v6, σ6, H6, S6, r6, q6⟩ := z; exact ⟨v6, σ6, H6, S6.unsuite ok, r6, q6⟩
            · refine codeAny_handlers_suite_as (HandSPX.lands_againZ fl2 fun h4 fl4 up4 => ?_)
              obtain ⟨oe4, f4, z4, e4, S4⟩ := suiteAt (tk' := 0) fl4 (up2.trans up4)
              refine store_ok (X := X.suite a ((a, oe4) :: (X.pn ++ pins))) (v := .ref a) S4 hN hi (.inl hl) rfl (fun s5 S5 => ?_) (.inr hl)
              refine wpAny_mono ((hsu a oe4 cls d (X.pn ++ pins) z4 f4).run [] s5 _ H' _ S5 (yes rfl a na)) (fun f s6 z => ?_) (fun _ _ z => z.elim)
              cases f with
              | next => obtain ⟨σ6, H6, S6, q6⟩ := z; exact gone_ok (S6.unsuite ok) hN hi hl fun s7 J7 => ⟨_, _, J7, q6⟩
              | brk => obtain ⟨σ6, H6, S6, q6⟩ := z; exact gone_ok (S6.unsuite ok) hN hi hl fun s7 J7 => ⟨_, _, J7, q6⟩
              | cont => obtain ⟨σ6, H6, S6, q6⟩ := z; exact gone_ok (S6.unsuite ok) hN hi hl fun s7 J7 => ⟨_, _, J7, q6⟩
              | ret u => obtain ⟨v6, σ6, H6, S6, r6, q6⟩ := z; exact gone_ok (S6.unsuite ok) hN hi hl fun s7 J7 => ⟨_, _, _, J7, r6, q6⟩
        exact cls_run S LT htS hb1 (next h fl upS) fun o => next _ (flying_push fl) (upS.trans (Heap.UpToSlots.of_keeps fun b u z => Heap.get?_push_of_some _ z))
    exact go hh w h3 fl3 (up.trans up3)
  · cases f with
    | next => exact z.elim fun σ' z => z.elim fun H' z => wpAny_execs_nil ⟨σ', H', z.1.ofTry ok, z.2⟩
    | brk => exact z.elim fun σ' z => z.elim fun H' z => ⟨σ', H', z.1.ofTry ok, z.2⟩
    | cont => exact z.elim fun σ' z => z.elim fun H' z => ⟨σ', H', z.1.ofTry ok, z.2⟩
    | ret u => obtain ⟨v, σ', H', J', r, q⟩ := z; exact ⟨v, σ', H', J'.ofTry ok, r, q⟩
end
end K0
end
/-! ### L7 -/
section
set_option Elab.async false
set_option linter.all false
set_option maxRecDepth 100000
set_option maxHeartbeats 4000000
/-! _law_word_of: the word for what a lambda raises. -/
namespace K0
open PySem PySem.Spec PyProof.Rows L2 Pat LamX
theorem scWordOf : FnScope ["call"] ["call"] (defScope (top iWordOf)) := ⟨rfl, rfl, rfl, by decide +kernel, rfl, by decide +kernel, by decide +kernel⟩
/-- what the def makes of the lambda's reading -/
def TTw (K : PySem.W.Frag) (CT : Addr) : (XK → Hp → VK → Prop) → Hp → VK → Prop := fun tl H Q =>
  tl (fun cls _ H' => PySem.W.exmOne K cls (.ref CT) = some true ∧ Q (.str "text") H') H fun _ H' => Q (.str "fine") H'
def tsWord (z : Str) : Addr → Value → Option Addr → TS := fun _ _ _ D σ H => D.rt (.str z) H
theorem word_gives {X : Cx} {q : Str} {g CT CD : Addr} {cdg : Value} (mT : X.mg "InvalidText" = some (.ref CT)) (mD : X.mg "DressError" = some (.ref CD)) :
    GivesTo X ["call"] "_law_word_of" (defScope (top iWordOf)) g cdg (defBody (top iWordOf)) "call" q (TTw X.K CT) := by
  intro f c' s H Q tl act hc h
  refine ⟨_, pss_cons (ps_tryA (X := (cxOf C8.CX0 X.prog X.w X.K X.mg X.base ["call"] "_law_word_of" (defScope (top iWordOf)) g cdg X.A X.stack s H C8.E0).nox) (Wout := fun _ _ _ _ => False)
      (tb := fun W D σ H => ∃ Ech : XK, (∀ cls d σ' H', Ech cls d H' → W cls d σ' H') ∧ σ[0]? = some (some (.ref f)) ∧ H c' = some (CodeO c' q) ∧ tl Ech H fun _ H' => D.nx σ H')
      (l := [⟨[.ref CT], none, tsWord "text"⟩, ⟨[.ref CD], none, tsWord "other"⟩]) rfl rfl scWordOf.nd L2.takes0 (fun W pn xe tk _ => ?_)
      (.cons (.one ⟨rfl, by decide, .inl mT⟩) (.inl ⟨rfl, rfl⟩) (fun a oe cls d pn _ _ => pss_one (ps_ret pe_str)) (.cons (.one ⟨rfl, by decide, .inl mD⟩) (.inl ⟨rfl, rfl⟩) (fun a oe cls d pn _ _ => pss_one (ps_ret pe_str)) .nil)))
    (pss_one (ps_ret pe_str)), ?_⟩
  · refine ⟨fun pins s' σ H' D I z => ?_⟩
    obtain ⟨Ech, hW, h1, h2, h3⟩ := z
    have hp := fun p1 p2 => act W pn xe Ech p1 p2 tk hW
    exact (pss_one (ps_expr (hp _ _))).run pins s' σ H' D I ⟨h1, h2, h3⟩
  · refine ⟨_, fun cls d σ' H' z => ⟨true, ?_, fun _ a na => z.2, fun e => by cases e⟩, rfl, hc, h⟩
    have e := z.1
    show (match PySem.W.exmOne X.K cls (.ref CT), (some false : Option Bool) with | some b, some d => some (b || d) | _, _ => none) = some true
    rw [e]
    rfl
end K0
end
/-! ### L8 -/
section
set_option Elab.async false
set_option linter.all false
set_option maxRecDepth 100000
set_option maxHeartbeats 4000000
/-! _law_odd_right: values that are no paths and no patterns. -/
namespace K0
open PySem PySem.Spec PyProof.Rows L2 Pat LamX
def isPathD : PyData → Bool
  | .str z => sgAll z && (decide (1 ≤ z.length) && decide (z.length ≤ 12))
  | _ => false
def okChB (c : Nat) : Bool := allSigns.cps.contains c || (c == 42 || c == 63)
def isPatD : PyData → Bool
  | .str z => decide (1 ≤ z.length) && (decide (z.length ≤ 12) && z.cps.toList.all okChB)
  | _ => false
/-- fits of what is no pattern, or no path: InvalidText, the class at CT -/
def spFitsX (K : PySem.W.Frag) (CT : Addr) : Sp := fun vs H _ E => ∃ (v u : V) (d e : PyData), vs = [v, u] ∧ Dv K H v d ∧ Dv K H u e ∧ d.bulk ≤ 100000 ∧ e.bulk ≤ 100000 ∧ (isPatD d = false ∨ isPathD e = false) ∧ ∀ H', Same H H' → E (.ref CT) none H'
def odds : List PyData := [.none, .bool true, .int 0, .int (10 ^ Int.toNat 40), .tuple [], .list [.str "a"], .dict [], .tuple [.str "a"], .str "", .str (rep "a" 13), .str "A", .str "a b", .str "-", .str "a\n", .str "z"]
def paths4 : List PyData := [.str "a", .str "#", .str (rep "a" 12), .str "_:$"]
def pats4 : List PyData := [.str "*", .str (rep "?" 12), .str "a*", .str "#"]
def oddB (d : PyData) : Bool := !isPathD d && (!isPatD d && decide (d.bulk ≤ 100000))
def pathB (d : PyData) : Bool := isPathD d && (isPatD d && (decide (d.bulk ≤ 100000) && isStrD d))
def patB (d : PyData) : Bool := isPatD d && (decide (d.bulk ≤ 100000) && isStrD d)
theorem odds_ok : odds.all oddB = true := by decide +kernel
theorem paths_ok : paths4.all pathB = true := by decide +kernel
theorem pats_ok : pats4.all patB = true := by decide +kernel
theorem oddB_ok {d : PyData} (h : oddB d = true) : isPathD d = false ∧ isPatD d = false ∧ d.bulk ≤ 100000 := by
  obtain ⟨h1, h⟩ := Bool.and_eq_true_iff.mp h
  obtain ⟨h2, h3⟩ := Bool.and_eq_true_iff.mp h
  exact ⟨by simpa using h1, by simpa using h2, of_decide_eq_true h3⟩
theorem pathB_ok {d : PyData} (h : pathB d = true) : isPathD d = true ∧ isPatD d = true ∧ d.bulk ≤ 100000 ∧ isStrD d = true := by
  obtain ⟨h1, h⟩ := Bool.and_eq_true_iff.mp h
  obtain ⟨h2, h⟩ := Bool.and_eq_true_iff.mp h
  obtain ⟨h3, h4⟩ := Bool.and_eq_true_iff.mp h
  exact ⟨h1, h2, of_decide_eq_true h3, h4⟩
theorem patB_ok {d : PyData} (h : patB d = true) : isPatD d = true ∧ d.bulk ≤ 100000 ∧ isStrD d = true := by
  obtain ⟨h1, h⟩ := Bool.and_eq_true_iff.mp h
  obtain ⟨h2, h3⟩ := Bool.and_eq_true_iff.mp h
  exact ⟨h1, of_decide_eq_true h2, h3⟩
/-- a list of data drawn from, beside the dice -/
theorem keep_of {p : Addr} {H H' : Hp} (e : Same H H') (a b c : Int) : Keep p H (upd H' p (dk a b c)) := ⟨fun d o n z => by rw [upd_ne n]; exact e _ _ z, a, b, c, upd_same⟩
theorem rd_lst {K : PySem.W.Frag} {p : Addr} {σ : L2.St} {H : Hp} {Q : VK} {ta : TA} {ds : List PyData} (ev : EvN K p σ ta ds) (D0 : Dice p H) (hl : ds.length ≤ 1000) (k : ∀ xs H1 l, Same H H1 → DvAll K (hid p H1) xs ds → H1 l = none → Q (.ref l) (upd H1 l (.lst xs))) : tLst ta σ H Q :=
  ev H _ D0 fun xs H1 e1 v1 => ⟨by rw [v1.length]; exact Nat.le_of_lt (small1000 hl), fun l n => k xs H1 l e1 v1 n⟩
/-- one of drawn data -/
theorem rd_draw {K : PySem.W.Frag} {p : Addr} {σ : L2.St} {H : Hp} {Q : VK} {ta : TA} {ds : List PyData} (ev : EvN K p σ ta ds) (D0 : Dice p H) (h0 : ds ≠ []) (hl : ds.length ≤ 1000) (k : ∀ x d H', Keep p H H' → Dv K (hid p H') x d → d ∈ ds → Q x H') :
    tLst ta σ H fun x H1 => ∃ (q : Addr) (a b c : Int) (v : V) (xs : List V), ([.ref p, x] : List V) = [.ref q, v] ∧ H1 q = some (dk a b c) ∧ Its K H1 v xs ∧ xs ≠ [] ∧ xs.length ≤ sizeLine ∧ (∀ a' b' c', Its K (upd H1 q (dk a' b' c')) v xs) ∧ ∀ a' b' c' (i : Nat) x, xs[i]? = some x → Q x (upd H1 q (dk a' b' c')) := by
  refine rd_lst ev D0 hl fun xs H1 l s1 v1 n1 => ?_
  have s2 : Same H (upd H1 l (.lst xs)) := s1.trans (same_upd n1)
  obtain ⟨a, b, c, hp⟩ := D0.same s2
  have nl : l ≠ p := (D0.same s1).ne n1
  have ln := v1.length
  refine ⟨p, a, b, c, .ref l, xs, rfl, hp, .inl ⟨l, rfl, .inl (.of upd_same)⟩, fun z => ?_, by rw [ln]; exact Nat.le_of_lt (small1000 hl), fun a' b' c' => .inl ⟨l, rfl, .inl (.of (by rw [upd_ne nl, upd_same]))⟩, fun a' b' c' i x hx => ?_⟩
  · rw [z] at ln
    cases ds with
    | nil => exact h0 rfl
    | cons d ds => cases ln
  · obtain ⟨d, hd, hv⟩ := v1.get hx
    exact k x d _ (keep_of s2 a' b' c') (hv.same (hid_same fun y o n z => by rw [upd_ne n]; exact same_upd n1 _ _ z)) (List.mem_of_getElem? hd)
end K0
end
/-! ### P4 -/
section
set_option Elab.async false
set_option linter.all false
set_option maxRecDepth 100000
set_option maxHeartbeats 4000000
/-! is_path, is_path_pattern, check_path, fits. -/
namespace K0
open PySem PySem.Spec PyProof.Rows L2 Pat LamX
theorem scIsPath : FnScope ["value"] ["value"] (defScope (top iIsPath)) := ⟨rfl, rfl, rfl, by decide +kernel, rfl, by decide +kernel, by decide +kernel⟩
theorem scIsPat : FnScope ["value"] ["value"] (defScope (top iIsPat)) := ⟨rfl, rfl, rfl, by decide +kernel, rfl, by decide +kernel, by decide +kernel⟩
theorem scCheck : FnScope ["value"] ["value"] (defScope (top iCheck)) := ⟨rfl, rfl, rfl, by decide +kernel, rfl, by decide +kernel, by decide +kernel⟩
theorem scFits : FnScope ["pattern", "path", "fitting"] ["pattern", "path"] (defScope (top iFits)) := ⟨rfl, rfl, rfl, by decide +kernel, rfl, by decide +kernel, by decide +kernel⟩
def patSet : Str := allSigns ++ ("*" : Str) ++ ("?" : Str)
theorem patSet_mem (c : Nat) : patSet.cps.contains c = okChB c := by
  have e : patSet.cps = allSigns.cps ++ #[42, 63] := by decide +kernel
  rw [e]
  unfold okChB
  rw [Array.contains_eq_mem, Array.contains_eq_mem]
  rw [Bool.eq_iff_iff]
  simp [Array.mem_append]
def spCheck (K : PySem.W.Frag) : Sp := fun vs H Q _ => ∃ (v : V) (d : PyData), vs = [v] ∧ Dv K H v d ∧ d.bulk ≤ 100000 ∧ isPathD d = true ∧ ∀ H', Same H H' → Q .non H'
def spCheckX (K : PySem.W.Frag) (CT : Addr) : Sp := fun vs H Q E => ∃ (v : V) (d : PyData), vs = [v] ∧ Dv K H v d ∧ d.bulk ≤ 100000 ∧ (isPathD d = true → ∀ H', Same H H' → Q .non H') ∧ (isPathD d = false → ∀ H', Same H H' → E (.ref CT) none H')
/-- what the written part says of InvalidText -/
structure TxtK (K : PySem.W.Frag) (CT : Addr) : Prop where
  exc : PySem.W.excIn K CT He.veBase "ValueError.__new__" = true
  kp : PySem.W.keepIn K (.ref CT) = true
  sub : PySem.W.subIn K (.ref CT) (.type "BaseException") = some true
  ty : PySem.W.typeIn K (.ref CT) = some (.type "type")
section
variable {P : Program} {w : World} {K : PySem.W.Frag} {mg : Str → Option Value} {base : Heap} {f fT fP fC fI fO fN CF CT : Addr} {fd fdT fdP fdC fdO fdN : FuncData}
theorem ok_isPath {k : Nat} (F : FnP K "is_path" iIsPath f fd) (mlen : mg "len" = none) (mM : ∃ t, mg "MAX_PATH" = some (.int 12 t))
    (FT : FnOk P w K mg base CX0 (k + 1) fT fdT ["value"] (spD K isTextD)) (gT : mg "is_text" = some (.ref fT)) (kT : PySem.W.keepIn K (.ref fT) = true) (bT : Binds K fdT ["value"] []) :
    FnOk P w K mg base CX0 (k + 2) f fd ["value"] (spD K isPathD) := by
  refine F.ok scIsPath (fun vs H Q E h => ?_) (fun cdv A outer s H vs Q E hr h => ?_)
  · obtain ⟨v, d, rfl, _⟩ := h
    rfl
  · obtain ⟨v, d, rfl, hd, sz, q⟩ := h
    obtain ⟨tM, mM⟩ := mM
    refine ⟨_, PSs.nox (pss_one (ps_ret (pe_and (pe_call FT hr (by rfl) gT kT bT .nil pass0 (pa_cons (pv 0) pa_nil)) (pe_one (pe_chain op_le op_le pe_int (pe_callB call_len_str (by rfl) mlen PySem.boot_len (pa_cons (pv 0) pa_nil)) (pe_glob (v := .int 12) (by rfl) mM ⟨tM, rfl⟩)))))), ?_⟩
    refine ⟨_, rfl, v, d, rfl, hd, sz, fun H1 s1 => ⟨_, rfl, ite2 (fun e => ?_) (fun e => ?_)⟩⟩
    · cases d with
      | str z =>
        cases hd
        have sz : z.length ≤ 100000 := sz
        have e : sgAll z = true := e
        have q2 := q H1 s1
        have y : isPathD (.str z) = (decide (1 ≤ z.length) && decide (z.length ≤ 12)) := by
          show (sgAll z && (decide (1 ≤ z.length) && decide (z.length ≤ 12))) = _
          rw [e, Bool.true_and]
        rw [y] at q2
        refine ⟨_, rfl, z, rfl, Nat.le_of_lt (small5 sz), _, _, rfl, rfl, _, rfl, ite2 (fun e1 => ?_) (fun e1 => ?_)⟩
        · refine ⟨_, _, rfl, rfl, ?_⟩
          have h1 : 1 ≤ z.length := by
            have e1 := of_decide_eq_true e1
            omega
          rw [decide_eq_true h1, Bool.true_and] at q2
          have e2 : decide (((z.length : Nat) : Int) ≤ 12) = decide (z.length ≤ 12) := decide_eq_decide.mpr (by omega)
          show Q (.bl (decide (((z.length : Nat) : Int) ≤ 12))) H1
          rw [e2]
          exact q2
        · have h1 : ¬ 1 ≤ z.length := fun z1 => e1 (decide_eq_true (by omega))
          rw [decide_eq_false h1, Bool.false_and] at q2
          exact q2
      | _ => cases e
    · have q2 := q H1 s1
      have y : isPathD d = false := by
        cases d with
        | str z =>
          show (sgAll z && _) = false
          rw [show sgAll z = false from Bool.eq_false_iff.mpr e, Bool.false_and]
        | _ => rfl
      rw [y] at q2
      have e0 : isTextD d = false := Bool.eq_false_iff.mpr e
      exact q2
theorem ok_isPat {k : Nat} (F : FnP K "is_path_pattern" iIsPat f fd) (mlen : mg "len" = none) (misi : mg "isinstance" = none) (mstr : mg "str" = none) (mM : ∃ t, mg "MAX_PATH" = some (.int 12 t)) (mS : ∃ t, mg "SIGNS" = some (.str allSigns t)) (mT : ∃ t, mg "STAR" = some (.str "*" t)) (mA : ∃ t, mg "ANY" = some (.str "?" t)) :
    FnOk P w K mg base CX0 (k + 1) f fd ["value"] (spD K isPatD) := by
  refine F.ok scIsPat (fun vs H Q E h => ?_) (fun cdv A outer s H vs Q E hr h => ?_)
  · obtain ⟨v, d, rfl, _⟩ := h
    rfl
  · obtain ⟨v, d, rfl, hd, sz, q⟩ := h
    obtain ⟨tM, mM⟩ := mM
    obtain ⟨tS, mS⟩ := mS
    obtain ⟨tT, mT⟩ := mT
    obtain ⟨tA, mA⟩ := mA
    refine ⟨_, PSs.nox (pss_one (ps_ret (pe_and (pe_callB call_isi (by rfl) misi boot_isinstance (pa_cons (pv 0) (pa_cons (pe_bltn (v := .ty "str") (by rfl) mstr (by decide +kernel) rfl) pa_nil))) (pe_and (pe_chain op_le op_le pe_int (pe_callB call_len_str (by rfl) mlen PySem.boot_len (pa_cons (pv 0) pa_nil)) (pe_glob (v := .int 12) (by rfl) mM ⟨tM, rfl⟩))
      (pe_one (pe_cmpR op_eq (pe_bm PySem.F.plainAttrs_str PySem.F.slot_str_strip PySem.F.type_str_strip mt_stripChars (pv 0) (pa_cons (pe_op op_add_str (pe_op op_add_str (pe_glob (v := .str allSigns) (by rfl) mS ⟨tS, rfl⟩) (pe_glob (v := .str "*") (by rfl) mT ⟨tT, rfl⟩)) (pe_glob (v := .str "?") (by rfl) mA ⟨tA, rfl⟩)) pa_nil)) pe_str (nomark _))))))), ?_⟩
    have q2 := q H (Same.refl H)
    refine ⟨_, rfl, v, _, _, _, _, rfl, .ty _, hd.ty, kit_str d, _, rfl, ite2 (fun e => ?_) (fun e => ?_)⟩
    · obtain ⟨z, rfl, rfl⟩ := is_str hd e
      have sz : z.length ≤ 100000 := sz
      have y : isPatD (.str z) = (decide (1 ≤ z.length) && (decide (z.length ≤ 12) && z.cps.toList.all okChB)) := rfl
      rw [y] at q2
      have last : decide (V.str (Txt.stripChars z patSet) = V.str ("" : Str)) = z.cps.toList.all okChB := by
        have x := strip_len z patSet
        have e2 : z.cps.toList.all (fun c => patSet.cps.contains c) = z.cps.toList.all okChB := by
          congr 1
          funext c
          exact patSet_mem c
        rw [e2] at x
        by_cases u : (Txt.stripChars z patSet).length = 0
        · rw [decide_eq_true (by rw [str_nil.mpr u]), x.mp u]
        · rw [decide_eq_false (fun w => u (by injection w with w; exact str_nil.mp w))]
          exact (Bool.eq_false_iff.mpr fun w => u (x.mpr w)).symm
      refine ⟨_, rfl, z, rfl, Nat.le_of_lt (small5 sz), _, _, rfl, rfl, _, rfl, ite2 (fun e1 => ?_) (fun e1 => ?_)⟩
      · have h1 : 1 ≤ z.length := by
          have e1 := of_decide_eq_true e1
          omega
        rw [decide_eq_true h1, Bool.true_and] at q2
        refine ⟨_, _, rfl, rfl, _, rfl, ite2 (fun e3 => ?_) (fun e3 => ?_)⟩
        · have h3 : z.length ≤ 12 := by
            have e3 := of_decide_eq_true e3
            omega
          rw [decide_eq_true h3, Bool.true_and] at q2
          refine ⟨_, rfl, rfl, _, _, rfl, rfl, by decide +kernel, _, _, rfl, rfl, by decide +kernel, z, patSet, rfl, rfl, Nat.le_of_lt (small5 sz), rfl, ?_⟩
          rw [last]
          exact q2
        · have h3 : ¬ z.length ≤ 12 := fun z1 => e3 (decide_eq_true (by omega))
          rw [decide_eq_false h3, Bool.false_and] at q2
          exact q2
      · have h1 : ¬ 1 ≤ z.length := fun z1 => e1 (decide_eq_true (by omega))
        rw [decide_eq_false h1, Bool.false_and] at q2
        exact ⟨_, rfl, ite2 (fun z => by cases z) (fun _ => q2)⟩
    · have y : isPatD d = false := by
        cases d with
        | str z => exact absurd rfl e
        | _ => rfl
      rw [y] at q2
      have e0 : isStrD d = false := Bool.eq_false_iff.mpr e
      exact q2
end
end K0
end
/-! ### P5 -/
section
set_option Elab.async false
set_option linter.all false
set_option maxRecDepth 100000
set_option maxHeartbeats 4000000
/-! check_path, fits. -/
namespace K0
open PySem PySem.Spec PyProof.Rows L2 Pat StX
abbrev spFini2 (K : PySem.W.Frag) (CF : Addr) : Sp := fun vs H Q E => spFini K CF (vs ++ []) H Q E
theorem pat_d {l : List Nat} (h : patOk l) : isPatD (.str (txt l)) = true := by
  obtain ⟨ne, l12, mem⟩ := h
  have hl := txt_len l
  have l1 : 1 ≤ l.length := List.length_pos_iff.mpr ne
  show (decide (1 ≤ (txt l).length) && (decide ((txt l).length ≤ 12) && (cpsL (txt l)).all okChB)) = true
  rw [hl, txt_codes, decide_eq_true l1, decide_eq_true l12, Bool.true_and, Bool.true_and, List.all_eq_true]
  intro c hc
  unfold okChB
  rw [Bool.or_eq_true, Bool.or_eq_true, beq_iff_eq, beq_iff_eq, sg_mem, decide_eq_true_iff]
  exact mem c hc
theorem path_d {p : List Nat} (h : pathOk p) : isPathD (.str (txt p)) = true := by
  obtain ⟨ne, l12, mem⟩ := h
  have hl := txt_len p
  have l1 : 1 ≤ p.length := List.length_pos_iff.mpr ne
  show (sgAll (txt p) && (decide (1 ≤ (txt p).length) && decide ((txt p).length ≤ 12))) = true
  rw [hl, decide_eq_true l1, decide_eq_true l12, Bool.true_and, Bool.and_true]
  show (cpsL (txt p)).all (fun c => allSigns.cps.contains c) = true
  rw [txt_codes, List.all_eq_true]
  intro c hc
  rw [sg_mem, decide_eq_true_iff]
  exact mem c hc
theorem one_shaped (b : Bool) : SeqAt.shaped (.list [.bool b]) = true := by cases b <;> decide +kernel
theorem one_eqv (b : Bool) : PyData.eqv (.list [.bool b]) (.list [.bool true]) = b := by cases b <;> decide +kernel
section
variable {P : Program} {w : World} {K : PySem.W.Frag} {mg : Str → Option Value} {base : Heap} {f fP fC fI fO fN fA CF CT : Addr} {fd fdP fdC fdO fdA fdI : FuncData}
theorem ok_check {k : Nat} (F : FnP K "check_path" iCheck f fd) (T : TxtK K CT) (gE : mg "InvalidText" = some (.ref CT))
    (FP : FnOk P w K mg base CX0 (k + 2) fP fdP ["value"] (spD K isPathD)) (gP : mg "is_path" = some (.ref fP)) (kP : PySem.W.keepIn K (.ref fP) = true) (bP : Binds K fdP ["value"] []) :
    FnOk P w K mg base CX0 (k + 3) f fd ["value"] (spCheck K) := by
  refine F.ok scCheck (fun vs H Q E h => ?_) (fun cdv A outer s H vs Q E hr h => ?_)
  · obtain ⟨v, d, rfl, _⟩ := h
    rfl
  · obtain ⟨v, d, rfl, hd, sz, ok, q⟩ := h
    refine ⟨_, PSs.nox (pss_one (ps_if (pt_not (pt_val (pe_call FP hr (by rfl) gP kP bP .nil pass0 (pa_cons (pv 0) pa_nil)))) (pss_one (ps_raise rfl takes0 (pmk_ownA PySem.F.excBase_ValueError T.exc gE T.kp (raises_own T.sub T.ty) (by rfl) (pa_cons pe_str pa_nil)))) pss_nil)), ?_⟩
    refine ⟨_, rfl, v, d, rfl, hd, sz, fun H1 s1 => ⟨_, rfl, ?_⟩⟩
    rw [ok]
    exact ite2 (fun z => by cases z) (fun _ => q H1 s1)
theorem ok_checkX {k : Nat} (F : FnP K "check_path" iCheck f fd) (T : TxtK K CT) (gE : mg "InvalidText" = some (.ref CT))
    (FP : FnOk P w K mg base CX0 (k + 2) fP fdP ["value"] (spD K isPathD)) (gP : mg "is_path" = some (.ref fP)) (kP : PySem.W.keepIn K (.ref fP) = true) (bP : Binds K fdP ["value"] []) :
    FnOk P w K mg base (L2.CX P w) (k + 3) f fd ["value"] (spCheckX K CT) := by
  refine F.ok scCheck (fun vs H Q E h => ?_) (fun cdv A outer s H vs Q E hr h => ?_)
  · obtain ⟨v, d, rfl, _⟩ := h
    rfl
  · obtain ⟨v, d, rfl, hd, sz, good, bad⟩ := h
    refine ⟨_, pss_one (ps_if (pt_not (pt_val (pe_call FP hr (by rfl) gP kP bP .nil pass0 (pa_cons (pv 0) pa_nil)))) (pss_one (ps_raise rfl (takes_of rfl rfl rfl rfl) (pmk_ownA PySem.F.excBase_ValueError T.exc gE T.kp (raises_own T.sub T.ty) (by rfl) (pa_cons pe_str pa_nil)))) pss_nil), ?_⟩
    refine ⟨_, rfl, v, d, rfl, hd, sz, fun H1 s1 => ⟨_, rfl, ?_⟩⟩
    have sl : sizeLine = 16777216 := sizeLine_eq
    cases e : isPathD d with
    | true => exact ite2 (fun z => by cases z) (fun _ => good e H1 s1)
    | false => exact ite2 (fun _ => ⟨by show 1 ≤ sizeLine; omega, bad e H1 s1⟩) (fun z => absurd rfl z)
theorem ok_fits {n : Nat} (F : FnP K "fits" iFits f fd) (T : TxtK K CT) (gE : mg "InvalidText" = some (.ref CT)) (gF : mg "Fitting" = some (.ref CF)) (M : Mk K CF fN) (FN : FnR P w K mg base CX0 n fN (spFini2 K CF))
    (FP : FnOk P w K mg base CX0 (n + 1) fP fdP ["value"] (spD K isPatD)) (gP : mg "is_path_pattern" = some (.ref fP)) (kP : PySem.W.keepIn K (.ref fP) = true) (bP : Binds K fdP ["value"] [])
    (FC : FnOk P w K mg base CX0 (n + 1) fC fdC ["value"] (spCheck K)) (gC : mg "check_path" = some (.ref fC)) (kC : PySem.W.keepIn K (.ref fC) = true) (bC : Binds K fdC ["value"] [])
    (FO : FnOk P w K mg base CX0 (n + 1) fO fdO ["fitting", "text"] (spPOf CF)) (gO : mg "places_of" = some (.ref fO)) (kO : PySem.W.keepIn K (.ref fO) = true) (bO : Binds K fdO ["fitting", "text"] [])
    (FA : FnOk P w K mg base CX0 (n + 1) fA fdA ["fitting", "places"] (spOnes CF)) (gA : mg "fitting_ones" = some (.ref fA)) (kA : PySem.W.keepIn K (.ref fA) = true) (bA : Binds K fdA ["fitting", "places"] []) :
    FnOk P w K mg base CX0 (n + 2) f fd ["pattern", "path"] spFits := by
  refine F.ok scFits (fun vs H Q E h => ?_) (fun cdv A outer s H vs Q E hr h => ?_)
  · obtain ⟨l, p, rfl, _⟩ := h
    rfl
  · obtain ⟨l, p, rfl, lo, po, q⟩ := h
    refine ⟨_, PSs.nox (pss_cons (ps_if (pt_not (pt_val (pe_call FP hr (by rfl) gP kP bP .nil pass0 (pa_cons (pv 0) pa_nil)))) (pss_one (ps_raise rfl takes0 (pmk_ownA PySem.F.excBase_ValueError T.exc gE T.kp (raises_own T.sub T.ty) (by rfl) (pa_cons pe_str pa_nil)))) pss_nil)
      (pss_cons (ps_expr (pe_call FC hr (by rfl) gC kC bC .nil pass0 (pa_cons (pv 1) pa_nil)))
      (pss_cons (ps_set (i := 2) scFits.nd rfl (.inl rfl) (pe_makeR (E := fun _ _ _ => False) M FN hr (by rfl) gF pass0 (pa_cons (pe_lst (pa_cons (pv 0) pa_nil)) pa_nil)))
      (pss_one (ps_ret (pe_cmpR (op_eqD hr.units) (pe_call FA hr (by rfl) gA kA bA .nil pass0 (pa_cons (pv 2) (pa_cons (pe_call FO hr (by rfl) gO kO bO .nil pass0 (pa_cons (pv 2) (pa_cons (pv 1) pa_nil))) pa_nil))) (pe_lst (pa_cons pe_bl pa_nil)) (nomark _))))))), ?_⟩
    have lb : (PyData.str (txt l)).bulk ≤ 100000 := by
      show (txt l).length ≤ 100000
      rw [txt_len]
      have := lo.2.1
      omega
    have pb : (PyData.str (txt p)).bulk ≤ 100000 := by
      show (txt p).length ≤ 100000
      rw [txt_len]
      have := po.2.1
      omega
    refine ⟨_, rfl, _, .str (txt l), rfl, .str _, lb, fun H1 s1 => ⟨_, rfl, ?_⟩⟩
    rw [pat_d lo]
    refine ite2 (fun z => by cases z) (fun _ => ?_)
    refine ⟨_, rfl, _, .str (txt p), rfl, .str _, pb, path_d po, fun H2 s2 => ?_⟩
    have s12 := s1.trans s2
    refine ⟨_, rfl, by show 1 ≤ sizeLine; decide, fun la na x dx nx ndx ne => ?_⟩
    have lax : la ≠ x := fun e => by
      rw [← e, upd_same] at nx
      cases nx
    have ladx : la ≠ dx := fun e => by
      rw [← e, upd_same] at ndx
      cases ndx
    refine ⟨x, dx, la, l, rfl, upd_same, .of (by rw [upd_ne lax, upd_ne ladx, upd_same]), lo, fun H3 k3 fit => ⟨rfl, ?_⟩⟩
    have s3 : Same H H3 := fun b o e => by
      have e2 := same_upd (o := .lst [.str (txt l)]) na _ _ (s12 _ _ e)
      refine k3 b o (ne_of_none e2 nx) ?_
      rw [upd_ne (ne_of_none e2 nx), upd_ne (ne_of_none e2 ndx)]
      exact e2
    refine ⟨_, rfl, _, rfl, _, rfl, x, l, p, rfl, fit, lo.2.1, po.2.2, fun S hS => ?_⟩
    refine ⟨x, S, l, rfl, fit, fun H4 D s4 nD hD => ⟨by show 1 ≤ sizeLine; decide, fun m nm => ?_⟩⟩
    rw [at_end hS] at hD
    have s5 := same_upd (o := .lst [.bl true]) nm
    refine ⟨.list [.bool (fitsL l p)], .list [.bool true], .lst (.of (s5 _ _ hD)) (.cons (.bl _) .nil), .lst (.of upd_same) (.cons (.bl _) .nil), one_shaped _, one_shaped _, ?_⟩
    have q2 := q (upd H4 m (.lst [.bl true])) ((s3.trans s4).trans s5)
    rw [one_eqv]
    exact q2
theorem ok_fitsX {n : Nat} (F : FnP K "fits" iFits f fd) (T : TxtK K CT) (gE : mg "InvalidText" = some (.ref CT)) (gF : mg "Fitting" = some (.ref CF)) (M : Mk K CF fN) (FN : FnR P w K mg base CX0 n fN (spFini2 K CF))
    (FP : FnOk P w K mg base CX0 (n + 1) fP fdP ["value"] (spD K isPatD)) (gP : mg "is_path_pattern" = some (.ref fP)) (kP : PySem.W.keepIn K (.ref fP) = true) (bP : Binds K fdP ["value"] [])
    (FC : FnOk P w K mg base (L2.CX P w) (n + 1) fC fdC ["value"] (spCheckX K CT)) (gC : mg "check_path" = some (.ref fC)) (kC : PySem.W.keepIn K (.ref fC) = true) (bC : Binds K fdC ["value"] [])
    (FO : FnOk P w K mg base CX0 (n + 1) fO fdO ["fitting", "text"] (spPOf CF)) (gO : mg "places_of" = some (.ref fO)) (kO : PySem.W.keepIn K (.ref fO) = true) (bO : Binds K fdO ["fitting", "text"] [])
    (FA : FnOk P w K mg base CX0 (n + 1) fA fdA ["fitting", "places"] (spOnes CF)) (gA : mg "fitting_ones" = some (.ref fA)) (kA : PySem.W.keepIn K (.ref fA) = true) (bA : Binds K fdA ["fitting", "places"] []) :
    FnOk P w K mg base (L2.CX P w) (n + 2) f fd ["pattern", "path"] (spFitsX K CT) := by
  refine F.ok scFits (fun vs H Q E h => ?_) (fun cdv A outer s H vs Q E hr h => ?_)
  · obtain ⟨v, u, d, e, rfl, _⟩ := h
    rfl
  · obtain ⟨v, u, d, e, rfl, hd, he, sd, se, bad, q⟩ := h
    refine ⟨_, pss_cons (ps_if (pt_not (pt_val (pe_call FP hr (by rfl) gP kP bP .nil pass0 (pa_cons (pv 0) pa_nil)))) (pss_one (ps_raise rfl (takes_of rfl rfl rfl rfl) (pmk_ownA PySem.F.excBase_ValueError T.exc gE T.kp (raises_own T.sub T.ty) (by rfl) (pa_cons pe_str pa_nil)))) pss_nil)
      (pss_cons (ps_expr (pe_call (E := E) FC hr (by rfl) gC kC bC .nil (passes_call (takes_of rfl rfl rfl rfl) (fun _ _ _ _ z => z)) (pa_cons (pv 1) pa_nil)))
      (pss_cons (ps_set (i := 2) scFits.nd rfl (.inl rfl) (pe_makeR (E := fun _ _ _ => False) M FN hr (by rfl) gF pass0 (pa_cons (pe_lst (pa_cons (pv 0) pa_nil)) pa_nil)))
      (pss_one (ps_ret (pe_cmpR (op_eqD hr.units) (pe_call FA hr (by rfl) gA kA bA .nil pass0 (pa_cons (pv 2) (pa_cons (pe_call FO hr (by rfl) gO kO bO .nil pass0 (pa_cons (pv 2) (pa_cons (pv 1) pa_nil))) pa_nil))) (pe_lst (pa_cons pe_bl pa_nil)) (nomark _)))))), ?_⟩
    have sl : sizeLine = 16777216 := sizeLine_eq
    refine ⟨_, rfl, v, d, rfl, hd, sd, fun H1 s1 => ⟨_, rfl, ?_⟩⟩
    cases ep : isPatD d with
    | false => exact ite2 (fun _ => ⟨by show 1 ≤ sizeLine; omega, q H1 s1⟩) (fun z => absurd rfl z)
    | true =>
      refine ite2 (fun z => by cases z) (fun _ => ?_)
      have np : isPathD e = false := by
        rcases bad with z | z
        · rw [ep] at z; cases z
        · exact z
      exact ⟨_, rfl, u, e, rfl, he.same' s1, se, fun y => absurd (np.symm.trans y) (by decide), fun _ H2 s2 => q H2 (s1.trans s2)⟩
end
end K0
end
/-! ### L9 -/
section
set_option Elab.async false
set_option linter.all false
set_option maxRecDepth 100000
set_option maxHeartbeats 4000000
/-! _law_odd_right itself: tables of code objects beside the dice. -/
namespace K0
open PySem PySem.Spec PyProof.Rows L2 Pat LamX
/-- the heap without its tables -/
def noTab (H : Hp) : Hp := fun b => match H b with
  | some (.tbl _) => none
  | o => o
theorem noTab_some {H : Hp} {b : Addr} {o : HO} (h : H b = some o) (n : ∀ ps, o ≠ .tbl ps) : noTab H b = some o := by
  unfold noTab
  rw [h]
  cases o with
  | tbl ps => exact absurd rfl (n ps)
  | _ => rfl
theorem noTab_of {H : Hp} {b : Addr} {o : HO} (h : noTab H b = some o) : H b = some o ∧ ∀ ps, o ≠ .tbl ps := by
  unfold noTab at h
  cases e : H b with
  | none => rw [e] at h; cases h
  | some u =>
    rw [e] at h
    cases u with
    | tbl ps => cases h
    | _ => cases h; exact ⟨rfl, fun ps z => by cases z⟩
theorem noTab_out {H : Hp} : Same (noTab H) H := fun b o h => (noTab_of h).1
theorem noTab_ext {H H1 : Hp} (e : ExtN H H1) : Same (noTab H) (noTab H1) := fun b o h => noTab_some (e b o (noTab_of h).1 (noTab_of h).2) (noTab_of h).2
theorem sql_noTab {K : PySem.W.Frag} {H : Hp} {a : Addr} {xs : List V} (h : SqL K H a xs) : SqL K (noTab H) a xs := by
  rcases h with (h | ⟨o, h⟩) | h
  · exact .inl (.inl (noTab_some h fun ps z => by cases z))
  · exact .inl (.inr ⟨o, noTab_some h fun ps z => by cases z⟩)
  · exact .inr h
theorem sqt_noTab {K : PySem.W.Frag} {H : Hp} {a : Addr} {xs : List V} (h : SqT K H a xs) : SqT K (noTab H) a xs := by
  rcases h with (h | ⟨o, h⟩) | h
  · exact .inl (.inl (noTab_some h fun ps z => by cases z))
  · exact .inl (.inr ⟨o, noTab_some h fun ps z => by cases z⟩)
  · exact .inr h
mutual
theorem Dv.noTab {K : PySem.W.Frag} {H : Hp} : ∀ (d : PyData) (v : V), Dv K H v d → Dv K (K0.noTab H) v d
  | .none, _, h => by cases h; exact .non
  | .bool b, _, h => by cases h; exact .bl b
  | .int i, _, h => by cases h; exact .int i
  | .str x, _, h => by cases h; exact .str x
  | .list ds, _, h => by cases h with | lst h1 h2 => exact .lst (sql_noTab h1) (DvAll.noTab ds _ h2)
  | .tuple ds, _, h => by cases h with | tup h1 h2 => exact .tup (sqt_noTab h1) (DvAll.noTab ds _ h2)
  | .dict ds, _, h => by cases h with | dic h1 h2 h3 => exact .dic (noTab_some h1 fun ps z => by cases z) h2 (DvAll.noTabKv ds _ h3)
theorem DvAll.noTab {K : PySem.W.Frag} {H : Hp} : ∀ (ds : List PyData) (vs : List V), DvAll K H vs ds → DvAll K (K0.noTab H) vs ds
  | [], _, h => by cases h; exact .nil
  | d :: ds, _, h => by cases h with | cons h1 h2 => exact .cons (Dv.noTab d _ h1) (DvAll.noTab ds _ h2)
theorem DvAll.noTabKv {K : PySem.W.Frag} {H : Hp} : ∀ (ds : List (PyData × PyData)) (vs : List V), DvAll K H vs (ds.map (·.2)) → DvAll K (K0.noTab H) vs (ds.map (·.2))
  | [], _, h => by cases h; exact .nil
  | (k, d) :: ds, _, h => by cases h with | cons h1 h2 => exact .cons (Dv.noTab d _ h1) (DvAll.noTabKv ds _ h2)
end
theorem Dv.extN {K : PySem.W.Frag} {H H1 : Hp} {v : V} {d : PyData} (h : Dv K H v d) (e : ExtN H H1) : Dv K H1 v d := Dv.same noTab_out d v (Dv.same (noTab_ext e) d v (Dv.noTab d v h))
abbrev lamQ : Str := "_law_odd_right" ++ ".<locals>." ++ "<lambda>"
/-- all but the dice at p and the table at P is as it was -/
def KeepN (p P : Addr) (H H' : Hp) : Prop := (∀ b o, b ≠ p → (∀ ps, o ≠ .tbl ps) → H b = some o → H' b = some o) ∧ Dice p H' ∧ Tabs [(P, lamQ)] H'
theorem tab_keep {p P : Addr} {H H' : Hp} (n : P ≠ p) (k : Keep p H H') (t : Tabs [(P, lamQ)] H) (sep : ∀ b q, H b = some (CodeO b q) → b ≠ p) : Tabs [(P, lamQ)] H' := fun x hx => by
  obtain ⟨ps, h1, h2, h3⟩ := t x hx
  have e : x = (P, lamQ) := List.mem_singleton.mp hx
  subst e
  refine ⟨ps, k.1 _ _ n h1, h2, fun pos cv hc => ?_⟩
  obtain ⟨c, e1, e2⟩ := h3 pos cv hc
  exact ⟨c, e1, k.1 _ _ (sep c _ e2) e2⟩
theorem code_dk {c : Addr} {q : Str} {i j k : Int} : CodeO c q ≠ dk i j k := fun z => by
  unfold CodeO dk at z
  cases z
theorem tabs_keep {p P : Addr} {H H' : Hp} (d : Dice p H) (k : Keep p H H') (t : Tabs [(P, lamQ)] H) : Tabs [(P, lamQ)] H' := by
  obtain ⟨a, b, c, e⟩ := d
  refine tab_keep (fun z => ?_) k t fun x q hx z => ?_
  · obtain ⟨ps, h1, _⟩ := t (P, lamQ) List.mem_cons_self
    have h1 : H P = some (.tbl ps) := h1
    rw [z, e] at h1
    cases h1
  · rw [z, e] at hx
    exact code_dk (Option.some.inj hx).symm
abbrev oddN : List Str := ["dice", "signs", "odd", "path", "pattern", "told"]
theorem scOddR : FnScope oddN ["dice", "signs"] (defScope (top iOddR)) := ⟨rfl, rfl, rfl, by decide +kernel, rfl, by decide +kernel, by decide +kernel⟩
theorem KeepN.keep {p P : Addr} {H H1 H2 : Hp} (k : KeepN p P H H1) (z : Keep p H1 H2) : KeepN p P H H2 := by
  refine ⟨fun b o n t e => z.1 b o n (k.1 b o n t e), ?_, tabs_keep k.2.1 z k.2.2⟩
  obtain ⟨a, b, c, e⟩ := z.2
  exact ⟨a, b, c, e⟩
theorem KeepN.same {p P : Addr} {H H1 H2 : Hp} (k : KeepN p P H H1) (z : Same H1 H2) : KeepN p P H H2 := ⟨fun b o n t e => z _ _ (k.1 b o n t e), k.2.1.same z, k.2.2.ext z⟩
theorem KeepN.extN {p P : Addr} {H H1 H2 : Hp} (k : KeepN p P H H1) (z : ExtN H1 H2) (t : Tabs [(P, lamQ)] H2) : KeepN p P H H2 := by
  refine ⟨fun b o n nt e => z _ _ (k.1 b o n nt e) nt, ?_, t⟩
  obtain ⟨i, j, l, e⟩ := k.2.1
  exact ⟨i, j, l, z _ _ e fun ps q => by cases q⟩
theorem hid_extN {p : Addr} {H H1 : Hp} (z : ExtN H H1) : ExtN (hid p H) (hid p H1) := fun b o e nt => by
  by_cases hb : b = p
  · subst hb
    have y : (none : Option HO) = some o := (if_pos rfl).symm.trans e
    cases y
  · rw [hid_ne hb] at e ⊢
    exact z _ _ e nt
theorem KeepN.fresh {p P : Addr} {B H1 : Hp} {l : Addr} (k : KeepN p P B H1) (nt : ∀ b ps, B b ≠ some (.tbl ps)) (n : H1 l = none) : B l = none := by
  cases e : B l with
  | none => rfl
  | some o =>
    by_cases hp : l = p
    · obtain ⟨a, b, c, z⟩ := k.2.1
      rw [hp, z] at n
      cases n
    · have z := k.1 l o hp (fun ps q => nt l ps (by rw [e, q])) e
      rw [n] at z
      cases z
theorem tabs_upd {P : Addr} {H : Hp} {l : Addr} {xs ys : List V} (e : H l = some (.lst xs)) (t : Tabs [(P, lamQ)] H) : Tabs [(P, lamQ)] (upd H l (.lst ys)) := fun x hx => by
  obtain ⟨ps, h1, h2, h3⟩ := t x hx
  refine ⟨ps, ?_, h2, fun pos cv hc => ?_⟩
  · rw [upd_ne (fun z => by rw [z, e] at h1; cases h1)]
    exact h1
  · obtain ⟨c, e1, e2⟩ := h3 pos cv hc
    refine ⟨c, e1, ?_⟩
    rw [upd_ne (fun z => by
      rw [z, e] at e2
      have y := Option.some.inj e2
      unfold CodeO at y
      cases y)]
    exact e2
def spOddR (P : Addr) : Sp := fun vs H Q _ => ∃ (p t : Addr), vs = [.ref p, .ref t] ∧ ∃ B : Hp, (∀ b ps, B b ≠ some (.tbl ps)) ∧ KeepN p P B H ∧ ∀ H', KeepN p P B H' → Q (.bl true) H'
def told8 : PyData := .list [.bool false, .bool false, .bool false, .bool false, .bool false, .bool true, .bool true, .bool true]
theorem told8_fit : Fit told8 := ⟨by decide +kernel, by decide +kernel, by decide +kernel, by decide +kernel⟩
theorem dv_told8 {K : PySem.W.Frag} {H : Hp} {l : Addr} (h : H l = some (.lst [.bl false, .bl false, .bl false, .bl false, .bl false, .bl true, .bl true, .bl true])) : Dv K H (.ref l) told8 :=
  .lst (.of h) (.cons (.bl _) (.cons (.bl _) (.cons (.bl _) (.cons (.bl _) (.cons (.bl _) (.cons (.bl _) (.cons (.bl _) (.cons (.bl _) .nil))))))))
theorem small_b {n : Nat} (h : n ≤ 100) : n ≤ sizeLine := by rw [sizeLine_eq]; omega
section
variable {P : Program} {w : World} {K : PySem.W.Frag} {mg : Str → Option Value} {base : Heap} {f fO fA fB fW fF CT CD c T : Addr} {fd fdO fdA fdB fdW fdF : FuncData}
theorem ok_oddr {k : Nat} (F : FnP K "_law_odd_right" iOddR f fd) (hcode : fd.code = .ref c) (TB : TabB base mg c T) (sb : sysB K = true) (mrepr : mg "repr" = none)
    (FO : FnOk P w K mg base CX0 (k + 2) fO fdO ["dice", "items"] (spOne K)) (gO : mg "_law_one_of" = some (.ref fO)) (kO : PySem.W.keepIn K (.ref fO) = true) (bO : Binds K fdO ["dice", "items"] [])
    (FA : FnOk P w K mg base CX0 (k + 2) fA fdA ["value"] (spD K isPathD)) (gA : mg "is_path" = some (.ref fA)) (kA : PySem.W.keepIn K (.ref fA) = true) (bA : Binds K fdA ["value"] [])
    (FB : FnOk P w K mg base CX0 (k + 2) fB fdB ["value"] (spD K isPatD)) (gB : mg "is_path_pattern" = some (.ref fB)) (kB : PySem.W.keepIn K (.ref fB) = true) (bB : Binds K fdB ["value"] [])
    (FW : FnP K "_law_word_of" iWordOf fW fdW) (gW : mg "_law_word_of" = some (.ref fW)) (bW : Binds K fdW ["call"] []) (gT : mg "InvalidText" = some (.ref CT)) (gD : mg "DressError" = some (.ref CD)) (eT : PySem.W.exmOne K (.ref CT) (.ref CT) = some true)
    (FF : FnOk P w K mg base (L2.CX P w) k fF fdF ["pattern", "path"] (spFitsX K CT)) (gF : mg "fits" = some (.ref fF)) (kF : PySem.W.keepIn K (.ref fF) = true) (bF : Binds K fdF ["pattern", "path"] []) :
    FnG P w K mg base CX0 (k + 3) f fd ["dice", "signs"] (spOddR T) := by
  refine fnG_ofC F scOddR (fun vs H Q E h => ?_) (fun cdv hc A outer s H vs Q E gd hr h => ?_)
  · obtain ⟨p, t, rfl, _⟩ := h
    rfl
  · obtain ⟨p, t, rfl, B, one, KN, q⟩ := h
    obtain ⟨_, D0, T0⟩ := id KN
    obtain rfl : cdv = .ref c := hc.symm.trans hcode
    obtain ⟨oc, od, dV, kV, doc, pm, an, cdw, ct, osl, rfl, lkW, codeW, _, _⟩ := FW.ex
    have lam : ∀ {params : Arguments} {body : Expr} {scope : Scope} {t : XK → TE} {p lpos pos : Pos} (L : LamS (defScope (top iOddR)) scope) (hdef : defaultsOf params (envOfC "_law_odd_right" (defScope (top iOddR)) s.heap.objs.size f (.ref c)) = ([], []))
        (hbind : ∀ (q : Str) (cl : List (Str × Addr)) (pm cv ctv : Value), bindArgs (PySem.W.kla_fn "<lambda>" q params body scope cl pm cv ctv) ⟨[], []⟩ = pure [])
        (hbody : ∀ (A' : Around) (outer' : List Env) (s' : Shared) (H' : Hp) (E' : XK) (f' c' : Addr), Room k (A'.deeper (lamEnv (cxOf CX0 P w K mg base oddN "_law_odd_right" (defScope (top iOddR)) f (.ref c) A outer s H E).nox scope s'.heap.objs.size f' c')) → PE (lamCx (cxOf CX0 P w K mg base oddN "_law_odd_right" (defScope (top iOddR)) f (.ref c) A outer s H E).nox A' outer' s' H' E' scope f' c') body (t E')),
        PE (cxOf CX0 P w K mg base oddN "_law_odd_right" (defScope (top iOddR)) f (.ref c) A outer s H E).nox (.Call (.Name "_law_word_of" p) [.Lambda params body scope lpos] [] pos) (tLam [(T, lamQ)] (TTw K CT) t) := fun {params body scope t p lpos pos} L hdef hbind hbody =>
      pe_lamcall (P := T) (c := c) (x := "_law_word_of") (a := "call") (by rfl) gW FW.kp lkW codeW bW scWordOf rfl (.inl rfl) (word_gives gT gD) TB rfl (List.mem_singleton.mpr rfl) (fun x hx _ => by rw [List.mem_singleton.mp hx]; rfl) hr L hdef hbind hbody
    have ps : ∀ {A' : Around} {outer' : List Env} {s' : Shared} {H' : Hp} {E' : XK} {f' c' : Addr} {scope : Scope}, Passes (L2.CX P w) (lamCx (cxOf CX0 P w K mg base oddN "_law_odd_right" (defScope (top iOddR)) f (.ref c) A outer s H E).nox A' outer' s' H' E' scope f' c') E' := passes_call (takes_of rfl rfl rfl rfl) fun _ _ _ _ h => h
    refine ⟨_, PSs.nox (C8.pss_cut (ps_set (i := 2) scOddR.nd rfl (.inr rfl) (pe_call FO hr (by rfl) gO kO bO .nil pass0 (pa_cons (pv 0) (pa_cons (pe_lst (pa_cons pe_non (pa_cons pe_bl (pa_cons pe_int (pa_cons (pe_op op_powBits pe_int pe_int) (pa_cons (pe_tup pa_nil) (pa_cons (pe_lst (pa_cons pe_str pa_nil)) (pa_cons pe_dnewK (pa_cons (pe_tup (pa_cons pe_str pa_nil)) (pa_cons pe_str (pa_cons (pe_op op_strMul pe_str pe_int) (pa_cons pe_str (pa_cons pe_str (pa_cons pe_str (pa_cons pe_str (pa_cons pe_str pa_nil)))))))))))))))) pa_nil))))
      (C8.pss_cut (ps_set (i := 3) scOddR.nd rfl (.inr rfl) (pe_call FO hr (by rfl) gO kO bO .nil pass0 (pa_cons (pv 0) (pa_cons (pe_lst (pa_cons pe_str (pa_cons pe_str (pa_cons (pe_op op_strMul pe_str pe_int) (pa_cons pe_str pa_nil))))) pa_nil))))
      (C8.pss_cut (ps_set (i := 4) scOddR.nd rfl (.inr rfl) (pe_call FO hr (by rfl) gO kO bO .nil pass0 (pa_cons (pv 0) (pa_cons (pe_lst (pa_cons pe_str (pa_cons (pe_op op_strMul pe_str pe_int) (pa_cons pe_str (pa_cons pe_str pa_nil))))) pa_nil))))
      (C8.pss_cut (ps_set (i := 5) scOddR.nd rfl (.inl rfl) (pe_lst (pa_cons (pe_call FA hr (by rfl) gA kA bA .nil pass0 (pa_cons (pv 2) pa_nil)) (pa_cons (pe_call FB hr (by rfl) gB kB bB .nil pass0 (pa_cons (pv 2) pa_nil)) (pa_cons (pe_call FA hr (by rfl) gA kA bA .nil pass0 (pa_cons pe_str pa_nil)) (pa_cons (pe_call FA hr (by rfl) gA kA bA .nil pass0 (pa_cons pe_str pa_nil)) (pa_cons (pe_call FB hr (by rfl) gB kB bB .nil pass0 (pa_cons (pe_op op_strMul pe_str pe_int) pa_nil)) pa_nil)))))))
      (C8.pss_cut (ps_set (i := 5) scOddR.nd rfl (.inl rfl) (pe_op op_cat (pv 5) (pe_lst (pa_cons (pe_call FA hr (by rfl) gA kA bA .nil pass0 (pa_cons (pv 3) pa_nil)) (pa_cons (pe_call FB hr (by rfl) gB kB bB .nil pass0 (pa_cons (pv 4) pa_nil)) (pa_cons (pe_call FB hr (by rfl) gB kB bB .nil pass0 (pa_cons (pv 3) pa_nil)) pa_nil))))))
      (C8.pss_cut (ps_if (pt_cmpR op_ne (pe_callB (call_repr sb gd hr.units) (by rfl) mrepr (by decide +kernel) (pa_cons (pv 5) pa_nil)) (pe_callB (call_repr sb gd hr.units) (by rfl) mrepr (by decide +kernel) (pa_cons (pe_op op_cat (pe_op op_rep (pe_lst (pa_cons pe_bl pa_nil)) pe_int) (pe_op op_rep (pe_lst (pa_cons pe_bl pa_nil)) pe_int)) pa_nil)) (nomark _)) (pss_one (ps_ret pe_bl)) pss_nil)
      (C8.pss_cut (ps_set (i := 5) scOddR.nd rfl (.inl rfl) (pe_lst (pa_cons (lam (t := fun E' => tCall (spFitsX K CT) [] E' (tCons (tVar 2) (tCons (tVar 3) tNil))) (lamS_by (by decide +kernel)) (by rfl) (fun _ _ _ _ _ => rfl) (fun A' o' s' H' E' f' c' hr' => pe_call FF hr' (by rfl) gF kF bF .nil ps (pa_cons (pv 2) (pa_cons (pv 3) pa_nil)))) pa_nil)))
      (C8.pss_cut (ps_expr (pe_bm PySem.F.plainAttrs_list PySem.F.slot_list_append PySem.F.type_list_append mt_append (pv 5) (pa_cons (lam (t := fun E' => tCall (spFitsX K CT) [] E' (tCons (tVar 4) (tCons (tVar 2) tNil))) (lamS_by (by decide +kernel)) (by rfl) (fun _ _ _ _ _ => rfl) (fun A' o' s' H' E' f' c' hr' => pe_call FF hr' (by rfl) gF kF bF .nil ps (pa_cons (pv 4) (pa_cons (pv 2) pa_nil)))) pa_nil)))
      (C8.pss_cut (ps_expr (pe_bm PySem.F.plainAttrs_list PySem.F.slot_list_append PySem.F.type_list_append mt_append (pv 5) (pa_cons (lam (t := fun E' => tCall (spFitsX K CT) [] E' (tCons (tVar 2) (tCons (tVar 2) tNil))) (lamS_by (by decide +kernel)) (by rfl) (fun _ _ _ _ _ => rfl) (fun A' o' s' H' E' f' c' hr' => pe_call FF hr' (by rfl) gF kF bF .nil ps (pa_cons (pv 2) (pa_cons (pv 2) pa_nil)))) pa_nil)))
      (C8.pss_cut (ps_expr (pe_bm PySem.F.plainAttrs_list PySem.F.slot_list_append PySem.F.type_list_append mt_append (pv 5) (pa_cons (lam (t := fun E' => tCall (spFitsX K CT) [] E' (tCons (tVar 3) (tCons (tOp (fun x y H Q => ∃ i j, x = .str i ∧ y = .str j ∧ i.length + j.length ≤ sizeLine ∧ Q (.str (i ++ j)) H) (fun σ H Q => tVar 4 σ H fun x H1 => rSlS x none (some 0) H1 Q) (tC (.str "*"))) tNil))) (lamS_by (by decide +kernel)) (by rfl) (fun _ _ _ _ _ => rfl) (fun A' o' s' H' E' f' c' hr' => pe_call FF hr' (by rfl) gF kF bF .nil ps (pa_cons (pv 3) (pa_cons (pe_op op_add_str ⟨fun pins s σ H Q I h => (pe_slice sl_str (pv 4) po_none (po_some pe_int)).run pins s σ H Q I (by obtain ⟨v, e1, h⟩ := h; exact ⟨v, e1, _, rfl, h⟩)⟩ pe_str) pa_nil)))) pa_nil)))
      (pss_one (ps_ret (pe_cmpR (op_eqD hr.units) (pv 5) (pe_op op_rep (pe_lst (pa_cons pe_str pa_nil)) pe_int) (nomark _)))))))))))))), ?_⟩
    have sz : ∀ {d : PyData} {z : Str}, d = .str z → (PyData.str z).bulk = d.bulk := fun e => by rw [e]
    refine ⟨fun σ' H' => ∃ x d, σ' = [some (.ref p), some (.ref t), some x, none, none, none] ∧ KeepN p T B H' ∧ Dv K (hid p H') x d ∧ d ∈ odds, ?_, ?_⟩
    · exact ⟨_, rfl, rd_draw (K := K) (p := p) (ds := odds) (ev_cons ev_non (ev_cons ev_bl (ev_cons ev_int (ev_cons (ev_pow ⟨by decide, by decide +kernel⟩) (ev_cons (ev_tup ev_nil (by decide)) (ev_cons (ev_lst (ev_cons ev_str ev_nil) (by decide)) (ev_cons ev_dict0 (ev_cons (ev_tup (ev_cons ev_str ev_nil) (by decide)) (ev_cons ev_str (ev_cons (ev_rep (by decide +kernel)) (ev_cons ev_str (ev_cons ev_str (ev_cons ev_str (ev_cons ev_str (ev_cons ev_str ev_nil))))))))))))))) D0 (by simp [odds]) (by decide) fun x d H' kk hv hd => ⟨x, d, rfl, KN.keep kk, hv, hd⟩⟩
    rintro σ1 H1 ⟨xo, dO, rfl, k1, vo, mo⟩
    obtain ⟨o1, o2, o3⟩ := oddB_ok (List.all_eq_true.mp odds_ok dO mo)
    refine ⟨fun σ' H' => ∃ z, σ' = [some (.ref p), some (.ref t), some xo, some (.str z), none, none] ∧ KeepN p T B H' ∧ Dv K (hid p H') xo dO ∧ PyData.str z ∈ paths4, ?_, ?_⟩
    · refine ⟨_, rfl, rd_draw (K := K) (p := p) (ds := paths4) (ev_cons ev_str (ev_cons ev_str (ev_cons (ev_rep (by decide +kernel)) (ev_cons ev_str ev_nil)))) k1.2.1 (by simp [paths4]) (by decide) fun x d H' kk hv hd => ?_⟩
      obtain ⟨z, rfl, rfl⟩ := is_str hv (pathB_ok (List.all_eq_true.mp paths_ok d hd)).2.2.2
      exact ⟨z, rfl, k1.keep kk, vo.same' (hid_same kk.1), hd⟩
    rintro σ2 H2 ⟨zp, rfl, k2, vo2, mp⟩
    obtain ⟨p1, p2, p3, _⟩ := pathB_ok (List.all_eq_true.mp paths_ok _ mp)
    refine ⟨fun σ' H' => ∃ z, σ' = [some (.ref p), some (.ref t), some xo, some (.str zp), some (.str z), none] ∧ KeepN p T B H' ∧ Dv K (hid p H') xo dO ∧ PyData.str z ∈ pats4, ?_, ?_⟩
    · refine ⟨_, rfl, rd_draw (K := K) (p := p) (ds := pats4) (ev_cons ev_str (ev_cons (ev_rep (by decide +kernel)) (ev_cons ev_str (ev_cons ev_str ev_nil)))) k2.2.1 (by simp [pats4]) (by decide) fun x d H' kk hv hd => ?_⟩
      obtain ⟨z, rfl, rfl⟩ := is_str hv (patB_ok (List.all_eq_true.mp pats_ok d hd)).2.2
      exact ⟨z, rfl, k2.keep kk, vo2.same' (hid_same kk.1), hd⟩
    rintro σ3 H3 ⟨zt, rfl, k3, vo3, mt⟩
    obtain ⟨t1, t2, _⟩ := patB_ok (List.all_eq_true.mp pats_ok _ mt)
    have vH : ∀ {H' : Hp}, Same H3 H' → Dv K H' xo dO := fun s => (vo3.same' hid_out).same' s
    refine ⟨fun σ' H' => ∃ l, σ' = [some (.ref p), some (.ref t), some xo, some (.str zp), some (.str zt), some (.ref l)] ∧ Same H3 H' ∧ H' l = some (.lst [.bl false, .bl false, .bl false, .bl false, .bl false]), ?_, ?_⟩
    · refine ⟨_, rfl, xo, dO, rfl, vH (Same.refl _), o3, fun H4 s4 => ⟨_, rfl, xo, dO, rfl, vH s4, o3, fun H5 s5 => ⟨.str "*", .str "*", rfl, .str _, by decide +kernel, fun H6 s6 => ⟨.str "a?", .str "a?", rfl, .str _, by decide +kernel, fun H7 s7 => ⟨"*", 13, rfl, rfl, by decide, by decide, by decide, by decide, .str (rep "*" 13), .str (rep "*" 13), rfl, .str _, by decide +kernel, fun H8 s8 => ⟨by show 5 ≤ sizeLine; decide, fun l nl => ⟨l, rfl, (((s4.trans s5).trans s6).trans s7).trans (s8.trans (same_upd nl)), ?_⟩⟩⟩⟩⟩⟩⟩
      rw [upd_same, o1, o2, show isPathD (.str "*") = false by decide +kernel, show isPathD (.str "a?") = false by decide +kernel, show isPatD (.str (rep "*" 13)) = false by decide +kernel]
    rintro σ4 H4 ⟨l4, rfl, s4, e4⟩
    refine ⟨fun σ' H' => ∃ l, σ' = [some (.ref p), some (.ref t), some xo, some (.str zp), some (.str zt), some (.ref l)] ∧ Same H3 H' ∧ H' l = some (.lst [.bl false, .bl false, .bl false, .bl false, .bl false, .bl true, .bl true, .bl true]), ?_, ?_⟩
    · refine ⟨_, rfl, _, rfl, _, _, rfl, .str zp, p3, fun H5 s5 => ⟨_, rfl, _, _, rfl, .str zt, t2, fun H6 s6 => ⟨_, rfl, _, _, rfl, .str zp, p3, fun H7 s7 => ⟨by show 3 ≤ sizeLine; decide, fun l5 n5 => ⟨l4, l5, _, _, rfl, rfl, same_upd n5 _ _ (s7 _ _ (s6 _ _ (s5 _ _ e4))), upd_same, by show 5 + 3 ≤ sizeLine; decide, fun l nl => ⟨l, rfl, ((s4.trans s5).trans s6).trans ((s7.trans (same_upd n5)).trans (same_upd nl)), ?_⟩⟩⟩⟩⟩⟩
      rw [upd_same, p1, p2, t1]
      rfl
    rintro σ5 H5 ⟨l5, rfl, s5, e5⟩
    refine ⟨fun σ' H' => σ' = [some (.ref p), some (.ref t), some xo, some (.str zp), some (.str zt), some (.ref l5)] ∧ Same H3 H', ?_, ?_⟩
    · refine ⟨_, rfl, _, told8, rfl, dv_told8 e5, told8_fit, by show 1 ≤ sizeLine; decide, fun m1 n1 => ⟨m1, 5, _, rfl, rfl, upd_same, by decide, by decide, by show 1 * 5 ≤ sizeLine; decide, fun m2 n2 => ⟨by show 1 ≤ sizeLine; decide, fun m3 n3 => ⟨m3, 3, _, rfl, rfl, upd_same, by decide, by decide, by show 1 * 3 ≤ sizeLine; decide, fun m4 n4 => ?_⟩⟩⟩⟩
      refine ⟨m2, m4, _, _, rfl, rfl, same_upd n4 _ _ (same_upd n3 _ _ upd_same), upd_same, by show 5 + 3 ≤ sizeLine; decide, fun m5 n5 => ⟨_, told8, rfl, dv_told8 upd_same, told8_fit, rfl, _, rfl, ite2 (fun e => absurd e (by simp)) (fun _ => ⟨rfl, (((s5.trans (same_upd n1)).trans (same_upd n2)).trans (same_upd n3)).trans ((same_upd n4).trans (same_upd n5))⟩)⟩⟩
    rintro σ6 H6 ⟨rfl, s6⟩
    have k6 : KeepN p T B H6 := k3.same s6
    have v6 : Dv K (hid p H6) xo dO := vo3.same' (hid_same fun b o _ e => s6 b o e)
    have tx : isPathD (.str "*") = false := by decide +kernel
    generalize hV : noTab (hid p H6) = V
    have vV : Dv K V xo dO := by rw [← hV]; exact Dv.noTab dO xo v6
    have sV : Same V H6 := by rw [← hV]; exact fun b o e => hid_out b o (noTab_of e).1
    have nV : ∀ {b : Addr} {o : HO}, V b = some o → ∀ ps, o ≠ .tbl ps := fun {b o} e => by rw [← hV] at e; exact (noTab_of e).2
    have ext : ∀ {H' H1 : Hp}, Same V H' → ExtN H' H1 → Same V H1 := fun s e b o z => e b o (s b o z) (nV z)
    have fr : ∀ {H' : Hp} {l : Addr}, Same V H' → H' l = none → V l = none := fun {H' l} s n => none_back s n
    refine ⟨fun σ' H' => ∃ l, σ' = [some (.ref p), some (.ref t), some xo, some (.str zp), some (.str zt), some (.ref l)] ∧ KeepN p T B H' ∧ Same V H' ∧ B l = none ∧ V l = none ∧ H' l = some (.lst [.str "text"]), ?_, ?_⟩
    · refine ⟨k6.2.2, fun H7 eN T7 => ⟨_, rfl, _, rfl, xo, .str zp, dO, .str zp, rfl, vV.same' (ext sV eN), .str _, o3, p3, .inl o2, fun H8 s8 => ⟨eT, by show 1 ≤ sizeLine; decide, fun l nl => ?_⟩⟩⟩
      have k8 := (k6.extN eN T7).same s8
      have s9 := (ext sV eN).trans s8
      exact ⟨l, rfl, k8.same (same_upd nl), s9.trans (same_upd nl), k8.fresh one nl, fr s9 nl, upd_same⟩
    rintro σ7 H7 ⟨l, rfl, k7, s7, nl, nVl, e7⟩
    have nlp : l ≠ p := fun z => by
      obtain ⟨a, b, c, e⟩ := k7.2.1
      rw [z, e] at e7
      have y : HO.lst _ = HO.lst _ := Option.some.inj e7
      injection y with y
      cases y
    have app : ∀ {H' H1 H2 : Hp} {xs ys : List L2.V}, KeepN p T B H' → Same V H' → H' l = some (.lst xs) → ExtN H' H1 → Tabs [(T, lamQ)] H1 → Same H1 H2 → H2 l = some (.lst xs) ∧ KeepN p T B (upd H2 l (.lst ys)) ∧ Same V (upd H2 l (.lst ys)) := fun {H' H1 H2 xs ys} kk sv e eN T1 s2 => by
      have e2 : H2 l = some (.lst xs) := s2 _ _ (eN _ _ e fun ps q => by cases q)
      have k2 := (kk.extN eN T1).same s2
      refine ⟨e2, ⟨fun b o n nt z => ?_, ?_, tabs_upd e2 k2.2.2⟩, fun b o z => ?_⟩
      · rw [upd_ne (ne_of_none z nl)]
        exact k2.1 b o n nt z
      · obtain ⟨i, j, m, z⟩ := k2.2.1
        exact ⟨i, j, m, by rw [upd_ne nlp.symm]; exact z⟩
      · rw [upd_ne (ne_of_none z nVl)]
        exact s2 _ _ (eN _ _ (sv _ _ z) (nV z))
    refine ⟨fun σ' H' => σ' = [some (.ref p), some (.ref t), some xo, some (.str zp), some (.str zt), some (.ref l)] ∧ KeepN p T B H' ∧ Same V H' ∧ H' l = some (.lst [.str "text", .str "text"]), ?_, ?_⟩
    · refine ⟨_, rfl, .inl ⟨rfl, _, .of e7⟩, k7.2.2, fun H8 eN T8 => ⟨_, rfl, _, rfl, .str zt, xo, .str zt, dO, rfl, .str _, vV.same' (ext s7 eN), t2, o3, .inr o1, fun H9 s9 => ?_⟩⟩
      obtain ⟨a1, a2, a3⟩ := app (ys := [.str "text", .str "text"]) k7 s7 e7 eN T8 s9
      exact ⟨eT, l, _, _, rfl, rfl, a1, by show 1 < sizeLine; decide, rfl, a2, a3, upd_same⟩
    rintro σ8 H8 ⟨rfl, k8, s8, e8⟩
    refine ⟨fun σ' H' => σ' = [some (.ref p), some (.ref t), some xo, some (.str zp), some (.str zt), some (.ref l)] ∧ KeepN p T B H' ∧ Same V H' ∧ H' l = some (.lst [.str "text", .str "text", .str "text"]), ?_, ?_⟩
    · refine ⟨_, rfl, .inl ⟨rfl, _, .of e8⟩, k8.2.2, fun H9 eN T9 => ⟨_, rfl, _, rfl, xo, xo, dO, dO, rfl, vV.same' (ext s8 eN), vV.same' (ext s8 eN), o3, o3, .inl o2, fun H10 s10 => ?_⟩⟩
      obtain ⟨a1, a2, a3⟩ := app (ys := [.str "text", .str "text", .str "text"]) k8 s8 e8 eN T9 s10
      exact ⟨eT, l, _, _, rfl, rfl, a1, by show 2 < sizeLine; decide, rfl, a2, a3, upd_same⟩
    rintro σ9 H9 ⟨rfl, k9, s9, e9⟩
    refine ⟨fun σ' H' => σ' = [some (.ref p), some (.ref t), some xo, some (.str zp), some (.str zt), some (.ref l)] ∧ KeepN p T B H' ∧ Same V H' ∧ H' l = some (.lst [.str "text", .str "text", .str "text", .str "text"]), ?_, ?_⟩
    · have zl : zt.length ≤ sizeLine := by
        have y : zt.length ≤ 100000 := t2
        exact Nat.le_of_lt (small5 y)
      have z0 : cutS zt none (some 0) = ("" : Str) := by
        have y := cut_to (cpsL zt) 0
        rw [codes_txt] at y
        exact y
      refine ⟨_, rfl, .inl ⟨rfl, _, .of e9⟩, k9.2.2, fun H10 eN T10 => ⟨_, rfl, _, rfl, zt, rfl, zl, cutS zt none (some 0), "*", rfl, rfl, by rw [z0]; show 0 + 1 ≤ sizeLine; decide, .str zp, .str "*", .str zp, .str "*", by rw [z0]; rfl, .str _, .str _, p3, by decide +kernel, .inr tx, fun H11 s11 => ?_⟩⟩
      obtain ⟨a1, a2, a3⟩ := app (ys := [.str "text", .str "text", .str "text", .str "text"]) k9 s9 e9 eN T10 s11
      exact ⟨eT, l, _, _, rfl, rfl, a1, by show 3 < sizeLine; decide, rfl, a2, a3, upd_same⟩
    rintro σ10 H10 ⟨rfl, k10, s10, e10⟩
    have four : ∀ {H' : Hp} {m : Addr}, H' m = some (.lst [.str "text", .str "text", .str "text", .str "text"]) → Dp K H' (.ref m) (.list [.str "text", .str "text", .str "text", .str "text"]) := fun e => .lst (.of e) (.cons (.str _) (.cons (.str _) (.cons (.str _) (.cons (.str _) .nil))))
    refine ⟨_, rfl, by show 1 ≤ sizeLine; decide, fun m1 n1 => ⟨m1, 4, _, rfl, rfl, upd_same, by decide, by decide, by show 1 * 4 ≤ sizeLine; decide, fun m2 n2 => ?_⟩⟩
    refine ⟨_, _, four (same_upd n2 _ _ (same_upd n1 _ _ e10)), four (m := m2) upd_same, by decide +kernel, by decide +kernel, ?_⟩
    rw [show PyData.eqv (.list [.str "text", .str "text", .str "text", .str "text"]) (.list [.str "text", .str "text", .str "text", .str "text"]) = true by decide +kernel]
    exact q _ ((k10.same (same_upd n1)).same (same_upd n2))
end
end K0
end
/-! ### L10 -/
section
set_option Elab.async false
set_option linter.all false
set_option maxRecDepth 100000
set_option maxHeartbeats 4000000
/-! The law. -/
namespace K0
open PySem PySem.Spec PyProof.Rows L2 Pat LamX
instance {l : List Nat} : Decidable (patOk l) := by unfold patOk; infer_instance
instance {l : List Nat} : Decidable (pathOk l) := by unfold pathOk; infer_instance
theorem scLaw : FnScope ["script", "at", "dice", "signs", "told"] ["script"] (defScope (top iLaw)) := ⟨rfl, rfl, rfl, by decide +kernel, rfl, by decide +kernel, by decide +kernel⟩
def spLaw (K : PySem.W.Frag) (T : Addr) : Sp := fun vs H Q _ => ∃ (a : Addr) (ns : List Int), vs = [.ref a] ∧ SqL K H a (ns.map V.int) ∧ Tabs [(T, lamQ)] H ∧ ∀ H', Q (.bl true) H'
def told9 : PyData := .list [.bool true, .bool false, .bool true, .bool false, .bool true, .bool true, .bool false, .bool true, .bool true]
theorem told9_fit : Fit told9 := ⟨by decide +kernel, by decide +kernel, by decide +kernel, by decide +kernel⟩
theorem dv_told9 {K : PySem.W.Frag} {H : Hp} {l : Addr} (h : H l = some (.lst [.bl true, .bl false, .bl true, .bl false, .bl true, .bl true, .bl false, .bl true, .bl true])) : Dv K H (.ref l) told9 :=
  .lst (.of h) (.cons (.bl _) (.cons (.bl _) (.cons (.bl _) (.cons (.bl _) (.cons (.bl _) (.cons (.bl _) (.cons (.bl _) (.cons (.bl _) (.cons (.bl _) .nil)))))))))
section
variable {P : Program} {w : World} {K : PySem.W.Frag} {mg : Str → Option Value} {base : Heap} {f fD fG fS fL fO fF T : Addr} {fd fdD fdG fdS fdL fdO fdF : FuncData}
theorem ok_law {n : Nat} (F : FnP K "law" iLaw f fd) (sb : sysB K = true) (mrange : mg "range" = none) (mmax : mg "max" = none) (mmin : mg "min" = none) (mlen : mg "len" = none) (mrepr : mg "repr" = none)
    (FD : FnOk P w K mg base CX0 n fD fdD ["script", "at"] (spDice K)) (gD : mg "_law_dice" = some (.ref fD)) (kD : PySem.W.keepIn K (.ref fD) = true) (bD : Binds K fdD ["script", "at"] [])
    (FG : FnOk P w K mg base CX0 n fG fdG ["dice", "upto"] spSigns) (gG : mg "_law_signs" = some (.ref fG)) (kG : PySem.W.keepIn K (.ref fG) = true) (bG : Binds K fdG ["dice", "upto"] [])
    (FS : FnOk P w K mg base CX0 n fS fdS ["dice", "signs"] (spShort K)) (gS : mg "_law_short_right" = some (.ref fS)) (kS : PySem.W.keepIn K (.ref fS) = true) (bS : Binds K fdS ["dice", "signs"] [])
    (FL : FnOk P w K mg base CX0 n fL fdL ["dice", "signs"] (spLong K)) (gL : mg "_law_long_right" = some (.ref fL)) (kL : PySem.W.keepIn K (.ref fL) = true) (bL : Binds K fdL ["dice", "signs"] [])
    (FO : FnG P w K mg base CX0 n fO fdO ["dice", "signs"] (spOddR T)) (gO : mg "_law_odd_right" = some (.ref fO)) (kO : PySem.W.keepIn K (.ref fO) = true) (bO : Binds K fdO ["dice", "signs"] [])
    (FF : FnOk P w K mg base CX0 n fF fdF ["pattern", "path"] spFits) (gF : mg "fits" = some (.ref fF)) (kF : PySem.W.keepIn K (.ref fF) = true) (bF : Binds K fdF ["pattern", "path"] []) :
    FnG P w K mg base CX0 (n + 1) f fd ["script"] (spLaw K T) := by
  refine fnG_ofC F scLaw (fun vs H Q E h => ?_) (fun cdv _ A outer s H vs Q E gd hr h => ?_)
  · obtain ⟨a, ns, rfl, _⟩ := h
    rfl
  · obtain ⟨a, ns, rfl, hS, T0, q⟩ := h
    refine ⟨_, PSs.nox (C8.pss_cut (ps_for PassesOwn.never rfl (pi_range1 (by rfl) mrange (pa_cons (pe_callB (call_max2 rfl) (by rfl) mmax boot_max (pa_cons pe_int (pa_cons (pe_callB (call_min2 rfl) (by rfl) mmin boot_min (pa_cons pe_int (pa_cons (pe_callB call_len_seq (by rfl) mlen PySem.boot_len (pa_cons (pv 0) pa_nil)) pa_nil))) pa_nil))) pa_nil)) (pg_name (i := 1) scLaw.nd rfl (.inl rfl))
        (pss_cons (ps_set (i := 2) scLaw.nd rfl (.inl rfl) (pe_call FD hr (by rfl) gD kD bD .nil pass0 (pa_cons (pv 0) (pa_cons (pv 1) pa_nil))))
        (pss_cons (ps_set (i := 3) scLaw.nd rfl (.inl rfl) (pe_call FG hr (by rfl) gG kG bG .nil pass0 (pa_cons (pv 2) (pa_cons pe_int pa_nil))))
        (pss_one (ps_if (PW.pt (pw_or (pt_not (pt_val (pe_call FS hr (by rfl) gS kS bS .nil pass0 (pa_cons (pv 2) (pa_cons (pv 3) pa_nil))))) (pw_or (pt_not (pt_val (pe_call FL hr (by rfl) gL kL bL .nil pass0 (pa_cons (pv 2) (pa_cons (pv 3) pa_nil))))) (pw_or1 (pt_not (pt_val (peG FO gd hr (by rfl) gO kO bO pass0 (pa_cons (pv 2) (pa_cons (pv 3) pa_nil)))))))))
          (pss_one (ps_ret pe_bl)) pss_nil)))))
      (C8.pss_cut (ps_set (i := 4) scLaw.nd rfl (.inl rfl) (pe_lst (pa_cons (pe_call FF hr (by rfl) gF kF bF .nil pass0 (pa_cons pe_str (pa_cons (pe_op op_strMul pe_str pe_int) pa_nil))) (pa_cons (pe_call FF hr (by rfl) gF kF bF .nil pass0 (pa_cons pe_str (pa_cons (pe_op op_strMul pe_str pe_int) pa_nil)))
          (pa_cons (pe_call FF hr (by rfl) gF kF bF .nil pass0 (pa_cons (pe_op op_strMul pe_str pe_int) (pa_cons pe_str pa_nil))) (pa_cons (pe_call FF hr (by rfl) gF kF bF .nil pass0 (pa_cons pe_str (pa_cons pe_str pa_nil))) pa_nil))))))
      (C8.pss_cut (ps_set (i := 4) scLaw.nd rfl (.inl rfl) (pe_op op_cat (pv 4) (pe_lst (pa_cons (pe_call FF hr (by rfl) gF kF bF .nil pass0 (pa_cons (pe_op op_strMul pe_str pe_int) (pa_cons (pe_op op_strMul pe_str pe_int) pa_nil))) (pa_cons (pe_call FF hr (by rfl) gF kF bF .nil pass0 (pa_cons pe_str (pa_cons pe_str pa_nil)))
          (pa_cons (pe_call FF hr (by rfl) gF kF bF .nil pass0 (pa_cons pe_str (pa_cons pe_str pa_nil))) (pa_cons (pe_call FF hr (by rfl) gF kF bF .nil pass0 (pa_cons pe_str (pa_cons pe_str pa_nil))) (pa_cons (pe_call FF hr (by rfl) gF kF bF .nil pass0 (pa_cons pe_str (pa_cons pe_str pa_nil))) pa_nil))))))))
      (pss_one (ps_ret (pe_cmpR op_eq (pe_callB (call_repr sb gd hr.units) (by rfl) mrepr (by decide +kernel) (pa_cons (pv 4) pa_nil)) (pe_callB (call_repr sb gd hr.units) (by rfl) mrepr (by decide +kernel) (pa_cons (pe_lst (pa_cons pe_bl (pa_cons pe_bl (pa_cons pe_bl (pa_cons pe_bl (pa_cons pe_bl (pa_cons pe_bl (pa_cons pe_bl (pa_cons pe_bl (pa_cons pe_bl pa_nil)))))))))) pa_nil)) (nomark _))))))), ?_⟩
    generalize hB : noTab H = B
    have sB : Same B H := by rw [← hB]; exact noTab_out
    have nB : ∀ b ps, B b ≠ some (.tbl ps) := fun b ps e => by
      rw [← hB] at e
      exact (noTab_of e).2 ps rfl
    have hS' : SqL K B a (ns.map V.int) := by rw [← hB]; exact sql_noTab hS
    refine ⟨fun σ' H' => ∃ a1 a2 a3, σ' = [some (.ref a), a1, a2, a3, none] ∧ Same B H' ∧ Tabs [(T, lamQ)] H', ?_, ?_⟩
    · refine ⟨_, rfl, a, _, rfl, .inl hS, _, _, rfl, _, _, rfl, ?_⟩
      have bd : ∀ m : Int, -(2 ^ 62) ≤ (if (if m < 8 then m else 8) > 1 then (if m < 8 then m else 8) else 1) ∧ (if (if m < 8 then m else 8) > 1 then (if m < 8 then m else 8) else 1) < (2 : Int) ^ 62 := fun m => by
        have e2 : (2 : Int) ^ 62 = 4611686018427387904 := by decide
        split <;> (try split) <;> omega
      refine ⟨_, rfl, (bd _).1, (bd _).2, for_range (lo := 0) (fun i σ' H' => ∃ a1 a2 a3, σ' = [some (.ref a), a1, a2, a3, none] ∧ Same B H' ∧ Tabs [(T, lamQ)] H') ⟨_, _, _, rfl, sB, T0⟩ (fun i σ' H' hi hP => ?_) (fun σ' H' hP => hP)⟩
      obtain ⟨a1, a2, a3, rfl, s1, t1⟩ := hP
      refine ⟨_, rfl, _, rfl, a, ns, i, by rw [Int.zero_add]; rfl, s1.seq hS', fun p x y z np => ?_⟩
      have nBp : B p = none := none_back s1 np
      have sp : Same H' (upd H' p (dk x y z)) := same_upd np
      have tp : Tabs [(T, lamQ)] (upd H' p (dk x y z)) := t1.ext sp
      refine ⟨_, rfl, p, x, y, z, 3, rfl, upd_same, by decide, by decide, fun H2 t cs k2 ht pw cne inS c3 => ?_⟩
      have k0 : KeepN p T B (upd H' p (dk x y z)) := ⟨fun b o n _ e => sp _ _ (s1 _ _ e), ⟨x, y, z, upd_same⟩, tp⟩
      have k2N : KeepN p T B H2 := k0.keep k2
      obtain ⟨x2, y2, z2, e2⟩ := k2.2
      have c3' : cs.length ≤ 3 := by omega
      have ntp : t ≠ p := fun e => by
        obtain ⟨o, e3, _⟩ := ht
        rw [e, e2] at e3
        cases e3
      refine ⟨_, rfl, _, rfl, p, t, x2, y2, z2, cs, rfl, e2, ht.sq, c3', inS, ntp, fun H3 k3 => ⟨true, rfl, ite2 (fun e => by cases e) (fun _ => ?_)⟩⟩
      obtain ⟨x3, y3, z3, e3⟩ := k3.2
      refine ⟨_, rfl, _, rfl, p, t, x3, y3, z3, cs, rfl, e3, keep_sqt k3 ntp ht.sq, cne, c3', inS, ntp, fun H4 k4 => ⟨true, rfl, ite2 (fun e => by cases e) (fun _ => ?_)⟩⟩
      refine ⟨_, rfl, _, rfl, p, t, rfl, B, nB, (k2N.keep k3).keep k4, fun H5 k5 => ⟨true, rfl, ite2 (fun e => by cases e) (fun _ => ⟨_, _, _, rfl, fun b o e => ?_, k5.2.2⟩)⟩⟩
      exact k5.1 b o (ne_of_none e nBp) (fun ps z => nB b ps (by rw [e, z])) e
    rintro σ1 H1 ⟨a1, a2, a3, rfl, _, _⟩
    have f0 : fitsL [42, 97, 42, 97, 42, 97, 42, 97, 42, 97, 42, 97] [97, 97, 97, 97, 97, 97] = true := by decide +kernel
    have y0 : ([V.str ("*a*a*a*a*a*a"), V.str (rep "a" 6)] : List V) = [V.str (txt [42, 97, 42, 97, 42, 97, 42, 97, 42, 97, 42, 97]), V.str (txt [97, 97, 97, 97, 97, 97])] := by decide +kernel
    have f1 : fitsL [42, 97, 42, 97, 42, 97, 42, 97, 42, 97, 42, 97] [97, 97, 97, 97, 97] = false := by decide +kernel
    have y1 : ([V.str ("*a*a*a*a*a*a"), V.str (rep "a" 5)] : List V) = [V.str (txt [42, 97, 42, 97, 42, 97, 42, 97, 42, 97, 42, 97]), V.str (txt [97, 97, 97, 97, 97])] := by decide +kernel
    have f2 : fitsL [42, 42, 42, 42, 42, 42, 42, 42, 42, 42, 42, 42] [36] = true := by decide +kernel
    have y2 : ([V.str (rep "*" 12), V.str ("$")] : List V) = [V.str (txt [42, 42, 42, 42, 42, 42, 42, 42, 42, 42, 42, 42]), V.str (txt [36])] := by decide +kernel
    have f3 : fitsL [42, 63, 42, 63, 42] [97] = false := by decide +kernel
    have y3 : ([V.str ("*?*?*"), V.str ("a")] : List V) = [V.str (txt [42, 63, 42, 63, 42]), V.str (txt [97])] := by decide +kernel
    have f4 : fitsL [63, 63, 63, 63, 63, 63, 63, 63, 63, 63, 63, 63] [95, 95, 95, 95, 95, 95, 95, 95, 95, 95, 95, 95] = true := by decide +kernel
    have y4 : ([V.str (rep "?" 12), V.str (rep "_" 12)] : List V) = [V.str (txt [63, 63, 63, 63, 63, 63, 63, 63, 63, 63, 63, 63]), V.str (txt [95, 95, 95, 95, 95, 95, 95, 95, 95, 95, 95, 95])] := by decide +kernel
    have f5 : fitsL [97, 42, 98] [97, 98] = true := by decide +kernel
    have y5 : ([V.str ("a*b"), V.str ("ab")] : List V) = [V.str (txt [97, 42, 98]), V.str (txt [97, 98])] := by decide +kernel
    have f6 : fitsL [97, 42, 98] [97, 98, 97] = false := by decide +kernel
    have y6 : ([V.str ("a*b"), V.str ("aba")] : List V) = [V.str (txt [97, 42, 98]), V.str (txt [97, 98, 97])] := by decide +kernel
    have f7 : fitsL [42, 58, 42] [35, 58] = true := by decide +kernel
    have y7 : ([V.str ("*:*"), V.str ("#:")] : List V) = [V.str (txt [42, 58, 42]), V.str (txt [35, 58])] := by decide +kernel
    have f8 : fitsL [42, 42] [48] = true := by decide +kernel
    have y8 : ([V.str ("**"), V.str ("0")] : List V) = [V.str (txt [42, 42]), V.str (txt [48])] := by decide +kernel
    refine ⟨fun σ' H' => ∃ l, σ' = [some (.ref a), a1, a2, a3, some (.ref l)] ∧ H' l = some (.lst [.bl true, .bl false, .bl true, .bl false]), ?_, ?_⟩
    · refine ⟨("a" : Str), 6, rfl, rfl, by decide, by decide, by decide, by decide, [42, 97, 42, 97, 42, 97, 42, 97, 42, 97, 42, 97], [97, 97, 97, 97, 97, 97], y0, by decide +kernel, by decide +kernel, fun H2 s2 => ?_⟩
      refine ⟨("a" : Str), 5, rfl, rfl, by decide, by decide, by decide, by decide, [42, 97, 42, 97, 42, 97, 42, 97, 42, 97, 42, 97], [97, 97, 97, 97, 97], y1, by decide +kernel, by decide +kernel, fun H3 s3 => ?_⟩
      refine ⟨("*" : Str), 12, rfl, rfl, by decide, by decide, by decide, by decide, [42, 42, 42, 42, 42, 42, 42, 42, 42, 42, 42, 42], [36], y2, by decide +kernel, by decide +kernel, fun H4 s4 => ?_⟩
      refine ⟨[42, 63, 42, 63, 42], [97], y3, by decide +kernel, by decide +kernel, fun H5 s5 => ⟨by show 4 ≤ sizeLine; decide, fun l nl => ⟨l, rfl, ?_⟩⟩⟩
      rw [upd_same, f0, f1, f2, f3]
    rintro σ2 H2 ⟨l, rfl, e2⟩
    refine ⟨fun σ' H' => ∃ l, σ' = [some (.ref a), a1, a2, a3, some (.ref l)] ∧ H' l = some (.lst [.bl true, .bl false, .bl true, .bl false, .bl true, .bl true, .bl false, .bl true, .bl true]), ?_, ?_⟩
    · refine ⟨_, rfl, ("?" : Str), 12, rfl, rfl, by decide, by decide, by decide, by decide, ("_" : Str), 12, rfl, rfl, by decide, by decide, by decide, by decide, [63, 63, 63, 63, 63, 63, 63, 63, 63, 63, 63, 63], [95, 95, 95, 95, 95, 95, 95, 95, 95, 95, 95, 95], y4, by decide +kernel, by decide +kernel, fun H3 s3 => ?_⟩
      refine ⟨[97, 42, 98], [97, 98], y5, by decide +kernel, by decide +kernel, fun H4 s4 => ?_⟩
      refine ⟨[97, 42, 98], [97, 98, 97], y6, by decide +kernel, by decide +kernel, fun H5 s5 => ?_⟩
      refine ⟨[42, 58, 42], [35, 58], y7, by decide +kernel, by decide +kernel, fun H6 s6 => ?_⟩
      refine ⟨[42, 42], [48], y8, by decide +kernel, by decide +kernel, fun H7 s7 => ⟨by show 5 ≤ sizeLine; decide, fun m nm => ?_⟩⟩
      have e7 := s7 _ _ (s6 _ _ (s5 _ _ (s4 _ _ (s3 _ _ e2))))
      refine ⟨l, m, _, _, rfl, rfl, same_upd nm _ _ e7, upd_same, by show 4 + 5 ≤ sizeLine; decide, fun l2 n2 => ⟨l2, rfl, ?_⟩⟩
      rw [upd_same, f4, f5, f6, f7, f8]
      rfl
    rintro σ3 H3 ⟨l3, rfl, e3⟩
    refine ⟨_, rfl, _, told9, rfl, dv_told9 e3, told9_fit, by show 9 ≤ sizeLine; decide, fun m nm => ⟨_, told9, rfl, dv_told9 upd_same, told9_fit, rfl, ?_⟩⟩
    have e : decide (V.str told9.shown = V.str told9.shown) = true := decide_eq_true rfl
    rw [e]
    exact q _
end
end K0
end
/-! ### END -/
section
set_option Elab.async false
set_option linter.all false
set_option maxRecDepth 100000
set_option maxHeartbeats 4000000
/-! The end of a law whose promise is kept where nothing is being shown, beside one table of code objects. -/
namespace K0
open PySem PySem.Spec PyProof.Rows L2 LamX
theorem isTab_other {h : Heap} {b P : Addr} {o : Obj} (t : h.get? P = some { cls := .none, data := .fields #[] }) (e : h.get? b = some o) (d : o.data ≠ .fields #[]) : b ≠ P := fun z => by
  rw [z, t] at e
  cases e
  exact d rfl
section
variable {P : Program} {w : World} {K : PySem.W.Frag} {mg : Str → Option Value} {CX : CXT} {k : Nat} {f : Addr} {fd : FuncData}
theorem lawGT {a c T : Addr} {mb : Str → Option Value} {x : Str} {sp : Sp} {s₁ : Shared} {vs : List Value} {ns : List Int} (KX : K.In s₁.heap) (hns : s₁.heap.Ns mainGlobals mg) (hmb : s₁.heap.Ns builtinsNs mb) (hbb : ∀ x : Str, x ≠ "__name__" → mb x = bootBuiltins x) (lim : s₁.heap.NoLimit) (gens : s₁.gens = #[])
    (tab : s₁.heap.get? T = some { cls := .none, data := .fields #[] }) (out : K.lookup T = none) (code : PySem.W.CodeHd s₁.heap c T)
    (blt : ∃ (bm : Addr) (ob : Obj), mg "__builtins__" = some (.ref bm) ∧ bm ≠ builtinsNs ∧ s₁.heap.get? bm = some ob ∧ ob.cls = .type "module" ∧ ob.dict = some builtinsNs ∧ ob.data = .plain)
    (obj : s₁.heap.get? a = some { cls := .type "list", data := .seq vs.toArray }) (its : IntsAre vs ns) (most : ns.length ≤ sizeLine) (room : Room k callerA) (F : ∀ base : Heap, K.In base → base.Ns mainGlobals mg → TabB base mg c T → FnG P w K mg base CX k f fd [x] sp)
    (bind : ∀ (s : Shared) (u : Value), BindsTo s fd ⟨[u], []⟩ [(x, u)]) (prom : ∀ H : Hp, H T = some (.tbl #[]) → SqL K H a (ns.map V.int) → sp [.ref a] H (fun v _ => v = .bl true) fun _ _ _ => False) (none_out : ∀ H e s', CX [] H s₁ (fun _ _ _ => False) e s' → False) :
    codeAny (model P w) callerA (.call (.ref f) ⟨[.ref a], []⟩) (fun r s' => r = .ok (.ret (.bool true)) ∧ OldK s₁.heap s'.heap ∧ s'.os = s₁.os ∧ AllBare s'.gens) s₁ := by
  have rel := vals_ints its
  have size := its.length
  have aT : a ≠ T := isTab_other tab obj fun z => by cases z
  have main : ∀ H : Hp, H T = some (.tbl #[]) → (∀ b, b ≠ T → H b = none ∨ (b = a ∧ K.lookup a = none ∧ ∃ o xs, H b = some (.frz o (.lst xs)))) → SqL K H a (ns.map V.int) → HOk P w H s₁.heap →
      codeAny (model P w) callerA (.call (.ref f) ⟨[.ref a], []⟩) (fun r s' => r = .ok (.ret (.bool true)) ∧ OldK s₁.heap s'.heap ∧ s'.os = s₁.os ∧ AllBare s'.gens) s₁ := by
    intro H hT only seq hok
    have free : ∀ {b : Addr} {o : Obj}, s₁.heap.get? b = some o → o.data ≠ .fields #[] → (∀ us n, o.data ≠ .seq us n) → H b = none := fun {b o} e d1 d2 => by
      rcases only b (isTab_other tab e d1) with z | ⟨rfl, _, _⟩
      · exact z
      · rw [obj] at e
        cases e
        exact (d2 _ _ rfl).elim
    have keepNs : ∀ {b : Addr} {m : Str → Option Value}, s₁.heap.Ns b m → (hidT s₁.heap H).Ns b m := fun {b m} ⟨o, es, ep, e, d, r⟩ =>
      ⟨o, es, ep, hidT_get e (free e (fun z => by rw [d] at z; cases z) fun us n z => by rw [d] at z; cases z), d, r⟩
    have kin : K.In (hidT s₁.heap H) := fun b o e => hidT_get (KX b o e) (by
      by_cases bT : b = T
      · rw [bT, out] at e
        cases e
      · rcases only b bT with z | ⟨rfl, z, _⟩
        · exact z
        · rw [z] at e
          cases e)
    have mod : Mod K mg (hidT s₁.heap H) := ⟨kin, keepNs hns, ⟨mb, keepNs hmb, hbb⟩, lim.elim fun mc z => ⟨mc, keepNs z.1, z.2⟩⟩
    have gT : mainGlobals ≠ T := hns.elim fun o z => z.elim fun es z => z.elim fun ep z => isTab_other tab z.1 fun y => by rw [z.2.1] at y; cases y
    have TB : TabB (hidT s₁.heap H) mg c T := by
      refine ⟨?_, ?_, gT⟩
      · obtain ⟨o, us, fl, tf, fg, tg, iF, tx, tt, e1, r1, r2, r3, rest⟩ := code
        exact ⟨o, us, fl, tf, fg, tg, iF, tx, tt, hidT_get e1 (free e1 (fun z => by rw [r2] at z; cases z; simp at r3) fun us n z => by rw [r2] at z; cases z), r1, r2, r3, rest⟩
      · obtain ⟨bm, ob, b1, b2, b3, b4, b5, b6⟩ := blt
        have nG : bm ≠ mainGlobals := fun z => hns.elim fun o y => y.elim fun es y => y.elim fun ep y => by
          have e := y.1
          rw [← z, b3] at e
          cases e
          rw [b6] at y
          cases y.2.1
        exact ⟨bm, ob, b1, b2, nG, isTab_other tab b3 (fun z => by rw [b6] at z; cases z), hidT_get b3 (free b3 (fun z => by rw [b6] at z; cases z) fun us n z => by rw [b6] at z; cases z), b4, b5, b6⟩
    have e0 : Env0 P w K mg (hidT s₁.heap H) callerA [] s₁ H := ⟨rfl, mod, fun b o e => of_hidT e, Nat.le_of_eq (hidT_size _ _), trivial, (fun b z => nomatch (show b ∈ ([] : List Addr) from z)), hok, .of_eq gens⟩
    refine codeAny_mono ((F _ kin (keepNs hns) TB).go callerA [] s₁ H ⟨[.ref a], []⟩ [.ref a] [.ref a] _ _ rfl room e0 (bind s₁ (.ref a)) (.cons rfl .nil) (prom H hT seq)) fun r s' z => ?_
    rcases r with e | fl
    · exact (none_out H e s' z).elim
    cases fl with
    | next => exact z.elim
    | brk => exact z.elim
    | cont => exact z.elim
    | ret u =>
      obtain ⟨v, H', os, bare, un, hok', rv, rfl⟩ := z
      obtain rfl : u = Value.bool true := rv
      obtain ⟨more, grown⟩ := un.tbls T #[] hT
      have tab' : s'.heap.get? T = some { cls := .none, data := .fields (#[] ++ more) } := hok' T _ grown
      have key : ∀ b o, b ≠ T → s₁.heap.get? b = some o → s'.heap.get? b = some o := fun b o n e => by
        rcases only b n with z | ⟨_, _, ob, xs, z⟩
        · exact un.keep b o e z (fun y => nomatch (show b ∈ ([] : List Addr) from y)) fun y => nomatch y
        · obtain ⟨e1, _⟩ := hok b _ z
          obtain ⟨e2, _⟩ := hok' b _ (un.frzs b ob _ z)
          rw [e] at e1
          cases e1
          exact e2
      refine ⟨rfl, ⟨fun b o e => ?_, fun b o e => ?_⟩, os, bare⟩
      · by_cases n : b = T
        · rw [n] at e ⊢
          rw [tab] at e
          cases e
          exact .inr (.inl ⟨(code.tab tab).isCodeTable, rfl, #[], more, rfl, tab'⟩)
        · exact .inl (key b o n e)
      · by_cases n : b = T
        · exact ⟨_, n ▸ tab'⟩
        · exact ⟨o, key b o n e⟩
  cases own : K.lookup a with
  | some o =>
    have e := KX a o own
    rw [obj] at e
    cases e
    refine main (fun b => if b = T then some (.tbl #[]) else none) (if_pos rfl) (fun b n => .inl (if_neg n)) (.inr ⟨_, vs.toArray, _, own, rfl, rfl, rfl, by rw [List.size_toArray, size]; exact most, by simpa using rel⟩) fun b u z => ?_
    by_cases n : b = T
    · have z2 := (if_pos n).symm.trans z
      cases z2
      exact n ▸ tab
    · have z2 := (if_neg n).symm.trans z
      cases z2
  | none =>
    have at_a : ∀ {b : Addr}, b = a → (if b = T then some (HO.tbl #[]) else if b = a then some (HO.frz { cls := .type "list", data := .seq vs.toArray } (.lst (ns.map V.int))) else none) = some (HO.frz { cls := .type "list", data := .seq vs.toArray } (.lst (ns.map V.int))) := fun {b} z =>
      (if_neg (show ¬ b = T by rw [z]; exact aT)).trans (if_pos z)
    refine main (fun b => if b = T then some (.tbl #[]) else if b = a then some (.frz { cls := .type "list", data := .seq vs.toArray } (.lst (ns.map V.int))) else none) (if_pos rfl) (fun b n => ?_) (.inl (.inr ⟨_, at_a rfl⟩)) fun b u z => ?_
    · by_cases m : b = a
      · exact .inr ⟨m, own, _, _, at_a m⟩
      · exact .inl ((if_neg n).trans (if_neg m))
    · by_cases n : b = T
      · have z2 := (if_pos n).symm.trans z
        cases z2
        exact n ▸ tab
      · by_cases m : b = a
        · have z2 := (at_a m).symm.trans z
          cases z2
          subst m
          exact ⟨obj, by rw [List.length_map]; exact most, vs, _, rel, obj⟩
        · have z2 := ((if_neg n).trans (if_neg m)).symm.trans z
          cases z2
end
/-- the end over a head by facts -/
theorem walkGT {l : PySem.W.OpenLaw} {n k : Nat} {q : Program} {loose : List Str} {XP : (Str → Option Value) → Heap → Prop} {YP : World → Heap → Prop} {d : DefRec} {x : Str}
    (hn : l.most = some n) (hn2 : n ≤ sizeLine) (hdf : d.params.defaults = []) (room : Room k callerA)
    (F : ∀ (w : World) (mg : Str → Option Value) (f : Addr) (h : Heap), YP w h → h.Ns mainGlobals mg → mg d.name = some (.ref f) → ∃ (K : PySem.W.Frag) (c T : Addr), K.In h ∧ h.get? T = some { cls := .none, data := .fields #[] } ∧ K.lookup T = none ∧ PySem.W.CodeHd h c T ∧
      ∃ fd : FuncData, (∀ (s : Shared) (u : Value), BindsTo s fd ⟨[u], []⟩ [(x, u)]) ∧ ∀ base : Heap, K.In base → base.Ns mainGlobals mg → TabB base mg c T → FnG l.prog w K mg base CX0 k f fd [x] (spLaw K T)) :
    PySem.W.WalkO q loose XP YP l.row.toRowW d [] (fun f vs => PySem.call f vs) := by
  refine Att.attach_call hn hdf fun w s₀ s₁ mg mb f o pm cd doc a vs ns G Y ho hd hcd hmg hobj its len gens => ?_
  obtain ⟨K, c, T, KX, tab, out, code, fd, b, G2⟩ := F w mg f _ Y G.T.g hmg
  exact lawGT KX G.T.g G.T.b G.T.builtins G.T.nolimit gens tab out code G.T.bmain hobj its (Nat.le_trans len hn2) room G2 b (fun H t seq => ⟨a, ns, rfl, seq, fun x hx => by
    rw [List.mem_singleton.mp hx]
    exact TabS.nil t, fun _ => rfl⟩) fun H e s' z => z
end K0
end
/-! ### KH -/
section
set_option Elab.async false
set_option linter.all false
set_option maxRecDepth 100000
set_option maxHeartbeats 0
/-! The head of k54: what the top leaves, told by a Hook of its own; the run of the top. -/
namespace K0
open PySem PySem.Spec PyProof.Rows L2 Pat LamX
abbrev R : PySem.W.OpenRow := PySem.W.OpenLaw.row PySem.Challenge.rw_cleandress_k54_patterns_of_paths
def fnT : List (Str × Nat) := [("is_text", 5), ("bits_of", 7), ("places_onward", 8), ("places_behind", 13), ("places_of", 14), ("fitting_ones", 15), ("is_path", 18), ("is_path_pattern", 19), ("check_path", 20), ("fits", 21), ("_law_dice", 23), ("_law_roll", 24), ("_law_one_of", 25), ("_law_mixed", 26), ("_law_all_signs", 27),
  ("_law_signs", 28), ("_law_texts", 29), ("_law_fits", 30), ("_law_pattern", 31), ("_law_by_splits", 32), ("_law_word_of", 33), ("_law_short_right", 34), ("_law_long_right", 35), ("_law_odd_right", 36), ("law", 37)]
def dIni : He.DefD := ⟨("Fitting", some "__init__"), "__init__", "Fitting.__init__", defArgs fini, defBody fini, defScope fini, [], []⟩
def fn : List He.DefD := (fnT.map fun z => dfn z.1 z.2) ++ [dIni]
def frees : List Str := ["abs", "int", "max", "min", "len", "range", "isinstance", "repr", "str", "tuple", "list", "sorted", "enumerate"]
def fa : List He.Fa := (fnT.map fun z => He.Fa.glo z.1) ++ (frees.map He.Fa.free ++ [.glo "Fitting", .glo "InvalidText", .glo "DressError", .str "SIGNS" allSigns, .str "STAR" "*", .str "ANY" "?", .int "MAX_PATH" 12, .cls "Fitting", .noat "Fitting" "stays", .noat "Fitting" "skips", .noat "Fitting" "takes", .noat "Fitting" "ends", .noat "Fitting" "first", .mkr "Fitting", .exc "InvalidText", .exm "InvalidText" "InvalidText" true])
def names : List Str := (["DressError", "InvalidText", "SIGNS", "is_text", "bits_of", "places_onward", "STAR", "ANY", "Fitting", "places_behind", "places_of", "fitting_ones", "MAX_PATH", "is_path", "is_path_pattern", "check_path", "fits"] : List Str) ++
  (["_law_dice", "_law_roll", "_law_one_of", "_law_mixed", "_law_all_signs", "_law_signs", "_law_texts", "_law_fits", "_law_pattern", "_law_by_splits", "_law_word_of", "_law_short_right", "_law_long_right", "_law_odd_right"] : List Str)
abbrev pOdd : He.Defn := ("_law_odd_right", none)
abbrev tabO : Obj := { cls := .none, data := .fields #[] }
abbrev AlA : Type := He.AlD × Bool
def KofG (g : Addr → Option Obj) : PySem.W.Frag := He.frT g (sysModules :: He.asD g 5)
def moreB (g : Addr → Option Obj) (K : PySem.W.Frag) : Bool := sysB K && (PySem.W.codeHdIn K (He.cT K pOdd).1 (He.cT K pOdd).2 && (match g (He.cT K pOdd).2 with
  | some o => He.emptyTab o
  | none => false))
def obsAG (g : Addr → Option Obj) : AlA := (He.obsD fa fn (KofG g), moreB g (KofG g))
def valA : AlA := (He.valD fn, true)
structure SaysA (h : Heap) (K : PySem.W.Frag) : Prop where
  d : He.SaysD fa fn K
  sb : sysB K = true
  hd : PySem.W.codeHdIn K (He.cT K pOdd).1 (He.cT K pOdd).2 = true
  out : K.lookup (He.cT K pOdd).2 = none
  tab : h.get? (He.cT K pOdd).2 = some tabO
theorem says_of {h : Heap} (e : obsAG h.get? = valA) : SaysA h (KofG h.get?) := by
  have e1 : He.SaysD fa fn (KofG h.get?) := congrArg (fun z : AlA => z.1) e
  have e2 : moreB h.get? (KofG h.get?) = true := congrArg (fun z : AlA => z.2) e
  unfold moreB at e2
  obtain ⟨h1, e2⟩ := He.ba e2
  obtain ⟨h2, h3⟩ := He.ba e2
  cases q : h.get? (He.cT (KofG h.get?) pOdd).2 with
  | none => rw [q] at h3; cases h3
  | some o =>
    rw [q] at h3
    exact ⟨e1, h1, h2, He.frT_none q h3, by rw [q, He.emptyTab_eq h3]⟩
def hookA : PySem.W.Hook where
  α := AlA
  obs := fun s => obsAG s.heap.get?
  val := fun _ => valA
  says := fun _ h => ∃ K : PySem.W.Frag, K.In h ∧ SaysA h K
  of := fun _ _ e => ⟨_, He.frT_in, says_of e⟩
  keeps := fun _ _ _ ⟨K, hK, c⟩ k => ⟨K, PySem.W.Frag.In.keeps hK k, ⟨c.d, c.sb, c.hd, c.out, k _ _ c.tab⟩⟩
def obA (s : PySem.W.SharedT) : AlA := obsAG (HandSHeadRun.getT s)
theorem obA_eq (s : PySem.W.SharedT) : obA s = hookA.obs s.abs := by
  have e : HandSHeadRun.getT s = s.abs.heap.get? := funext (HandSHeadRun.getT_eq s)
  show obsAG _ = obsAG _
  rw [e]
theorem runA (w : World) : HandSHeadRun.RunEq R (PySem.W.view R.prog [37]) hookA obA 20000 names w := by
  intro os
  kernel_rfl
end K0
end
/-! ### KF -/
section
set_option Elab.async false
set_option linter.all false
set_option maxRecDepth 100000
set_option maxHeartbeats 0
/-! The facts unpacked; each def keeps its promise. -/
namespace K0
open PySem PySem.Spec PyProof.Rows L2 Pat LamX
theorem facts {P : Program} {w : World} {K : PySem.W.Frag} {h : Heap} {mg : Str → Option Value} {f : Addr} (X : K.In h) (G : h.Ns mainGlobals mg) (hfa : mg ("law" : Str) = some (.ref f)) (c : SaysA h K) :
    ∃ (cc T : Addr), h.get? T = some { cls := .none, data := .fields #[] } ∧ K.lookup T = none ∧ PySem.W.CodeHd h cc T ∧
    ∃ fd : FuncData, (∀ (s : Shared) (v : Value), BindsTo s fd ⟨[v], []⟩ [("script", v)]) ∧ ∀ base : Heap, K.In base → base.Ns mainGlobals mg → TabB base mg cc T → FnG P w K mg base CX0 22 f fd ["script"] (spLaw K T) := by
  have d := c.d
  have sb := c.sb
  obtain ⟨fdTx, FTx⟩ := d.def_ 0 (d := dfn "is_text" 5) rfl
  have gTx := He.glo_ok X G (d.fact 0 (f := .glo "is_text") rfl)
  have bTx : Binds K fdTx ["value"] [] := FTx.bindsN fun _ _ _ _ _ _ us hl => match us, hl with | [_], _ => rfl
  obtain ⟨fdBi, FBi⟩ := d.def_ 1 (d := dfn "bits_of" 7) rfl
  have gBi := He.glo_ok X G (d.fact 1 (f := .glo "bits_of") rfl)
  have bBi : Binds K fdBi ["marks"] [] := FBi.bindsN fun _ _ _ _ _ _ us hl => match us, hl with | [_], _ => rfl
  obtain ⟨fdOw, FOw⟩ := d.def_ 2 (d := dfn "places_onward" 8) rfl
  have gOw := He.glo_ok X G (d.fact 2 (f := .glo "places_onward") rfl)
  have bOw : Binds K fdOw ["places", "free"] [] := FOw.bindsN fun _ _ _ _ _ _ us hl => match us, hl with | [_, _], _ => rfl
  obtain ⟨fdPb, FPb⟩ := d.def_ 3 (d := dfn "places_behind" 13) rfl
  have gPb := He.glo_ok X G (d.fact 3 (f := .glo "places_behind") rfl)
  have bPb : Binds K fdPb ["fitting", "places", "sign"] [] := FPb.bindsN fun _ _ _ _ _ _ us hl => match us, hl with | [_, _, _], _ => rfl
  obtain ⟨fdPo, FPo⟩ := d.def_ 4 (d := dfn "places_of" 14) rfl
  have gPo := He.glo_ok X G (d.fact 4 (f := .glo "places_of") rfl)
  have bPo : Binds K fdPo ["fitting", "text"] [] := FPo.bindsN fun _ _ _ _ _ _ us hl => match us, hl with | [_, _], _ => rfl
  obtain ⟨fdFo, FFo⟩ := d.def_ 5 (d := dfn "fitting_ones" 15) rfl
  have gFo := He.glo_ok X G (d.fact 5 (f := .glo "fitting_ones") rfl)
  have bFo : Binds K fdFo ["fitting", "places"] [] := FFo.bindsN fun _ _ _ _ _ _ us hl => match us, hl with | [_, _], _ => rfl
  obtain ⟨fdPa, FPa⟩ := d.def_ 6 (d := dfn "is_path" 18) rfl
  have gPa := He.glo_ok X G (d.fact 6 (f := .glo "is_path") rfl)
  have bPa : Binds K fdPa ["value"] [] := FPa.bindsN fun _ _ _ _ _ _ us hl => match us, hl with | [_], _ => rfl
  obtain ⟨fdPp, FPp⟩ := d.def_ 7 (d := dfn "is_path_pattern" 19) rfl
  have gPp := He.glo_ok X G (d.fact 7 (f := .glo "is_path_pattern") rfl)
  have bPp : Binds K fdPp ["value"] [] := FPp.bindsN fun _ _ _ _ _ _ us hl => match us, hl with | [_], _ => rfl
  obtain ⟨fdCp, FCp⟩ := d.def_ 8 (d := dfn "check_path" 20) rfl
  have gCp := He.glo_ok X G (d.fact 8 (f := .glo "check_path") rfl)
  have bCp : Binds K fdCp ["value"] [] := FCp.bindsN fun _ _ _ _ _ _ us hl => match us, hl with | [_], _ => rfl
  obtain ⟨fdFi, FFi⟩ := d.def_ 9 (d := dfn "fits" 21) rfl
  have gFi := He.glo_ok X G (d.fact 9 (f := .glo "fits") rfl)
  have bFi : Binds K fdFi ["pattern", "path"] [] := FFi.bindsN fun _ _ _ _ _ _ us hl => match us, hl with | [_, _], _ => rfl
  obtain ⟨fdDi, FDi⟩ := d.def_ 10 (d := dfn "_law_dice" 23) rfl
  have gDi := He.glo_ok X G (d.fact 10 (f := .glo "_law_dice") rfl)
  have bDi : Binds K fdDi ["script", "at"] [] := FDi.bindsN fun _ _ _ _ _ _ us hl => match us, hl with | [_, _], _ => rfl
  obtain ⟨fdRo, FRo⟩ := d.def_ 11 (d := dfn "_law_roll" 24) rfl
  have gRo := He.glo_ok X G (d.fact 11 (f := .glo "_law_roll") rfl)
  have bRo : Binds K fdRo ["dice", "total"] [] := FRo.bindsN fun _ _ _ _ _ _ us hl => match us, hl with | [_, _], _ => rfl
  obtain ⟨fdOn, FOn⟩ := d.def_ 12 (d := dfn "_law_one_of" 25) rfl
  have gOn := He.glo_ok X G (d.fact 12 (f := .glo "_law_one_of") rfl)
  have bOn : Binds K fdOn ["dice", "items"] [] := FOn.bindsN fun _ _ _ _ _ _ us hl => match us, hl with | [_, _], _ => rfl
  obtain ⟨fdMi, FMi⟩ := d.def_ 13 (d := dfn "_law_mixed" 26) rfl
  have gMi := He.glo_ok X G (d.fact 13 (f := .glo "_law_mixed") rfl)
  have bMi : Binds K fdMi ["dice", "items"] [] := FMi.bindsN fun _ _ _ _ _ _ us hl => match us, hl with | [_, _], _ => rfl
  obtain ⟨fdAl, FAl⟩ := d.def_ 14 (d := dfn "_law_all_signs" 27) rfl
  have gAl := He.glo_ok X G (d.fact 14 (f := .glo "_law_all_signs") rfl)
  have bAl : Binds K fdAl [] [] := FAl.bindsN fun _ _ _ _ _ _ us hl => match us, hl with | [], _ => rfl
  obtain ⟨fdLs, FLs⟩ := d.def_ 15 (d := dfn "_law_signs" 28) rfl
  have gLs := He.glo_ok X G (d.fact 15 (f := .glo "_law_signs") rfl)
  have bLs : Binds K fdLs ["dice", "upto"] [] := FLs.bindsN fun _ _ _ _ _ _ us hl => match us, hl with | [_, _], _ => rfl
  obtain ⟨fdLt, FLt⟩ := d.def_ 16 (d := dfn "_law_texts" 29) rfl
  have gLt := He.glo_ok X G (d.fact 16 (f := .glo "_law_texts") rfl)
  have bLt : Binds K fdLt ["signs", "upto"] [] := FLt.bindsN fun _ _ _ _ _ _ us hl => match us, hl with | [_, _], _ => rfl
  obtain ⟨fdLf, FLf⟩ := d.def_ 17 (d := dfn "_law_fits" 30) rfl
  have gLf := He.glo_ok X G (d.fact 17 (f := .glo "_law_fits") rfl)
  have bLf : Binds K fdLf ["pattern", "path"] [] := FLf.bindsN fun _ _ _ _ _ _ us hl => match us, hl with | [_, _], _ => rfl
  obtain ⟨fdLp, FLp⟩ := d.def_ 18 (d := dfn "_law_pattern" 31) rfl
  have gLp := He.glo_ok X G (d.fact 18 (f := .glo "_law_pattern") rfl)
  have bLp : Binds K fdLp ["dice", "signs", "size"] [] := FLp.bindsN fun _ _ _ _ _ _ us hl => match us, hl with | [_, _, _], _ => rfl
  obtain ⟨fdSp, FSp⟩ := d.def_ 19 (d := dfn "_law_by_splits" 32) rfl
  have gSp := He.glo_ok X G (d.fact 19 (f := .glo "_law_by_splits") rfl)
  have bSp : Binds K fdSp ["pattern", "path"] [] := FSp.bindsN fun _ _ _ _ _ _ us hl => match us, hl with | [_, _], _ => rfl
  obtain ⟨fdWo, FWo⟩ := d.def_ 20 (d := dfn "_law_word_of" 33) rfl
  have gWo := He.glo_ok X G (d.fact 20 (f := .glo "_law_word_of") rfl)
  have bWo : Binds K fdWo ["call"] [] := FWo.bindsN fun _ _ _ _ _ _ us hl => match us, hl with | [_], _ => rfl
  obtain ⟨fdSh, FSh⟩ := d.def_ 21 (d := dfn "_law_short_right" 34) rfl
  have gSh := He.glo_ok X G (d.fact 21 (f := .glo "_law_short_right") rfl)
  have bSh : Binds K fdSh ["dice", "signs"] [] := FSh.bindsN fun _ _ _ _ _ _ us hl => match us, hl with | [_, _], _ => rfl
  obtain ⟨fdLo, FLo⟩ := d.def_ 22 (d := dfn "_law_long_right" 35) rfl
  have gLo := He.glo_ok X G (d.fact 22 (f := .glo "_law_long_right") rfl)
  have bLo : Binds K fdLo ["dice", "signs"] [] := FLo.bindsN fun _ _ _ _ _ _ us hl => match us, hl with | [_, _], _ => rfl
  obtain ⟨fdOd, FOd⟩ := d.def_ 23 (d := dfn "_law_odd_right" 36) rfl
  have gOd := He.glo_ok X G (d.fact 23 (f := .glo "_law_odd_right") rfl)
  have bOd : Binds K fdOd ["dice", "signs"] [] := FOd.bindsN fun _ _ _ _ _ _ us hl => match us, hl with | [_, _], _ => rfl
  obtain ⟨fdLw, FLw⟩ := d.def_ 24 (d := dfn "law" 37) rfl
  have gLw := He.glo_ok X G (d.fact 24 (f := .glo "law") rfl)
  have bLw : Binds K fdLw ["script"] [] := FLw.bindsN fun _ _ _ _ _ _ us hl => match us, hl with | [_], _ => rfl
  obtain ⟨fdIn, FIn⟩ := d.def_ 25 (d := dIni) rfl
  have bIn : Binds K fdIn ["self", "patterns"] [] := FunD.bindsN FIn fun _ _ _ _ _ _ us hl => match us, hl with | [_, _], _ => rfl
  have mabs := He.free_ok X G (d.fact 25 (f := .free "abs") rfl)
  have mint := He.free_ok X G (d.fact 26 (f := .free "int") rfl)
  have mmax := He.free_ok X G (d.fact 27 (f := .free "max") rfl)
  have mmin := He.free_ok X G (d.fact 28 (f := .free "min") rfl)
  have mlen := He.free_ok X G (d.fact 29 (f := .free "len") rfl)
  have mrange := He.free_ok X G (d.fact 30 (f := .free "range") rfl)
  have misinstance := He.free_ok X G (d.fact 31 (f := .free "isinstance") rfl)
  have mrepr := He.free_ok X G (d.fact 32 (f := .free "repr") rfl)
  have mstr := He.free_ok X G (d.fact 33 (f := .free "str") rfl)
  have mtuple := He.free_ok X G (d.fact 34 (f := .free "tuple") rfl)
  have mlist := He.free_ok X G (d.fact 35 (f := .free "list") rfl)
  have msorted := He.free_ok X G (d.fact 36 (f := .free "sorted") rfl)
  have menumerate := He.free_ok X G (d.fact 37 (f := .free "enumerate") rfl)
  have gF : mg "Fitting" = some (.ref (He.ga K "Fitting")) := He.glo_ok X G (d.fact 38 (f := .glo "Fitting") rfl)
  have gE : mg "InvalidText" = some (.ref (He.ga K "InvalidText")) := He.glo_ok X G (d.fact 39 (f := .glo "InvalidText") rfl)
  have gD : mg "DressError" = some (.ref (He.ga K "DressError")) := He.glo_ok X G (d.fact 40 (f := .glo "DressError") rfl)
  have ms := He.str_ok X G (d.fact 41 (f := .str "SIGNS" allSigns) rfl)
  have mT := He.str_ok X G (d.fact 42 (f := .str "STAR" "*") rfl)
  have mA := He.str_ok X G (d.fact 43 (f := .str "ANY" "?") rfl)
  have mM := He.int_ok X G (d.fact 44 (f := .int "MAX_PATH" 12) rfl)
  have FK : FitK K (He.ga K "Fitting") := ⟨He.cls_ok (d.fact 45 (f := .cls "Fitting") rfl), He.noat_ok (d.fact 46 (f := .noat "Fitting" "stays") rfl), He.noat_ok (d.fact 47 (f := .noat "Fitting" "skips") rfl), He.noat_ok (d.fact 48 (f := .noat "Fitting" "takes") rfl), He.noat_ok (d.fact 49 (f := .noat "Fitting" "ends") rfl), He.noat_ok (d.fact 50 (f := .noat "Fitting" "first") rfl)⟩
  have mk : Mk K (He.ga K "Fitting") (He.ma K (He.ga K "Fitting") "__init__") := He.mkr_ok (d.fact 51 (f := .mkr "Fitting") rfl)
  obtain ⟨x1, x2, x3, x4⟩ := He.exc_ok (d.fact 52 (f := .exc "InvalidText") rfl)
  have TK : TxtK K (He.ga K "InvalidText") := ⟨x1, x2, x3, x4⟩
  have hm : PySem.W.exmOne K (.ref (He.ga K "InvalidText")) (.ref (He.ga K "InvalidText")) = some true := He.exm_ok (d.fact 53 (f := .exm "InvalidText" "InvalidText" true) rfl)
  have e := hfa.symm.trans gLw
  cases e
  have b := FunD.bindsA (ps := ["script"]) FLw fun _ _ _ _ _ _ us hl => match us, hl with | [_], _ => rfl
  have hc : fdOd.code = .ref (He.cT K pOdd).1 := by
    obtain ⟨oc, od, dV, kV, doc, pm, an, cdv, ct, osl, rfl, lk, hcd, _, _⟩ := FOd.ex
    obtain ⟨cc, rfl⟩ := He.codeIn_ref hcd
    exact congrArg Value.ref (He.codeOf_eq (p := pOdd) lk rfl).symm
  refine ⟨(He.cT K pOdd).1, (He.cT K pOdd).2, c.tab, c.out, PySem.W.codeHd_of_K X c.hd, fdLw, fun s v => b s [v] rfl, fun base _ _ TB => ?_⟩
  have roll : ∀ k, FnOk P w K mg base CX0 (k + 1) _ fdRo ["dice", "total"] spRoll := fun k => ok_roll FRo mint
  have one : ∀ k, FnOk P w K mg base CX0 (k + 2) _ fdOn ["dice", "items"] (spOne K) := fun k => ok_one FOn (roll k) gRo FRo.kp bRo mlen
  have mixed : ∀ k, FnOk P w K mg base CX0 (k + 2) _ fdMi ["dice", "items"] (spMixed K) := fun k => ok_mixed FMi mlist mlen mrange (roll k) gRo FRo.kp bRo
  have all' : ∀ k, FnOk P w K mg base CX0 (k + 1) _ fdAl [] spAll := fun k => ok_all FAl
  have lsigns : ∀ k, FnOk P w K mg base CX0 (k + 3) _ fdLs ["dice", "upto"] spSigns := fun k => ok_lsigns FLs mlist mtuple msorted (roll (k + 1)) gRo FRo.kp bRo (all' (k + 1)) gAl FAl.kp bAl (mixed k) gMi FMi.kp bMi
  have texts : ∀ k, FnOk P w K mg base CX0 (k + 1) _ fdLt ["signs", "upto"] (spTexts K) := fun k => ok_texts FLt mrange mlen
  have lfits : ∀ k, FnOk P w K mg base CX0 (k + 1) _ fdLf ["pattern", "path"] spLFits := fun k => ok_lfits FLf mrange mlen
  have pat : ∀ k, FnOk P w K mg base CX0 (k + 3) _ fdLp ["dice", "signs", "size"] (spPat K) := fun k => ok_pat FLp mlist mrange (roll (k + 1)) gRo FRo.kp bRo (one k) gOn FOn.kp bOn
  have splits : FnOk P w K mg base CX0 20 _ fdSp ["pattern", "path"] (spSplits 12) := ok_splits FSp gSp FSp.kp bSp 12 7
  have text : ∀ k, FnOk P w K mg base CX0 (k + 1) _ fdTx ["value"] (spD K isTextD) := fun k => ok_text FTx misinstance mstr ms
  have isPath : ∀ k, FnOk P w K mg base CX0 (k + 2) _ fdPa ["value"] (spD K isPathD) := fun k => ok_isPath FPa mlen mM (text k) gTx FTx.kp bTx
  have isPat : ∀ k, FnOk P w K mg base CX0 (k + 1) _ fdPp ["value"] (spD K isPatD) := fun k => ok_isPat FPp mlen misinstance mstr mM ms mT mA
  have bits' : ∀ k, FnOk P w K mg base CX0 (k + 1) _ fdBi ["marks"] (spBits K) := fun k => ok_bits FBi mint
  have onward : ∀ k, FnOk P w K mg base CX0 (k + 1) _ fdOw ["places", "free"] spOnward := fun k => ok_onward FOw
  have init : ∀ k, FnR P w K mg base CX0 (k + 2) (He.ma K (He.ga K "Fitting") "__init__") (spFini2 K (He.ga K "Fitting")) := fun k => (ok_fini FIn FK mlen mrange menumerate ms mT mA (bits' k) gBi FBi.kp bBi (onward k) gOw FOw.kp bOw).raw bIn .nil
  have pof : ∀ k, FnOk P w K mg base CX0 (k + 3) _ fdPo ["fitting", "text"] (spPOf (He.ga K "Fitting")) := fun k => ok_pof FPo FK (ok_pbeh FPb FK (onward k) gOw FOw.kp bOw) gPb FPb.kp bPb
  have ones : ∀ k, FnOk P w K mg base CX0 (k + 1) _ fdFo ["fitting", "places"] (spOnes (He.ga K "Fitting")) := fun k => ok_ones FFo FK
  have fits' : ∀ k, FnOk P w K mg base CX0 (k + 4) _ fdFi ["pattern", "path"] spFits := fun k => ok_fits FFi TK gE gF mk (init k) (isPat (k + 2)) gPp FPp.kp bPp (ok_check (k := k) FCp TK gE (isPath k) gPa FPa.kp bPa) gCp FCp.kp bCp (pof k) gPo FPo.kp bPo (ones (k + 2)) gFo FFo.kp bFo
  have fitsX : ∀ k, FnOk P w K mg base (L2.CX P w) (k + 4) _ fdFi ["pattern", "path"] (spFitsX K (He.ga K "InvalidText")) := fun k => ok_fitsX FFi TK gE gF mk (init k) (isPat (k + 2)) gPp FPp.kp bPp (ok_checkX (k := k) FCp TK gE (isPath k) gPa FPa.kp bPa) gCp FCp.kp bCp (pof k) gPo FPo.kp bPo (ones (k + 2)) gFo FFo.kp bFo
  have short : FnOk P w K mg base CX0 21 _ fdSh ["dice", "signs"] (spShort K) := ok_short (k := 20) FSh mlen mrepr (pat 17) gLp FLp.kp bLp (texts 19) gLt FLt.kp bLt (lfits 19) gLf FLf.kp bLf splits gSp FSp.kp bSp (fits' 16) gFi FFi.kp bFi
  have long : FnOk P w K mg base CX0 21 _ fdLo ["dice", "signs"] (spLong K) := ok_long (k := 20) FLo mlen mrepr mrange (roll 19) gRo FRo.kp bRo (one 18) gOn FOn.kp bOn (pat 17) gLp FLp.kp bLp (lfits 19) gLf FLf.kp bLf (fits' 16) gFi FFi.kp bFi
  have oddr : FnG P w K mg base CX0 21 _ fdOd ["dice", "signs"] (spOddR (He.cT K pOdd).2) := ok_oddr (k := 18) FOd hc TB sb mrepr (one 18) gOn FOn.kp bOn (isPath 18) gPa FPa.kp bPa (isPat 19) gPp FPp.kp bPp FWo gWo bWo gE gD hm (fitsX 14) gFi FFi.kp bFi
  exact ok_law (n := 21) FLw sb mrange mmax mmin mlen mrepr (ok_dice (k := 20) FDi mlen mint mabs mmax) gDi FDi.kp bDi (lsigns 18) gLs FLs.kp bLs short gSh FSh.kp bSh long gLo FLo.kp bLo oddr gOd FOd.kp bOd (fits' 17) gFi FFi.kp bFi
end K0
end
/-! ### KE -/
set_option Elab.async false
set_option linter.all false
set_option maxRecDepth 100000
set_option maxHeartbeats 0
open PySem PySem.W PySem.Calls PyProof.Rows
theorem PySem.Challenge.cw_cleandress_k54_patterns_of_paths_holds : PySem.Challenge.rw_cleandress_k54_patterns_of_paths.Holds := by
  w_on; o_law
  refine HandSHeadRun.head_any (r := K0.R) (q := view K0.R.prog [37]) (H := K0.hookA) (ob := K0.obA) (M := 20000) (loose := K0.names) (d := HandSHeadRun.topDef K0.R.prog 37) (kwd := []) K0.obA_eq
    (by kernel_rfl) (fun s => by kernel_rfl) K0.runA (by kernel_rfl) (by kernel_rfl) (by kernel_rfl) (by rfl) (by first | assumption | decide +kernel) (by decide +kernel) ⟨rfl, rfl, rfl, rfl, rfl, by decide +kernel⟩ ?hw ?hc
  case hw => w_witness2
  case hc =>
    refine K0.walkGT (l := PySem.Challenge.rw_cleandress_k54_patterns_of_paths) (n := 63) (k := 22) (x := "script") rfl (by decide) (by kernel_rfl) ⟨rfl, by decide, by decide⟩ ?F
    intro w mg f h Y G hmg0
    obtain ⟨K, KX, c⟩ := Y
    have hmg : mg ("law" : PySem.Str) = some (.ref f) := by
      have e : (HandSHeadRun.topDef K0.R.prog 37).name = ("law" : PySem.Str) := by kernel_rfl
      rw [← e]
      exact hmg0
    obtain ⟨cc, T, t1, t2, t3, rest⟩ := K0.facts KX G hmg c
    exact ⟨K, cc, T, KX, t1, t2, t3, rest⟩
