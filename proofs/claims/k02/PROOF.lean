import PyProof.Rows.All
import Wide.All
import OpenK.AllK
import Wide.FinOn
import KE.KStateDown
import Lean
import HandS.ForMost
import HandS.Exc
import HandS.ExcInit
import HandS.WordsExc
import HandS.Defaults
import HandS.Head0
import HandS.Head1
import HandS.Head2
import HandS.HeadEnd
import HandS.HeadHook1
import HandS.HeadHook2
import HandS.Wide
import HandS.Codes
import HandS.IsInst
import HandS.StrMore
import HandS.Steps
import Wide.Txt
import PyProof.ListStr
import HandS.TupSets
import HandS.Walk
import PyProof.TupleKey
import PyProof.DictRoadsH
import PyProof.DictMoreH
import HandS.Dict
import HandS.Deep
import HandS.Zip
import HandS.TupAny
import HandS.Star
import HandS.Small
import HandS.ClsMeth
import HandS.More
import HandS.SlotsOwn
import PyProof.InstEq
import PyProof.CallStr
import KE.KFmtOwn
import HandS.FStr
import KE.KExcIs
import KE.KTryMore
import HandS.HotCalls
import HandS.ExcValue
import HandS.TryMany
import HandS.Iter
import HandS.Set
import HandS.SetTxt0
import HandS.SetFor
import PyProof.Rows.SortShellAny
import HandS.List
import HandS.Call
import HandS.Comp
import HandS.Style
import PyProof.TupleOfStr
import KE.KRevSl
import HandS.Text
import HandS.Property
import HandS.OwnEq
import HandS.TupMul
import PySem.Challenge.RW_cleandress_k02_holes_as_values
/-! ### H0 -/
section
set_option Elab.async false
set_option linter.all false
set_option maxRecDepth 100000
set_option maxHeartbeats 0
namespace K0
open PySem PySem.Spec PyProof.Rows L2
def top (i : Nat) : Stmt := PySem.Challenge.pw_cleandress_k02_holes_as_values.main.body.getD i (.Pass ⟨0, 0, 0, 0⟩)
abbrev dfn (x : Str) (i : Nat) : He.DefD := ⟨(x, none), x, x, defArgs (top i), defBody (top i), defScope (top i), [], []⟩
abbrev iNum : Nat := 2
abbrev iSign : Nat := 9
abbrev iIsText : Nat := 10
abbrev iAreSigns : Nat := 11
abbrev iReader : Nat := 13
abbrev iAhead : Nat := 14
abbrev iBehind : Nat := 15
abbrev iCount : Nat := 16
abbrev iIsRun : Nat := 30
abbrev iDice : Nat := 32
abbrev iRoll : Nat := 33
abbrev iOne : Nat := 34
abbrev iMixed : Nat := 35
abbrev iAll : Nat := 36
abbrev iSigns : Nat := 37
abbrev iLRun : Nat := 38
abbrev iLHole : Nat := 39
abbrev iOdd : Nat := 40
abbrev iLText : Nat := 41
abbrev iLInt : Nat := 42
abbrev iLAre : Nat := 43
abbrev iTold : Nat := 44
abbrev iAlone : Nat := 45
abbrev iLIsRun : Nat := 46
abbrev iSpoilt : Nat := 47
abbrev iRight : Nat := 48
abbrev iLaw : Nat := 49
end K0
end
/-! ### G0 -/
section
set_option Elab.async false
set_option linter.all false
set_option maxRecDepth 100000
set_option maxHeartbeats 4000000
/-! Defs whose promise is kept where nothing is being shown (no repr runs around them): FnG, its rule, its calls, the law's entry. -/
namespace K0
open PySem PySem.Spec PyProof.Rows L2
structure FnG (P : Program) (w : World) (K : PySem.W.Frag) (mg : Str → Option Value) (base : Heap) (CX : CXT) (k : Nat) (f : Addr) (fd : FuncData) (ps : List Str) (sp : Sp) : Prop where
  many : ∀ vs H Q E, sp vs H Q E → vs.length = ps.length
  go : ∀ (A : Around) (outer : List Env) (s : Shared) (H : Hp) (args : Args) (us : List Value) (vs : List V) (Q : VK) (E : XK), A.guards = some [] → Room k A → Env0 P w K mg base A outer s H → BindsTo s fd args (ps.zip us) → Vals vs us → sp vs H Q E → codeAny (model P w) A (.call (.ref f) args) (CR CX outer P w H s Q E) s
section
variable {P : Program} {w : World} {K : PySem.W.Frag} {mg : Str → Option Value} {base : Heap} {CX : CXT} {k : Nat} {f : Addr} {fd : FuncData}
theorem fnG_ofC {x qual : Str} {params : Arguments} {body : List Stmt} {scope : Scope} {dvs : List V} {kws : List (Str × V)} {N ps : List Str} {sp : Sp} (F : FunD K x qual params body scope dvs kws f fd) (S : FnScope N ps scope) (many : ∀ vs H Q E, sp vs H Q E → vs.length = ps.length)
    (hb : ∀ (cdv : Value), fd.code = cdv → ∀ (A : Around) (outer : List Env) (s : Shared) (H : Hp) (vs : List V) (Q : VK) (E : XK), (A.deeper (envOfC qual scope s.heap.objs.size f cdv)).guards = some [] → Room k (A.deeper (envOfC qual scope s.heap.objs.size f cdv)) → sp vs H Q E →
      ∃ t, PSs (cxOf CX P w K mg base N qual scope f cdv A outer s H E) body t ∧ t { nx := fun _ H' => Q .non H', rt := Q } (L2.start N vs) H) : FnG P w K mg base CX (k + 1) f fd ps sp := by
  obtain ⟨oc, od, dV, kV, doc, pm, an, cdv, ct, osl, rfl, lk, code, _, _⟩ := F.ex
  refine ⟨many, fun A outer s H args us vs Q E gd room e0 bd rel prom => ?_⟩
  have size := many _ _ _ _ prom
  have KX : K.In s.heap := e0.mod.kin.keeps fun b o z => (e0.bs b o z).1
  have lim : s.heap.NoLimit := e0.mod.nolimit.keeps fun b o z => (e0.bs b o z).1
  have kinds : ∀ y ∈ ps.zip us, scope.names.lookup y.1 = some .local ∨ (scope.names.lookup y.1 = some .cell ∧ ((cellsFrom (s.heap.objs.size + 1) scope.names []).lookup y.1).isSome = true) := fun ⟨n, v⟩ hy => (S.par n (List.of_mem_zip hy).1).elim .inl fun z => .inr ⟨z, PySem.W.cellsFrom_some _ _ _ (.inl z)⟩
  refine codeAny_call_function room.depth (KX _ _ lk) rfl S.co S.gen rfl (PySem.W.codeRec_of KX code) (bd _ _ _ _ (wpAny_newFunctionEnv_cells S.kind kinds fun env he s1 y => ?_))
  subst he
  obtain ⟨t, pf, rd⟩ := hb cdv rfl A outer s H vs Q E gd (room.deeper _) prom
  refine ⟨lim.keeps y.toInCall.keep, codeAny_func (wpAny_mono (pf.run [] s1 _ H _ (inv_start S room.hd e0 size rel y) rd) (fun fl s' z => ?_) fun e s' z => z)⟩
  cases fl with
  | ret u => obtain ⟨v, σ', H', J, rv, q⟩ := z; exact ⟨v, H', J.os, J.bare, J.base, J.hok, rv, q⟩
  | next => obtain ⟨σ', H', J, q⟩ := z; exact ⟨V.non, H', J.os, J.bare, J.base, J.hok, rfl, q⟩
  | brk => exact z.elim fun _ z => z.elim fun _ z => z.2.elim
  | cont => exact z.elim fun _ z => z.elim fun _ z => z.2.elim
theorem lawG {a : Addr} {mb : Str → Option Value} {x : Str} {sp : Sp} {s₁ : Shared} {vs : List Value} {ns : List Int} (KX : K.In s₁.heap) (hns : s₁.heap.Ns mainGlobals mg) (hmb : s₁.heap.Ns builtinsNs mb) (hbb : ∀ x : Str, x ≠ "__name__" → mb x = bootBuiltins x) (lim : s₁.heap.NoLimit) (gens : s₁.gens = #[])
    (obj : s₁.heap.get? a = some { cls := .type "list", data := .seq vs.toArray }) (its : IntsAre vs ns) (most : ns.length ≤ sizeLine) (room : Room k callerA) (F : ∀ base : Heap, K.In base → base.Ns mainGlobals mg → FnG P w K mg base CX k f fd [x] sp)
    (bind : ∀ (s : Shared) (u : Value), BindsTo s fd ⟨[u], []⟩ [(x, u)]) (prom : ∀ H : Hp, Only H → SqL K H a (ns.map V.int) → sp [.ref a] H (fun v _ => v = .bl true) fun _ _ _ => False) (none_out : ∀ H e s', CX [] H s₁ (fun _ _ _ => False) e s' → False) :
    codeAny (model P w) callerA (.call (.ref f) ⟨[.ref a], []⟩) (fun r s' => r = .ok (.ret (.bool true)) ∧ OldK s₁.heap s'.heap ∧ s'.os = s₁.os ∧ AllBare s'.gens) s₁ := by
  have rel := vals_ints its
  have size := its.length
  have main : ∀ H : Hp, Only H → SqL K H a (ns.map V.int) → HOk P w H s₁.heap → (∀ b, H b ≠ none → b = a) → (H a ≠ none → K.lookup a = none) → codeAny (model P w) callerA (.call (.ref f) ⟨[.ref a], []⟩) (fun r s' => r = .ok (.ret (.bool true)) ∧ OldK s₁.heap s'.heap ∧ s'.os = s₁.os ∧ AllBare s'.gens) s₁ := by
    intro H only seq hok just apart
    have at_a : ∀ {b : Addr}, H b ≠ none → b = a := fun {b} z => just b z
    have noDict : ∀ {b : Addr} {o : Obj} {es : Array DictEntry} {ep : Nat}, s₁.heap.get? b = some o → o.data = .dict es ep → H b = none := fun {b o es ep} e d => Classical.byContradiction fun z => by
      have e1 := at_a z
      subst e1
      rw [obj] at e
      cases e
      exact absurd (show Data.seq vs.toArray _ = Data.dict es ep from d) (fun q => by cases q)
    have keepNs : ∀ {b : Addr} {m : Str → Option Value}, s₁.heap.Ns b m → (hidT s₁.heap H).Ns b m := fun {b m} ⟨o, es, ep, e, d, r⟩ => ⟨o, es, ep, hidT_get e (noDict e d), d, r⟩
    have kin : K.In (hidT s₁.heap H) := fun b o e => hidT_get (KX b o e) (Classical.byContradiction fun z => by
      have e1 := at_a z
      subst e1
      rw [apart z] at e
      cases e)
    have mod : Mod K mg (hidT s₁.heap H) := ⟨kin, keepNs hns, ⟨mb, keepNs hmb, hbb⟩, lim.elim fun mc z => ⟨mc, keepNs z.1, z.2⟩⟩
    have e0 : Env0 P w K mg (hidT s₁.heap H) callerA [] s₁ H := ⟨rfl, mod, fun b o e => of_hidT e, Nat.le_of_eq (hidT_size _ _), trivial, (fun b z => nomatch (show b ∈ ([] : List Addr) from z)), hok, .of_eq gens⟩
    refine codeAny_mono ((F _ kin (keepNs hns)).go callerA [] s₁ H ⟨[.ref a], []⟩ [.ref a] [.ref a] _ _ rfl room e0 (bind s₁ (.ref a)) (.cons rfl .nil) (prom H only seq)) fun r s' z => ?_
    rcases r with e | fl
    · exact (none_out H e s' z).elim
    cases fl with
    | next => exact z.elim
    | brk => exact z.elim
    | cont => exact z.elim
    | ret u =>
      obtain ⟨v, H', os, bare, un, hok', rv, rfl⟩ := z
      obtain rfl : u = Value.bool true := rv
      refine ⟨rfl, OldK.of_keep fun b o e => ?_, os, bare⟩
      cases q : H b with
      | none => exact un.keep b o e q (fun z => nomatch (show b ∈ ([] : List Addr) from z)) (fun z => nomatch z)
      | some u =>
        rcases only b with z | ⟨ob, xs, z⟩
        · rw [q] at z
          cases z
        · obtain ⟨e1, _⟩ := hok b _ z
          obtain ⟨e2, _⟩ := hok' b _ (un.frzs b ob _ z)
          rw [e] at e1
          cases e1
          exact e2
  cases own : K.lookup a with
  | some o =>
    have e := KX a o own
    rw [obj] at e
    cases e
    exact main (fun _ => none) (fun _ => .inl rfl) (.inr ⟨_, vs.toArray, _, own, rfl, rfl, rfl, by rw [List.size_toArray, size]; exact most, by simpa using rel⟩) (fun b u z => nomatch (show (none : Option HO) = some u from z)) (fun b z => absurd rfl z) fun z => absurd rfl z
  | none =>
    have yes : ∀ {b : Addr}, b = a → (if b = a then some (HO.frz { cls := .type "list", data := .seq vs.toArray } (.lst (ns.map V.int))) else none) = some (HO.frz { cls := .type "list", data := .seq vs.toArray } (.lst (ns.map V.int))) := fun z => if_pos z
    refine main (fun b => if b = a then some (.frz { cls := .type "list", data := .seq vs.toArray } (.lst (ns.map V.int))) else none) (fun b => ?_) (.inl (.inr ⟨_, yes rfl⟩)) (fun b u z => ?_) (fun b z => Classical.byContradiction fun n => z (if_neg n)) fun _ => own
    · by_cases n : b = a
      · exact .inr ⟨_, _, yes n⟩
      · exact .inl (if_neg n)
    · by_cases n : b = a
      · have z2 := (yes n).symm.trans z
        cases z2
        subst n
        exact ⟨obj, by rw [List.length_map]; exact most, vs, _, rel, obj⟩
      · have z2 := (if_neg n).symm.trans z
        cases z2
end
section
variable {X : Cx} {CX : CXT} {k : Nat} {f : Addr} {fd : FuncData} {ps : List Str} {sp : Sp} {x : Str} {p pos : Pos} {e : Expr} {es : List Expr} {t : TA} {E : XK}
theorem peG (F : FnG X.prog X.w X.K X.mg X.base CX k f fd ps sp) (gd : X.A.guards = some []) (room : Room k X.A) (hg : Gl X x) (hm : X.mg x = some (.ref f)) (kp : PySem.W.keepIn X.K (.ref f) = true) (bd : Binds X.K fd ps []) (ps' : Passes CX X E) (ha : PA X (e :: es) t)
    (hdb : (x == ("__debug__" : Str)) = false := by decide) (he : starEach (e :: es) X.env = (false, eval e X.env) :: starEach es X.env := by rfl) (hpl : (backTo pos (starEach es X.env)).any (·.1) = false := by rfl) : PE X (.Call (.Name x p) (e :: es) [] pos) (tCall sp [] E t) :=
  ⟨fun pins s σ H Q I h => wpAny_Call_Name_kw (ld_glob I hg hm (PySem.W.callWith_K (h₀ := X.base) I.ok.mod.kin kp (thn (ha.run pos pins s σ H _ I h) fun us s1 ⟨vs, H1, I1, r, q⟩ => ⟨I1.kIn, by
    have q : sp (vs ++ []) H1 Q E := q
    rw [List.append_nil] at q
    have size : (us ++ []).length = ps.length := by rw [List.append_nil, ← r.length]; exact F.many _ _ _ _ q
    have bd2 := bd s1 us I1.kIn size
    rw [List.append_nil] at bd2
    refine wpAny_call (codeAny_mono (F.go X.A X.stack s1 H1 ⟨us, []⟩ us vs Q E gd room I1.env0 bd2 r q) fun res s' z => ?_)
    rcases res with err | fl
    · exact ps' pins σ H1 s1 err s' I1 z
    · cases fl with
      | ret u => exact I1.after z
      | next => exact z.elim
      | brk => exact z.elim
      | cont => exact z.elim⟩) he hpl) hdb)⟩
end
end K0
end
/-! ### D0 -/
section
set_option Elab.async false
set_option linter.all false
set_option maxRecDepth 100000
set_option maxHeartbeats 4000000
namespace K0
open PySem PySem.Spec PyProof.Rows L2
abbrev FnP (K : PySem.W.Frag) (x : Str) (i : Nat) (f : Addr) (fd : FuncData) : Prop := FunD K x x (defArgs (top i)) (defBody (top i)) (defScope (top i)) [] [] f fd
/-- a power whose base has few bits -/
def PowBits (i j : Int) : Prop := 0 ≤ j ∧ (Builtin.Int.intBits i : Int) * j ≤ 2 ^ 27
theorem op_powBits {X : Cx} : OpR X (binaryOp .Pow) (rI PowBits fun i j => .int (i ^ j.toNat)) := opI fun _ _ _ _ _ _ _ hc q => pow_int hc.1 hc.2 q
/-- three ints in a list: the dice -/
abbrev dk (a b c : Int) : HO := .lst [.int a, .int b, .int c]
theorem scDice : FnScope ["script", "at", "cell", "great", "mixed"] ["script", "at"] (defScope (top iDice)) := ⟨rfl, rfl, rfl, by decide +kernel, rfl, by decide +kernel, by decide +kernel⟩
def spDice (K : PySem.W.Frag) : Sp := fun vs H Q _ => ∃ (p : Addr) (ns : List Int) (j : Nat), vs = [.ref p, .int j] ∧ SqL K H p (ns.map V.int) ∧ ∀ d a b c, H d = none → Q (.ref d) (upd H d (dk a b c))
section
variable {P : Program} {w : World} {K : PySem.W.Frag} {mg : Str → Option Value} {base : Heap} {f fR fO : Addr} {fd fdR fdO : FuncData}
theorem ok_dice {k : Nat} (F : FnP K "_law_dice" iDice f fd) (mlen : mg "len" = none) (mint : mg "int" = none) (mabs : mg "abs" = none) (mmax : mg "max" = none) : FnOk P w K mg base CX0 (k + 1) f fd ["script", "at"] (spDice K) := by
  refine F.ok scDice (fun vs H Q E h => ?_) (fun cdv A outer s H vs Q E hr h => ?_)
  · obtain ⟨p, ns, j, rfl, _⟩ := h
    rfl
  · obtain ⟨p, ns, j, rfl, hS, q⟩ := h
    refine ⟨_, PSs.nox (pss_cons (ps_set (i := 2) scDice.nd rfl (.inl rfl) (pe_op op_add (pe_op op_mul pe_int (pv 1)) pe_int))
      (C8.pss_cut (ps_if (pt_cmpR op_lt (pv 1) (pe_callB call_len_seq (by rfl) mlen PySem.boot_len (pa_cons (pv 0) pa_nil)) (nomark _))
        (pss_one (ps_set (i := 2) scDice.nd rfl (.inl rfl) (pe_ix ix_list (pv 0) (pv 1) (fun _ _ => rfl)))) pss_nil)
      (pss_cons (ps_set (i := 3) scDice.nd rfl (.inl rfl) (pe_op op_mod (pe_callTy call_int1 (by rfl) mint boot_int (pa_cons (pe_callB call_abs (by rfl) mabs boot_abs (pa_cons (pv 2) pa_nil)) pa_nil))
        (pe_op op_powBits (pe_op op_powBits pe_int pe_int) pe_int)))
      (pss_cons (ps_set (i := 4) scDice.nd rfl (.inl rfl) (pe_op op_add (pe_op op_add (pe_op op_add (pe_op op_mul (pe_op op_mod (pe_callTy call_int1 (by rfl) mint boot_int (pa_cons (pv 3) pa_nil)) pe_int) pe_int) (pe_op op_mul pe_int (pv 1)))
        (pe_op op_mul pe_int (pe_callTy call_int1 (by rfl) mint boot_int (pa_cons (pe_cmpR op_lt (pv 2) pe_int (nomark _)) pa_nil)))) pe_int))
      (pss_one (ps_ret (pe_lst (pa_cons (pe_callB (call_max2 rfl) (by rfl) mmax boot_max (pa_cons pe_int (pa_cons (pe_op op_sub (pv 3) (pe_op op_powBits pe_int pe_int)) pa_nil)))
        (pa_cons (pe_op op_mod (pe_callTy call_int1 (by rfl) mint boot_int (pa_cons (pv 4) pa_nil)) pe_int) (pa_cons pe_int pa_nil)))))))))), ?_⟩
    refine ⟨_, rfl, _, _, rfl, rfl, .inl ⟨by decide, by decide⟩, _, _, rfl, rfl, ?_⟩
    refine ⟨fun σ' H' => ∃ cell : Int, σ' = [some (.ref p), some (.int j), some (.int cell), none, none] ∧ H' = H, ⟨_, rfl, _, rfl, p, _, rfl, .inl hS, _, _, rfl, rfl, _, rfl, ite2 (fun e => ?_) (fun e => ⟨_, rfl, rfl⟩)⟩, fun σ' H' hM => ?_⟩
    · have hj : j < ns.length := by
        have e2 : (j : Int) < ((ns.map V.int).length : Int) := of_decide_eq_true e
        rw [List.length_map] at e2
        omega
      have hg : (ns.map V.int)[j]? = some (.int ns[j]) := by
        rw [List.getElem?_map, List.getElem?_eq_getElem hj]
        rfl
      exact ⟨_, rfl, _, rfl, p, _, _, _, rfl, rfl, hS, atI_nat hg, _, rfl, rfl⟩
    · obtain ⟨cell, rfl, rfl⟩ := hM
      refine ⟨_, rfl, _, rfl, .inl ⟨_, rfl, _, _, rfl, rfl, ⟨by decide, by decide +kernel⟩, _, _, rfl, rfl, ⟨by decide, by decide +kernel⟩, _, _, rfl, rfl, (by show (0 : Int) < (10 ^ Int.toNat 60) ^ Int.toNat 12; decide +kernel), ?_⟩⟩
      refine ⟨_, rfl, .inl ⟨_, rfl, _, _, rfl, rfl, (by show (0 : Int) < 2147483399; decide), _, _, rfl, rfl, .inr ⟨by decide, by decide⟩, _, rfl, _, _, rfl, rfl, .inl ⟨by decide, by decide⟩, _, _, rfl, rfl, ?_⟩⟩
      refine ⟨_, rfl, _, _, rfl, rfl, .inr ⟨_, rfl, _, _, rfl, rfl, .inl ⟨by decide, by decide⟩, _, _, rfl, rfl, _, _, rfl, rfl, ?_⟩⟩
      refine ⟨_, rfl, _, _, rfl, rfl, ⟨by decide, by decide +kernel⟩, _, _, rfl, rfl, _, _, rfl, ?_⟩
      refine ⟨_, rfl, .inl ⟨_, rfl, _, _, rfl, rfl, (by show (0 : Int) < 2305843009213693907; decide), (by show 3 ≤ sizeLine; decide), fun d hd => ?_⟩⟩
      exact q d _ _ _ hd
end
end K0
end
/-! ### D1 -/
section
set_option Elab.async false
set_option linter.all false
set_option maxRecDepth 100000
set_option maxHeartbeats 4000000
namespace K0
open PySem PySem.Spec PyProof.Rows L2
theorem scRoll : FnScope ["dice", "total", "found", "one", "two"] ["dice", "total"] (defScope (top iRoll)) := ⟨rfl, rfl, rfl, by decide +kernel, rfl, by decide +kernel, by decide +kernel⟩
def spRoll : Sp := fun vs H Q _ => ∃ (p : Addr) (a b c t : Int), vs = [.ref p, .int t] ∧ H p = some (dk a b c) ∧ CDivW a t ∧ ∀ a' b' c' r, 0 ≤ r → r < t → Q (.int r) (upd H p (dk a' b' c'))
theorem mod_small {x m : Int} (h : 0 < m) (h2 : m ≤ 2 ^ 62) : -(2 ^ 64) < x % m ∧ x % m < 2 ^ 64 := by
  have h0 := Int.emod_nonneg x (show m ≠ 0 by omega)
  have h1 := Int.emod_lt_of_pos x h
  omega
theorem scOne : FnScope ["dice", "items"] ["dice", "items"] (defScope (top iOne)) := ⟨rfl, rfl, rfl, by decide +kernel, rfl, by decide +kernel, by decide +kernel⟩
/-- the items are a list or a tuple xs, or the signs of a text -/
def Its (K : PySem.W.Frag) (H : Hp) (v : V) (xs : List V) : Prop := (∃ q, v = .ref q ∧ (SqL K H q xs ∨ SqT K H q xs)) ∨ ∃ z : Str, v = .str z ∧ z.length ≤ sizeLine ∧ xs = z.cps.toList.map fun c => V.str ⟨#[c]⟩
theorem len_div {a : Int} {n : Nat} (h : 0 < n) (hz : n ≤ sizeLine) : CDivW a (n : Int) := by
  have e := sizeLine_eq
  refine wide_div (b := 25) (by omega) ?_ (by decide) (by decide)
  have e2 : (2 : Nat) ^ 25 = 33554432 := by decide
  have e3 : (sizeLine : Nat) = 16777216 := e
  omega
theorem its_len {K : PySem.W.Frag} {H : Hp} {v : V} {xs : List V} (h : Its K H v xs) : LenV K v H xs.length := by
  rcases h with ⟨a, rfl, h | h⟩ | ⟨z, rfl, hz, rfl⟩
  · exact .inl ⟨xs, h, rfl⟩
  · exact .inr ⟨xs, h, rfl⟩
  · refine ⟨hz, ?_⟩
    rw [List.length_map]
    first | rfl | simp [Str.length]
theorem its_at {K : PySem.W.Frag} {H : Hp} {v x : V} {xs : List V} {i : Nat} {Q : VK} (h : Its K H v xs) (e : xs[i]? = some x) (q : Q x H) : rIx K v (.int (i : Int)) H Q := by
  rcases h with ⟨a, rfl, h | h⟩ | ⟨z, rfl, hz, rfl⟩
  · exact .inl ⟨a, xs, _, x, rfl, rfl, h, atI_nat e, q⟩
  · exact .inr (.inl ⟨a, xs, _, x, rfl, rfl, h, atI_nat e, q⟩)
  · rw [List.getElem?_map] at e
    cases hc : z.cps.toList[i]? with
    | none => rw [hc] at e; cases e
    | some c =>
      rw [hc] at e
      cases e
      exact .inr (.inr ⟨z, _, c, rfl, rfl, hz, atI_nat hc, q⟩)
section
variable {P : Program} {w : World} {K : PySem.W.Frag} {mg : Str → Option Value} {base : Heap} {f fR fO : Addr} {fd fdR fdO : FuncData}
theorem ok_roll {k : Nat} (F : FnP K "_law_roll" iRoll f fd) (mint : mg "int" = none) : FnOk P w K mg base CX0 (k + 1) f fd ["dice", "total"] spRoll := by
  refine F.ok scRoll (fun vs H Q E h => ?_) (fun cdv A outer s H vs Q E hr h => ?_)
  · obtain ⟨p, a, b, c, t, rfl, _⟩ := h
    rfl
  · obtain ⟨p, a, b, c, t, rfl, hp, ht, q⟩ := h
    have t0 : 0 < t := ht.1
    refine ⟨_, PSs.nox (pss_cons (ps_if (pt_cmpR op_gt (pe_ix ix_list (pv 0) pe_int (fun _ _ => rfl)) pe_int (nomark _))
        (pss_cons (ps_set (i := 2) scRoll.nd rfl (.inl rfl) (pe_op op_mod (pe_callTy call_int1 (by rfl) mint boot_int (pa_cons (pe_ix ix_list (pv 0) pe_int (fun _ _ => rfl)) pa_nil)) (pv 1)))
        (pss_cons (ps_asg (pe_op op_fdivW (pe_ix ix_list (pv 0) pe_int (fun _ _ => rfl)) (pv 1)) (pg_sub (pv 0) pe_int set_list)) (pss_one (ps_ret (pv 2))))) pss_nil)
      (pss_cons (ps_asg (pe_op op_add (pe_ix ix_list (pv 0) pe_int (fun _ _ => rfl)) pe_int) (pg_sub (pv 0) pe_int set_list))
      (pss_cons (ps_set (i := 3) scRoll.nd rfl (.inl rfl) (pe_op op_mod (pe_callTy call_int1 (by rfl) mint boot_int (pa_cons (pe_op op_add (pe_ix ix_list (pv 0) pe_int (fun _ _ => rfl)) (pe_op op_mul pe_int (pe_ix ix_list (pv 0) pe_int (fun _ _ => rfl)))) pa_nil)) pe_int))
      (pss_cons (ps_set (i := 4) scRoll.nd rfl (.inl rfl) (pe_op op_add (pe_op op_mul (pe_op op_mod (pe_callTy call_int1 (by rfl) mint boot_int (pa_cons (pe_op op_mul (pv 3) (pv 3)) pa_nil)) pe_int) (pv 3)) (pe_op op_mul pe_int (pe_ix ix_list (pv 0) pe_int (fun _ _ => rfl)))))
      (pss_cons (ps_set (i := 4) scRoll.nd rfl (.inl rfl) (pe_op op_mod (pe_callTy call_int1 (by rfl) mint boot_int (pa_cons (pv 4) pa_nil)) pe_int))
      (pss_one (ps_ret (pe_op op_mod (pe_callTy call_int1 (by rfl) mint boot_int (pa_cons (pe_op op_fdiv (pv 4) pe_int) pa_nil)) (pv 1))))))))), ?_⟩
    have hS : ∀ x y z : Int, SqL K (upd H p (dk x y z)) p [.int x, .int y, .int z] := fun x y z => .of upd_same
    refine ⟨_, rfl, p, _, _, _, rfl, rfl, .of hp, atI_nat (j := 0) rfl, _, _, rfl, rfl, _, rfl, ite2 (fun e => ?_) (fun e => ?_)⟩
    · refine ⟨_, rfl, p, _, _, _, rfl, rfl, .of hp, atI_nat (j := 0) rfl, .inl ⟨_, rfl, _, rfl, _, _, rfl, rfl, t0, ?_⟩⟩
      refine ⟨_, rfl, p, _, _, _, rfl, rfl, .of hp, atI_nat (j := 0) rfl, _, rfl, _, _, rfl, rfl, ht, ?_⟩
      refine ⟨_, rfl, p, _, _, 0, rfl, rfl, hp, rfl, ?_⟩
      exact ⟨_, rfl, q _ _ _ _ (Int.emod_nonneg _ (by omega)) (Int.emod_lt_of_pos _ t0)⟩
    · refine ⟨_, rfl, p, _, _, _, rfl, rfl, .of hp, atI_nat (j := 2) rfl, _, _, rfl, rfl, ?_⟩
      refine ⟨_, rfl, p, _, _, 2, rfl, rfl, hp, rfl, ?_⟩
      refine ⟨_, rfl, p, _, _, _, rfl, rfl, hS a b _, atI_nat (j := 1) rfl, _, rfl, p, _, _, _, rfl, rfl, hS a b _, atI_nat (j := 2) rfl, _, _, rfl, rfl, .inl ⟨by decide, by decide⟩, _, _, rfl, rfl, .inl ⟨_, rfl, _, _, rfl, rfl, (by show (0 : Int) < 2305843009213693951; decide), ?_⟩⟩
      refine ⟨_, rfl, _, rfl, _, _, rfl, rfl, .inl (mod_small (by decide) (by decide)), .inl ⟨_, rfl, _, _, rfl, rfl, (by show (0 : Int) < 2305843009213693921; decide), ?_⟩⟩
      refine ⟨_, rfl, _, _, rfl, rfl, .inl (mod_small (by decide) (by decide)), _, rfl, p, _, _, _, rfl, rfl, hS a b _, atI_nat (j := 2) rfl, _, _, rfl, rfl, .inl ⟨by decide, by decide⟩, _, _, rfl, rfl, ?_⟩
      refine ⟨_, rfl, .inl ⟨_, rfl, _, _, rfl, rfl, (by show (0 : Int) < 2305843009213693907; decide), ?_⟩⟩
      refine ⟨_, rfl, _, _, rfl, rfl, ⟨by decide, by decide⟩, .inl ⟨_, rfl, _, rfl, _, _, rfl, rfl, t0, ?_⟩⟩
      exact q _ _ _ _ (Int.emod_nonneg _ (by omega)) (Int.emod_lt_of_pos _ t0)
def spOne (K : PySem.W.Frag) : Sp := fun vs H Q _ => ∃ (p : Addr) (a b c : Int) (v : V) (xs : List V), vs = [.ref p, v] ∧ H p = some (dk a b c) ∧ Its K H v xs ∧ xs ≠ [] ∧ xs.length ≤ sizeLine ∧ (∀ a' b' c', Its K (upd H p (dk a' b' c')) v xs) ∧
  ∀ a' b' c' (i : Nat) x, xs[i]? = some x → Q x (upd H p (dk a' b' c'))
theorem ok_one {k : Nat} (F : FnP K "_law_one_of" iOne f fd) (FR : FnOk P w K mg base CX0 (k + 1) fR fdR ["dice", "total"] spRoll) (gR : mg "_law_roll" = some (.ref fR)) (kR : PySem.W.keepIn K (.ref fR) = true) (bR : Binds K fdR ["dice", "total"] []) (mlen : mg "len" = none) :
    FnOk P w K mg base CX0 (k + 2) f fd ["dice", "items"] (spOne K) := by
  refine F.ok scOne (fun vs H Q E h => ?_) (fun cdv A outer s H vs Q E hr h => ?_)
  · obtain ⟨p, a, b, c, v, xs, rfl, _⟩ := h
    rfl
  · obtain ⟨p, a, b, c, v, xs, rfl, hp, hI, hx, hz, hI2, q⟩ := h
    refine ⟨_, PSs.nox (pss_one (ps_ret (pe_ix ix_seq (pv 1) (pe_call FR hr (by rfl) gR kR bR .nil pass0 (pa_cons (pv 0) (pa_cons (pe_callB call_len (by rfl) mlen PySem.boot_len (pa_cons (pv 1) pa_nil)) pa_nil))) (fun _ _ => rfl)))), ?_⟩
    have hl0 : 0 < xs.length := List.length_pos_iff.mpr hx
    refine ⟨_, rfl, _, rfl, _, rfl, _, xs.length, rfl, its_len hI, ?_⟩
    refine ⟨p, a, b, c, _, rfl, hp, len_div hl0 hz, fun a' b' c' r h0 h1 => ?_⟩
    have hr2 : r.toNat < xs.length := by omega
    have er : r = (r.toNat : Int) := by omega
    have hg : xs[r.toNat]? = some xs[r.toNat] := List.getElem?_eq_getElem hr2
    have q2 := q a' b' c' r.toNat _ hg
    rw [er]
    exact its_at (hI2 a' b' c') hg q2
end
end K0
end
/-! ### D2 -/
section
set_option Elab.async false
set_option linter.all false
set_option maxRecDepth 100000
set_option maxHeartbeats 4000000
namespace K0
open PySem PySem.Spec PyProof.Rows L2
/-- all but the dice at p is as it was; the dice are dice -/
def Keep (p : Addr) (H H' : Hp) : Prop := (∀ b o, b ≠ p → H b = some o → H' b = some o) ∧ ∃ a b c, H' p = some (dk a b c)
theorem Keep.refl {p : Addr} {H : Hp} {a b c : Int} (h : H p = some (dk a b c)) : Keep p H H := ⟨fun _ _ _ e => e, a, b, c, h⟩
theorem Keep.trans {p : Addr} {H H1 H2 : Hp} (h : Keep p H H1) (k : Keep p H1 H2) : Keep p H H2 := ⟨fun b o n e => k.1 b o n (h.1 b o n e), k.2⟩
theorem Keep.new {p q : Addr} {H : Hp} {o : HO} {a b c : Int} (h : H p = some (dk a b c)) (n : H q = none) : Keep p H (upd H q o) :=
  ⟨fun b u hb e => by rw [upd_ne (ne_of_none e n)]; exact e, a, b, c, by rw [upd_ne (ne_of_none h n)]; exact h⟩
theorem Keep.new2 {p q : Addr} {H H' : Hp} {o : HO} (h : Keep p H H') (n : H' q = none) : Keep p H (upd H' q o) := by
  obtain ⟨a, b, c, e⟩ := h.2
  exact h.trans (.new e n)
theorem Keep.dice {p : Addr} {H : Hp} (a b c : Int) : Keep p H (upd H p (dk a b c)) := ⟨fun d o n e => by rw [upd_ne n]; exact e, a, b, c, upd_same⟩
theorem scAll : FnScope [] [] (defScope (top iAll)) := ⟨rfl, rfl, rfl, by decide +kernel, rfl, by decide +kernel, by decide +kernel⟩
def allSigns : Str := "#$0123:_abcdefg"
def spAll : Sp := fun vs H Q _ => vs = [] ∧ Q (.str allSigns) H
theorem mapV_str (sg : Str) : sg.cps.toList.map (fun c => V.str ⟨#[c]⟩) = (sg.cps.toList.map fun c => (⟨#[c]⟩ : Str)).map V.str := by rw [List.map_map]; rfl
section
variable {P : Program} {w : World} {K : PySem.W.Frag} {mg : Str → Option Value} {base : Heap} {f fR fO : Addr} {fd fdR fdO : FuncData}
theorem ok_all {k : Nat} (F : FnP K "_law_all_signs" iAll f fd) : FnOk P w K mg base CX0 (k + 1) f fd [] spAll := by
  refine F.ok scAll (fun vs H Q E h => ?_) (fun cdv A outer s H vs Q E hr h => ?_)
  · rw [h.1]; rfl
  · obtain ⟨rfl, q⟩ := h
    exact ⟨_, PSs.nox (pss_one (ps_ret pe_str)), q⟩
end
end K0
end
/-! ### V0 -/
section
set_option Elab.async false
set_option linter.all false
set_option maxRecDepth 100000
set_option maxHeartbeats 4000000
/-! Values of any depth with dicts (Dv), read off the heap; repr of them. -/
namespace K0
open PySem PySem.Spec PyProof.Rows L2
def keyD : Key → PyData
  | .inl i => .int i
  | .inr x => .str x
mutual
inductive Dv (K : PySem.W.Frag) (H : Hp) : V → PyData → Prop
  | non : Dv K H .non .none
  | bl (b : Bool) : Dv K H (.bl b) (.bool b)
  | int (i : Int) : Dv K H (.int i) (.int i)
  | str (x : Str) : Dv K H (.str x) (.str x)
  | lst {a : Addr} {xs : List V} {ds : List PyData} : SqL K H a xs → DvAll K H xs ds → Dv K H (.ref a) (.list ds)
  | tup {a : Addr} {xs : List V} {ds : List PyData} : SqT K H a xs → DvAll K H xs ds → Dv K H (.ref a) (.tuple ds)
  | dic {a : Addr} {kvs : List (Key × V)} {ds : List (PyData × PyData)} : H a = some (.dK kvs) → ds.map (·.1) = kvs.map (fun p => keyD p.1) → DvAll K H (kvs.map (·.2)) (ds.map (·.2)) → Dv K H (.ref a) (.dict ds)
inductive DvAll (K : PySem.W.Frag) (H : Hp) : List V → List PyData → Prop
  | nil : DvAll K H [] []
  | cons {v : V} {vs : List V} {d : PyData} {ds : List PyData} : Dv K H v d → DvAll K H vs ds → DvAll K H (v :: vs) (d :: ds)
end
theorem same_tup {K : PySem.W.Frag} {H H' : Hp} {a : Addr} {xs : List V} (e : Same H H') (h : SqT K H a xs) : SqT K H' a xs := by
  rcases h with (h | ⟨o, h⟩) | h
  · exact .inl (.inl (e _ _ h))
  · exact .inl (.inr ⟨o, e _ _ h⟩)
  · exact .inr h
mutual
theorem Dv.same {K : PySem.W.Frag} {H H' : Hp} (e : Same H H') : ∀ (d : PyData) (v : V), Dv K H v d → Dv K H' v d
  | .none, _, h => by cases h; exact .non
  | .bool b, _, h => by cases h; exact .bl b
  | .int i, _, h => by cases h; exact .int i
  | .str x, _, h => by cases h; exact .str x
  | .list ds, _, h => by cases h with | lst h1 h2 => exact .lst (e.seq h1) (DvAll.same e ds _ h2)
  | .tuple ds, _, h => by cases h with | tup h1 h2 => exact .tup (same_tup e h1) (DvAll.same e ds _ h2)
  | .dict ds, _, h => by cases h with | dic h1 h2 h3 => exact .dic (e _ _ h1) h2 (DvAll.sameKv e ds _ h3)
theorem DvAll.same {K : PySem.W.Frag} {H H' : Hp} (e : Same H H') : ∀ (ds : List PyData) (vs : List V), DvAll K H vs ds → DvAll K H' vs ds
  | [], _, h => by cases h; exact .nil
  | d :: ds, _, h => by cases h with | cons h1 h2 => exact .cons (Dv.same e d _ h1) (DvAll.same e ds _ h2)
theorem DvAll.sameKv {K : PySem.W.Frag} {H H' : Hp} (e : Same H H') : ∀ (ds : List (PyData × PyData)) (vs : List V), DvAll K H vs (ds.map (·.2)) → DvAll K H' vs (ds.map (·.2))
  | [], _, h => by cases h; exact .nil
  | (k, d) :: ds, _, h => by cases h with | cons h1 h2 => exact .cons (Dv.same e d _ h1) (DvAll.sameKv e ds _ h2)
end
theorem Dv.same' {K : PySem.W.Frag} {H H' : Hp} {v : V} {d : PyData} (h : Dv K H v d) (e : Same H H') : Dv K H' v d := Dv.same e d v h
/-- the written part knows where sys.modules stands -/
def sysB (K : PySem.W.Frag) : Bool := match K.lookup sysModules with
  | some o => o.cls == .type "dict"
  | none => false
section
variable {X : Cx} {pins : List (Addr × Obj)} {σ : L2.St} {H : Hp} {s : Shared}
theorem sys_obj (I : Inv X pins σ H s) (b : sysB X.K = true) : ∃ o, s.heap.get? sysModules = some o ∧ o.cls = .type "dict" ∧ H sysModules = none := by
  unfold sysB at b
  cases e : X.K.lookup sysModules with
  | none => rw [e] at b; cases b
  | some o =>
    rw [e] at b
    have z := I.bs _ _ (I.ok.mod.kin _ _ e)
    exact ⟨o, z.1, by simpa using b, z.2⟩
theorem keys_read {h : Heap} {P : Program} {w : World} : ∀ {es : List DictEntry} {kvs : List (Key × Value)}, Pairs (mixKind P w) es kvs → ReadsAll h (es.map (·.key)) (kvs.map fun p => keyD p.1) []
  | _, _, .nil => .nil
  | _, _, .cons (e := e) (kv := kv) h1 h2 h3 => by
    have r : Reads h e.key (keyD kv.1) [] := by
      rcases keyIs_shape (show keyIs kv.1 e.key = true from h1) with ⟨i, t, e1, e2⟩ | ⟨y, t, e1, e2⟩
      · rw [e1, e2]; exact .int i t
      · rw [e1, e2]; exact .str y t
    have q := ReadsAll.cons r (keys_read (h := h) h3)
    simpa using q
theorem vals_of_pairs {P : Program} {w : World} : ∀ {es : List DictEntry} {kvs : List (Key × Value)}, Pairs (mixKind P w) es kvs → es.map (·.val) = kvs.map (·.2)
  | _, _, .nil => rfl
  | _, _, .cons h1 h2 h3 => by rw [List.map_cons, List.map_cons, h2, vals_of_pairs h3]
theorem kv_fst : ∀ {kvs : List (Key × V)} {vs : List (Key × Value)}, KV kvs vs → kvs.map (fun p => keyD p.1) = vs.map (fun p => keyD p.1)
  | _, _, .nil => rfl
  | _, _, .cons h1 h2 => by rw [List.map_cons, List.map_cons, h1.1, kv_fst h2]
theorem kv_snd : ∀ {kvs : List (Key × V)} {vs : List (Key × Value)}, KV kvs vs → Vals (kvs.map (·.2)) (vs.map (·.2))
  | _, _, .nil => .nil
  | _, _, .cons h1 h2 => .cons h1.2 (kv_snd h2)
theorem nomem_cons {a : Addr} {as : List Addr} {z : Addr} (h : z ≠ a) (h2 : z ∉ as) : z ∉ a :: as := fun m => (List.mem_cons.mp m).elim h h2
theorem nomem_app {as bs : List Addr} {z : Addr} (h : z ∉ as) (h2 : z ∉ bs) : z ∉ as ++ bs := fun m => (List.mem_append.mp m).elim h h2
mutual
theorem Dv.reads (I : Inv X pins σ H s) (b : sysB X.K = true) : ∀ (d : PyData) (v : V) (u : Value), Dv X.K H v d → RelV v u → ∃ as, Reads s.heap u d as ∧ sysModules ∉ as
  | .none, _, _, h, r => by cases h; cases r; exact ⟨_, .none, fun z => nomatch z⟩
  | .bool _, _, _, h, r => by cases h; cases r; exact ⟨_, .bool _, fun z => nomatch z⟩
  | .int _, _, _, h, r => by cases h; obtain ⟨t, rfl⟩ := r; exact ⟨_, .int _ t, fun z => nomatch z⟩
  | .str _, _, _, h, r => by cases h; obtain ⟨t, rfl⟩ := r; exact ⟨_, .str _ t, fun z => nomatch z⟩
  | .list ds, _, _, h, r => by
    cases h with
    | lst h1 h2 =>
      cases r
      obtain ⟨its, rv, ⟨o, n, ho, hc, _, hd⟩, _⟩ := I.list h1
      obtain ⟨as, q, z⟩ := DvAll.reads I b ds _ its h2 rv
      refine ⟨_, .list ho hc hd q, nomem_cons (fun e => ?_) z⟩
      obtain ⟨o2, e1, e2, _⟩ := sys_obj I b
      rw [e, ho] at e1
      cases e1
      rw [hc] at e2
      exact absurd e2 (by decide)
  | .tuple ds, _, _, h, r => by
    cases h with
    | tup h1 h2 =>
      cases r
      obtain ⟨its, rv, ⟨o, ho, hc, n, hd⟩, _⟩ := I.tuple h1
      obtain ⟨as, q, z⟩ := DvAll.reads I b ds _ its h2 rv
      exact ⟨_, .tuple ho hc hd q, z⟩
  | .dict ds, _, _, h, r => by
    cases h with
    | dic h1 h2 h3 =>
      cases r
      obtain ⟨_, hsys, vs, kv, o, es, ep, ho, ex, hd, _, pr, _⟩ := I.hok _ _ h1
      obtain ⟨as, q, z⟩ := DvAll.readsKv I b ds _ (es.toList.map (·.val)) h3 (by rw [vals_of_pairs pr]; exact kv_snd kv)
      have ks : ReadsAll s.heap (es.toList.map (·.key)) (ds.map (·.1)) [] := by rw [h2, kv_fst kv]; exact keys_read pr
      refine ⟨_, .dict ho ex.1 hd ks q, ?_⟩
      exact nomem_cons (fun e => by rw [← e] at hsys; simp at hsys) z
theorem DvAll.reads (I : Inv X pins σ H s) (b : sysB X.K = true) : ∀ (ds : List PyData) (vs : List V) (us : List Value), DvAll X.K H vs ds → Vals vs us → ∃ as, ReadsAll s.heap us ds as ∧ sysModules ∉ as
  | [], _, _, h, r => by cases h; cases r; exact ⟨_, .nil, fun z => nomatch z⟩
  | d :: ds, _, _, h, r => by
    cases h with
    | cons h1 h2 =>
      cases r with
      | cons r1 r2 =>
        obtain ⟨as, q1, z1⟩ := Dv.reads I b d _ _ h1 r1
        obtain ⟨bs, q2, z2⟩ := DvAll.reads I b ds _ _ h2 r2
        exact ⟨_, .cons q1 q2, nomem_app z1 z2⟩
theorem DvAll.readsKv (I : Inv X pins σ H s) (b : sysB X.K = true) : ∀ (ds : List (PyData × PyData)) (vs : List V) (us : List Value), DvAll X.K H vs (ds.map (·.2)) → Vals vs us → ∃ as, ReadsAll s.heap us (ds.map (·.2)) as ∧ sysModules ∉ as
  | [], _, _, h, r => by cases h; cases r; exact ⟨_, .nil, fun z => nomatch z⟩
  | (k, d) :: ds, _, _, h, r => by
    cases h with
    | cons h1 h2 =>
      cases r with
      | cons r1 r2 =>
        obtain ⟨as, q1, z1⟩ := Dv.reads I b d _ _ h1 r1
        obtain ⟨bs, q2, z2⟩ := DvAll.readsKv I b ds _ _ h2 r2
        exact ⟨_, .cons q1 q2, nomem_app z1 z2⟩
end
/-- small enough to be shown -/
structure Fit (d : PyData) : Prop where
  able : d.showable = true
  leaf : d.leavesShort 60 = true
  bulk : d.bulk ≤ 100000
  depth : d.depth ≤ 8
theorem Fit.size {d : PyData} (f : Fit d) : d.shown.length ≤ sizeLine := by
  have h := PyData.shown_le_bulk 60 (by decide) d f.leaf
  have h2 := f.bulk
  rw [sizeLine_eq]
  omega
def rRepr (K : PySem.W.Frag) : List V → Hp → VK → Prop := fun xs H Q => ∃ x d, xs = [x] ∧ Dv K H x d ∧ Fit d ∧ Q (.str d.shown) H
theorem call_repr (b : sysB X.K = true) (gd : X.A.guards = some []) (hu : X.A.units + 64 < cLine) : CallR X (.builtin "repr") (rRepr X.K) := by
  intro pins s σ H xs us Q I r h
  obtain ⟨x, d, rfl, hd, ft, q⟩ := h
  obtain ⟨u, rfl, rx⟩ := vals1 r
  obtain ⟨as, rd, nos⟩ := Dv.reads I b d x u hd rx
  have fin : ∀ t s2, Inv X pins σ H s2 → EP X pins σ Q (.str d.shown t) s2 := fun t s2 J => ⟨.str d.shown, H, J, ⟨t, rfl⟩, q⟩
  have dp := ft.depth
  cases hd with
  | non => cases rx; exact PySem.P.repr_of_none (by simpa [PyData.shown] using fin _ _ (I.tok _))
  | bl c => cases rx; exact PySem.P.repr_of_bool (by simpa [PyData.shown] using fin _ _ (I.tok _))
  | int i => obtain ⟨t, rfl⟩ := rx; exact PySem.P.repr_of_int (by have z := ft.able; simpa [PyData.showable] using z) (by simpa [PyData.shown] using fin _ _ (I.tok _))
  | str z => obtain ⟨t, rfl⟩ := rx; exact PySem.P.repr_of_str (by simpa [PyData.shown] using fin _ _ (I.tok _)) (by simpa [PyData.shown] using ft.size)
  | lst h1 h2 => cases rx; exact repr_of_reads' rd ft.able (fun _ => nos) gd (by omega) (fun _ _ e => e) (fun h' u tk k => fin _ _ (I.kept k)) ft.size
  | tup h1 h2 => cases rx; exact repr_of_reads' rd ft.able (fun _ => nos) gd (by omega) (fun _ _ e => e) (fun h' u tk k => fin _ _ (I.kept k)) ft.size
  | dic h1 h2 h3 => cases rx; exact repr_of_reads' rd ft.able (fun _ => nos) gd (by omega) (fun _ _ e => e) (fun h' u tk k => fin _ _ (I.kept k)) ft.size
end
end K0
end
/-! ### O0 -/
section
set_option Elab.async false
set_option linter.all false
set_option maxRecDepth 100000
set_option maxHeartbeats 4000000
/-! Displays of data: what they evaluate to (Ev1, EvN), beside the dice at p; a text repeated; the drawn odd value. -/
namespace K0
open PySem PySem.Spec PyProof.Rows L2
def rep (z : Str) (n : Int) : Str := ⟨(List.replicate n.toNat z.cps).foldl (· ++ ·) #[]⟩
theorem fold_size {α : Type} (cs : Array α) : ∀ (k : Nat) (acc : Array α), ((List.replicate k cs).foldl (· ++ ·) acc).size = acc.size + k * cs.size
  | 0, acc => by simp
  | k + 1, acc => by
    rw [List.replicate_succ, List.foldl_cons, fold_size cs k, Array.size_append, Nat.succ_mul]
    omega
theorem rep_len (z : Str) (n : Int) : (rep z n).length = n.toNat * z.length := by
  show ((List.replicate n.toNat z.cps).foldl (· ++ ·) #[]).size = _
  rw [fold_size]
  show 0 + _ = _
  rw [Nat.zero_add]
  rfl
def rStrMul : R2 := fun x y H Q => ∃ (z : Str) (n : Int), x = .str z ∧ y = .int n ∧ 2 ≤ n ∧ n ≤ 10000 ∧ 1 ≤ z.length ∧ z.length ≤ 1000 ∧ Q (.str (rep z n)) H
theorem op_strMul {X : Cx} : OpR X (binaryOp .Mult) rStrMul := by
  intro pins s σ H x y v u Q I rx ry h
  obtain ⟨z, n, rfl, rfl, n2, n1, z1, z2, q⟩ := h
  obtain ⟨t, rfl⟩ := rx
  obtain ⟨t', rfl⟩ := ry
  have e2 : (2 : Int) ^ 63 = 9223372036854775808 := by decide
  have hn1 : (n == 1) = false := by simp; omega
  have hz0 : (z.length == 0) = false := by simp; omega
  have big : z.length * n.toNat ≤ 1000 * 10000 := Nat.mul_le_mul z2 (by omega)
  refine PySem.P.mul_str (by simp; omega) (fun _ _ => ?_) (fun _ _ => ?_) ?_
  · have h1 : (1000 : Int) ≤ (2 ^ 63 - 1) / n := (Int.le_ediv_iff_mul_le (by omega)).mpr (by omega)
    omega
  · unfold Builtin.Str.tooLong
    rw [sizeLine_eq]
    exact decide_eq_false (by omega)
  · rw [if_neg (by omega), if_neg (by rw [hn1, hz0]; simp)]
    have hl := rep_len z n
    refine ⟨by show (rep z n).length ≤ sizeLine; rw [hl, Nat.mul_comm, sizeLine_eq]; omega, ?_⟩
    exact ⟨.str (rep z n), H, I.tok _, ⟨_, rfl⟩, q⟩
/-- the heap without what stands at p -/
def hid (p : Addr) (H : Hp) : Hp := fun b => if b = p then none else H b
theorem hid_ne {p b : Addr} {H : Hp} (h : b ≠ p) : hid p H b = H b := if_neg h
theorem hid_same {p : Addr} {H H' : Hp} (h : ∀ b o, b ≠ p → H b = some o → H' b = some o) : Same (hid p H) (hid p H') := fun b o e => by
  by_cases hb : b = p
  · subst hb
    have z : (none : Option HO) = some o := (if_pos rfl).symm.trans e
    cases z
  · rw [hid_ne hb] at e ⊢
    exact h b o hb e
theorem hid_out {p : Addr} {H : Hp} : Same (hid p H) H := fun b o e => by
  by_cases hb : b = p
  · subst hb
    have z : (none : Option HO) = some o := (if_pos rfl).symm.trans e
    cases z
  · rw [hid_ne hb] at e
    exact e
theorem same_upd {H : Hp} {q : Addr} {o : HO} (h : H q = none) : Same H (upd H q o) := fun b u e => by
  rw [upd_ne (ne_of_none e h)]
  exact e
def Dice (p : Addr) (H : Hp) : Prop := ∃ a b c, H p = some (dk a b c)
theorem Dice.same {p : Addr} {H H' : Hp} (h : Dice p H) (e : Same H H') : Dice p H' := by
  obtain ⟨a, b, c, z⟩ := h
  exact ⟨a, b, c, e _ _ z⟩
theorem Dice.ne {p q : Addr} {H : Hp} (h : Dice p H) (n : H q = none) : q ≠ p := by
  obtain ⟨a, b, c, z⟩ := h
  exact (ne_of_none z n).symm
theorem DvAll.length {K : PySem.W.Frag} {H : Hp} : ∀ {xs : List V} {ds : List PyData}, DvAll K H xs ds → xs.length = ds.length
  | _, [], h => by cases h; rfl
  | _, d :: ds, h => by cases h with | cons h1 h2 => rw [List.length_cons, List.length_cons, DvAll.length h2]
theorem DvAll.get {K : PySem.W.Frag} {H : Hp} : ∀ {ds : List PyData} {xs : List V} {i : Nat} {x : V}, DvAll K H xs ds → xs[i]? = some x → ∃ d, ds[i]? = some d ∧ Dv K H x d
  | [], _, i, x, h, e => by cases h; simp at e
  | d :: ds, _, 0, x, h, e => by cases h with | cons h1 h2 => simp at e; subst e; exact ⟨d, rfl, h1⟩
  | d :: ds, _, i + 1, x, h, e => by cases h with | cons h1 h2 => exact DvAll.get (i := i) h2 (by simpa using e)
theorem DvAll.append {K : PySem.W.Frag} {H : Hp} : ∀ {ds es : List PyData} {xs ys : List V}, DvAll K H xs ds → DvAll K H ys es → DvAll K H (xs ++ ys) (ds ++ es)
  | [], _, _, _, h, g => by cases h; exact g
  | d :: ds, _, _, _, h, g => by cases h with | cons h1 h2 => exact .cons h1 (DvAll.append h2 g)
section
variable {K : PySem.W.Frag} {p : Addr} {σ : L2.St}
def Ev1 (K : PySem.W.Frag) (p : Addr) (σ : L2.St) (te : TE) (d : PyData) : Prop := ∀ H Q, Dice p H → (∀ x H', Same H H' → Dv K (hid p H') x d → Q x H') → te σ H Q
def EvN (K : PySem.W.Frag) (p : Addr) (σ : L2.St) (ta : TA) (ds : List PyData) : Prop := ∀ H Q, Dice p H → (∀ xs H', Same H H' → DvAll K (hid p H') xs ds → Q xs H') → ta σ H Q
theorem ev_non : Ev1 K p σ (tC .non) .none := fun H Q _ q => q _ H (Same.refl H) .non
theorem ev_bl {b : Bool} : Ev1 K p σ (tC (.bl b)) (.bool b) := fun H Q _ q => q _ H (Same.refl H) (.bl b)
theorem ev_int {i : Int} : Ev1 K p σ (tC (.int i)) (.int i) := fun H Q _ q => q _ H (Same.refl H) (.int i)
theorem ev_str {z : Str} : Ev1 K p σ (tC (.str z)) (.str z) := fun H Q _ q => q _ H (Same.refl H) (.str z)
theorem ev_neg {i : Int} : Ev1 K p σ (tUn (rU fun i => .int (-i)) (tC (.int i))) (.int (-i)) := fun H Q _ q => ⟨i, rfl, q _ H (Same.refl H) (.int _)⟩
theorem ev_pow {i j : Int} (h : PowBits i j) : Ev1 K p σ (tOp (rI PowBits fun i j => .int (i ^ j.toNat)) (tC (.int i)) (tC (.int j))) (.int (i ^ j.toNat)) := fun H Q _ q => ⟨i, j, rfl, rfl, h, q _ H (Same.refl H) (.int _)⟩
theorem ev_rep {z : Str} {n : Int} (h : 2 ≤ n ∧ n ≤ 10000 ∧ 1 ≤ z.length ∧ z.length ≤ 1000) : Ev1 K p σ (tOp rStrMul (tC (.str z)) (tC (.int n))) (.str (rep z n)) := fun H Q _ q => ⟨z, n, rfl, rfl, h.1, h.2.1, h.2.2.1, h.2.2.2, q _ H (Same.refl H) (.str _)⟩
theorem ev_nil : EvN K p σ tNil [] := fun H Q _ q => q _ H (Same.refl H) .nil
theorem ev_cons {te : TE} {ta : TA} {d : PyData} {ds : List PyData} (h : Ev1 K p σ te d) (g : EvN K p σ ta ds) : EvN K p σ (tCons te ta) (d :: ds) := fun H Q D q =>
  h H _ D fun x H1 e1 v1 => g H1 _ (D.same e1) fun xs H2 e2 v2 => q _ H2 (e1.trans e2) (.cons (v1.same (hid_same fun b o _ z => e2 b o z)) v2)
theorem ev_tup {ta : TA} {ds : List PyData} (g : EvN K p σ ta ds) (hl : ds.length ≤ 1000) : Ev1 K p σ (tTup ta) (.tuple ds) := fun H Q D q =>
  g H _ D fun xs H1 e1 v1 => ⟨by rw [v1.length]; exact Nat.le_of_lt (small1000 hl), fun a na => q _ _ (e1.trans (same_upd na)) (.tup (xs := xs) (.of (by rw [hid_ne ((D.same e1).ne na), upd_same])) (v1.same (hid_same fun b o _ z => same_upd na b o z)))⟩
theorem ev_lst {ta : TA} {ds : List PyData} (g : EvN K p σ ta ds) (hl : ds.length ≤ 1000) : Ev1 K p σ (tLst ta) (.list ds) := fun H Q D q =>
  g H _ D fun xs H1 e1 v1 => ⟨by rw [v1.length]; exact Nat.le_of_lt (small1000 hl), fun a na => q _ _ (e1.trans (same_upd na)) (.lst (xs := xs) (.of (by rw [hid_ne ((D.same e1).ne na), upd_same])) (v1.same (hid_same fun b o _ z => same_upd na b o z)))⟩
theorem ev_dict0 : Ev1 K p σ tDNewK (.dict []) := fun H Q D q => fun a na => q _ _ (same_upd na) (.dic (kvs := []) (by rw [hid_ne (D.ne na), upd_same]) rfl .nil)
theorem ev_dict1 {k : Str} {i : Int} : Ev1 K p σ (tDisp [(tC (.str k), tC (.int i))]) (.dict [(.str k, .int i)]) := fun H Q D q => fun a na => by
  refine ⟨upd_same, [(.inr k, .int i)], rfl, (by show 1 ≤ 15; decide), ?_⟩
  rw [upd_upd]
  exact q _ _ (same_upd na) (.dic (kvs := [(.inr k, .int i)]) (by rw [hid_ne (D.ne na), upd_same]; rfl) rfl (.cons (.int i) .nil))
end
end K0
end
/-! ### A1 -/
section
set_option Elab.async false
set_option linter.all false
set_option maxRecDepth 100000
set_option maxHeartbeats 4000000
/-! Values by their data: types, signs, texts, numbers; strip of a set of signs leaves nothing just of texts of them. -/
namespace K0
open PySem PySem.Spec PyProof.Rows L2
def dty : PyData → String
  | .none => "NoneType"
  | .bool _ => "bool"
  | .int _ => "int"
  | .str _ => "str"
  | .list _ => "list"
  | .tuple _ => "tuple"
  | .dict _ => "dict"
theorem Dv.ty {K : PySem.W.Frag} {H : Hp} {v : V} {d : PyData} (h : Dv K H v d) : TyX K H v (.type (dty d)) := by
  cases h with
  | non => exact .base .non
  | bl b => exact .base (.bl b)
  | int i => exact .base (.int i)
  | str x => exact .base (.str x)
  | lst h1 h2 =>
    rcases h1 with (h1 | ⟨o, h1⟩) | ⟨o, its, n, h1, c, _⟩
    · exact .base (.lst h1)
    · exact .base (.frz h1)
    · exact .kList h1 c
  | tup h1 h2 =>
    rcases h1 with (h1 | ⟨o, h1⟩) | ⟨o, its, n, h1, c, _⟩
    · exact .base (.tup h1)
    · exact .fTuple h1
    · exact .kTuple h1 c
  | dic h1 h2 h3 => exact .base (.dK h1)
def isStrD : PyData → Bool
  | .str _ => true
  | _ => false
def isIntD : PyData → Bool
  | .int _ => true
  | .bool _ => true
  | _ => false
def isBoolD : PyData → Bool
  | .bool _ => true
  | _ => false
def isTupD : PyData → Bool
  | .tuple _ => true
  | _ => false
section
variable {K : PySem.W.Frag}
theorem kit_str (d : PyData) : PySem.W.kitOne K (.type (dty d)) (.type "str") = some (isStrD d) := by cases d <;> (dsimp only [dty, isStrD, isIntD, isBoolD, isTupD]; exact kit_ty (by decide +kernel))
theorem kit_int (d : PyData) : PySem.W.kitOne K (.type (dty d)) (.type "int") = some (isIntD d) := by cases d <;> (dsimp only [dty, isStrD, isIntD, isBoolD, isTupD]; exact kit_ty (by decide +kernel))
theorem kit_bool (d : PyData) : PySem.W.kitOne K (.type (dty d)) (.type "bool") = some (isBoolD d) := by cases d <;> (dsimp only [dty, isStrD, isIntD, isBoolD, isTupD]; exact kit_ty (by decide +kernel))
theorem kit_tup (d : PyData) : PySem.W.kitOne K (.type (dty d)) (.type "tuple") = some (isTupD d) := by cases d <;> (dsimp only [dty, isStrD, isIntD, isBoolD, isTupD]; exact kit_ty (by decide +kernel))
/-- isinstance(v, T) of a value that is data -/
theorem rd_isi {H : Hp} {Q : VK} {v : V} {d : PyData} {n : String} {b : Bool} (h : Dv K H v d) (k : PySem.W.kitOne K (.type (dty d)) (.type n) = some b) (q : Q (.bl b) H) : rIsi K [v, .ty n] H Q := ⟨v, .ty n, _, _, b, rfl, .ty n, h.ty, k, q⟩
end
/-! ### strip -/
theorem takeWhile_all {g : Nat → Bool} : ∀ {l : List Nat}, l.all g = true → l.takeWhile g = l
  | [], _ => rfl
  | c :: l, h => by
    rw [List.all_cons, Bool.and_eq_true] at h
    rw [List.takeWhile_cons_of_pos h.1, takeWhile_all h.2]
theorem takeWhile_len {g : Nat → Bool} : ∀ (l : List Nat), (l.takeWhile g).length ≤ l.length
  | [] => Nat.le_refl _
  | c :: l => by
    by_cases h : g c = true
    · rw [List.takeWhile_cons_of_pos h]
      exact Nat.succ_le_succ (takeWhile_len l)
    · rw [List.takeWhile_cons_of_neg h]
      exact Nat.zero_le _
theorem takeWhile_full {g : Nat → Bool} : ∀ {l : List Nat}, (l.takeWhile g).length = l.length → l.all g = true
  | [], _ => rfl
  | c :: l, h => by
    by_cases z : g c = true
    · rw [List.takeWhile_cons_of_pos z, List.length_cons, List.length_cons] at h
      rw [List.all_cons, z, Bool.true_and]
      exact takeWhile_full (by omega)
    · rw [List.takeWhile_cons_of_neg z] at h
      simp at h
theorem drop_takeWhile {g : Nat → Bool} : ∀ (l : List Nat), l.drop (l.takeWhile g).length = [] ∨ ∃ c r, l.drop (l.takeWhile g).length = c :: r ∧ g c = false
  | [] => .inl rfl
  | c :: l => by
    by_cases h : g c = true
    · rw [List.takeWhile_cons_of_pos h]
      exact drop_takeWhile l
    · rw [List.takeWhile_cons_of_neg h]
      exact .inr ⟨c, l, rfl, by simpa using h⟩
theorem strSub_len (x : Str) (i j : Nat) : (Builtin.Str.strSub x i j).length = min j x.length - i := by
  show (x.cps.extract i j).size = _
  rw [Array.size_extract]
  rfl
theorem str_nil {x : Str} : x = ("" : Str) ↔ x.length = 0 := by
  constructor
  · rintro rfl
    rfl
  · intro h
    obtain ⟨a⟩ := x
    have z : a = #[] := Array.eq_empty_of_size_eq_zero h
    rw [z]
    rfl
theorem strip_len (x y : Str) : (Txt.stripChars x y).length = 0 ↔ x.cps.toList.all (fun c => y.cps.contains c) = true := by
  have e : Txt.stripChars x y = PySem.W.stripped (fun c => y.cps.contains c) true true x := by
    rw [Txt.stripChars, stripBy_eq]
    rfl
  rw [e]
  unfold PySem.W.stripped
  simp only [if_true]
  rw [strSub_len]
  generalize hg : (fun c => y.cps.contains c) = g
  have hl : x.length = x.cps.toList.length := by
    show x.cps.size = _
    simp
  have h1 := takeWhile_len (g := g) x.cps.toList
  have h2 := takeWhile_len (g := g) (x.cps.toList.drop (x.cps.toList.takeWhile g).length).reverse
  rw [List.length_reverse, List.length_drop] at h2
  constructor
  · intro h
    refine takeWhile_full (g := g) ?_
    rcases drop_takeWhile (g := g) x.cps.toList with z | ⟨c, r, z, hc⟩
    · have z2 := congrArg List.length z
      rw [List.length_drop, List.length_nil] at z2
      omega
    · have z3 : (((x.cps.toList.drop (x.cps.toList.takeWhile g).length).reverse).takeWhile g).length < (x.cps.toList.drop (x.cps.toList.takeWhile g).length).length := by
        refine Nat.lt_of_le_of_ne (by rw [List.length_drop]; exact h2) fun w => ?_
        have w2 := takeWhile_full (g := g) (l := (x.cps.toList.drop (x.cps.toList.takeWhile g).length).reverse) (by rw [List.length_reverse]; exact w)
        rw [z, List.reverse_cons, List.all_append, Bool.and_eq_true] at w2
        have w3 := w2.2
        rw [List.all_cons, hc] at w3
        cases w3
      rw [List.length_drop] at z3
      omega
  · intro h
    rw [takeWhile_all h, List.drop_length]
    simp [hl]
end K0
end
/-! ### A2 -/
section
set_option Elab.async false
set_option linter.all false
set_option maxRecDepth 100000
set_option maxHeartbeats 4000000
/-! is_number, is_sign, is_text, and the same told sign by sign. -/
namespace K0
open PySem PySem.Spec PyProof.Rows L2
def sgAll (z : Str) : Bool := z.cps.toList.all fun c => allSigns.cps.contains c
def isTextD : PyData → Bool
  | .str z => sgAll z
  | _ => false
def isSignD : PyData → Bool
  | .str z => decide (z.length = 1) && sgAll z
  | _ => false
def isNumD (lo hi : Int) : PyData → Bool
  | .int i => decide (lo ≤ i) && decide (i ≤ hi)
  | _ => false
theorem sg_mem (c : Nat) : allSigns.cps.contains c = decide (c ∈ allSigns.cps.toList) := by
  rw [Array.contains_eq_mem]
  exact decide_eq_decide.mpr Array.mem_toList_iff.symm
theorem one_cp {z : Str} (h : z.length = 1) : ∃ c, z = ⟨#[c]⟩ := by
  obtain ⟨⟨l⟩⟩ := z
  match l, h with
  | [c], _ => exact ⟨c, rfl⟩
theorem not_str {d : PyData} (h : ¬ isStrD d = true) : isTextD d = false ∧ isSignD d = false := by
  cases d <;> first | exact ⟨rfl, rfl⟩ | exact absurd rfl h
theorem is_str {K : PySem.W.Frag} {H : Hp} {v : V} {d : PyData} (hd : Dv K H v d) (h : isStrD d = true) : ∃ z, v = .str z ∧ d = .str z := by
  cases hd <;> first | exact ⟨_, rfl, rfl⟩ | cases h
theorem scText : FnScope ["value"] ["value"] (defScope (top iIsText)) := ⟨rfl, rfl, rfl, by decide +kernel, rfl, by decide +kernel, by decide +kernel⟩
def spNum (K : PySem.W.Frag) : Sp := fun vs H Q _ => ∃ (v : V) (d : PyData) (lo hi : Int), vs = [v, .int lo, .int hi] ∧ Dv K H v d ∧ Q (.bl (isNumD lo hi d)) H
/-- a bool that hangs on the value's data; what is told is that f of it; texts are short enough -/
def spD (K : PySem.W.Frag) (f : PyData → Bool) : Sp := fun vs H Q _ => ∃ (v : V) (d : PyData), vs = [v] ∧ Dv K H v d ∧ d.bulk ≤ 100000 ∧ ∀ H', Same H H' → Q (.bl (f d)) H'
theorem small5 {n : Nat} (h : n ≤ 100000) : n < sizeLine := by rw [sizeLine_eq]; omega
section
variable {P : Program} {w : World} {K : PySem.W.Frag} {mg : Str → Option Value} {base : Heap} {f : Addr} {fd : FuncData}
theorem ok_text {k : Nat} (F : FnP K "is_text" iIsText f fd) (misi : mg "isinstance" = none) (mstr : mg "str" = none) (ms : ∃ t, mg "SIGNS" = some (.str allSigns t)) : FnOk P w K mg base CX0 (k + 1) f fd ["value"] (spD K isTextD) := by
  refine F.ok scText (fun vs H Q E h => ?_) (fun cdv A outer s H vs Q E hr h => ?_)
  · obtain ⟨v, d, rfl, _⟩ := h
    rfl
  · obtain ⟨v, d, rfl, hd, sz, q⟩ := h
    obtain ⟨t, ms⟩ := ms
    refine ⟨_, PSs.nox (pss_one (ps_ret (pe_and (pe_callB call_isi (by rfl) misi boot_isinstance (pa_cons (pv 0) (pa_cons (pe_bltn (v := .ty "str") (by rfl) mstr (by decide +kernel) rfl) pa_nil)))
      (pe_one (pe_cmpR op_eq (pe_bm PySem.F.plainAttrs_str PySem.F.slot_str_strip PySem.F.type_str_strip mt_stripChars (pv 0) (pa_cons (pe_glob (v := .str allSigns) (by rfl) ms ⟨t, rfl⟩) pa_nil)) pe_str (nomark _)))))), ?_⟩
    refine ⟨_, rfl, v, _, _, _, _, rfl, .ty _, hd.ty, kit_str d, _, rfl, ite2 (fun e => ?_) (fun e => ?_)⟩
    · obtain ⟨z, rfl, rfl⟩ := is_str hd e
      refine ⟨_, rfl, rfl, z, allSigns, rfl, rfl, Nat.le_of_lt (small5 sz), rfl, ?_⟩
      have y : isTextD (.str z) = decide (V.str (Txt.stripChars z allSigns) = V.str ("" : Str)) := by
        have x := (strip_len z allSigns)
        by_cases u : (Txt.stripChars z allSigns).length = 0
        · rw [decide_eq_true (by rw [str_nil.mpr u])]
          exact x.mp u
        · rw [decide_eq_false (fun w => u (by injection w with w; exact str_nil.mp w))]
          exact Bool.eq_false_iff.mpr fun w => u (x.mpr w)
      have q2 := q H (Same.refl H)
      rw [y] at q2
      exact q2
    · have q2 := q H (Same.refl H)
      rw [(not_str e).1] at q2
      exact q2
end
end K0
end
/-! ### A5 -/
section
set_option Elab.async false
set_option linter.all false
set_option maxRecDepth 100000
set_option maxHeartbeats 4000000
/-! list(text); items in a drawn order. -/
namespace K0
open PySem PySem.Spec PyProof.Rows L2
def signsV (z : Str) : List V := z.cps.toList.map fun c => V.str ⟨#[c]⟩
theorem signs_vals {z : Str} {acc : Array Value} (h : ItemsOf (SignAt z) acc z.cps.size) : Vals (signsV z) acc.toList := by
  obtain ⟨h1, h2⟩ := h
  have go : ∀ (l : List Nat) (us : List Value), us.length = l.length → (∀ (j : Nat) (v : Value), us[j]? = some v → ∃ (c : Nat) (u : Tok), l[j]? = some c ∧ v = Value.str ⟨#[c]⟩ u) → Vals (l.map fun c => V.str ⟨#[c]⟩) us := by
    intro l
    induction l with
    | nil =>
      intro us e _
      rw [List.eq_nil_of_length_eq_zero e]
      exact .nil
    | cons c l ih =>
      intro us e f
      cases us with
      | nil => cases e
      | cons u us =>
        obtain ⟨c', t, e1, e2⟩ := f 0 u rfl
        cases e1
        refine .cons ⟨t, e2⟩ (ih us (by simpa using e) fun j v z => ?_)
        exact f (j + 1) v z
  refine go _ _ (by simpa using h1) fun j v e => ?_
  obtain ⟨c, u, e1, e2⟩ := h2 j v (by simpa using e)
  exact ⟨c, u, by simpa using e1, e2⟩
section
variable {X : Cx}
theorem call_list_txt (hc : X.calm = true) : CallR X (.type "list") (fun xs H Q => ∃ z, xs = [.str z] ∧ z.length ≤ sizeLine ∧ ∀ l, H l = none → Q (.ref l) (upd H l (.lst (signsV z)))) := by
  intro pins s σ H xs us Q I r h
  obtain ⟨z, rfl, hz, q⟩ := h
  obtain ⟨u, rfl, t, rfl⟩ := vals1 r
  refine call_list_str (I.ok.hd hc) z t (fun h' tk acc c kp e it => ?_) hz
  refine ⟨.ref s.heap.objs.size, _, I.laid (t' := tk) kp (Nat.le_refl _) (show ObjOk X.prog X.w _ h' _ (.lst (signsV z)) from ⟨?_, acc.toList, c, signs_vals it, e⟩), rfl, q _ (I.hok.fresh (Nat.le_refl _))⟩
  show (signsV z).length ≤ sizeLine
  unfold signsV
  rw [List.length_map]
  exact hz
end
theorem mr_popAt {X : Cx} : MtR X "list.pop" rPopAt := mt_popAt
def rLenS (K : PySem.W.Frag) : List V → Hp → VK → Prop := fun xs H Q => ∃ p ys, xs = [.ref p] ∧ (SqL K H p ys ∨ SqT K H p ys) ∧ Q (.int ys.length) H
/-- within a comprehension, where the written part must be named -/
theorem call_lenK {X : Cx} (K : PySem.W.Frag) (e : X.K = K) : CallR X (.builtin "len") (rLenS K) := by
  subst e
  exact call_len_seq
theorem pe_asK {X : Cx} {e : Expr} {T : String} {r : V → List V → Hp → VK → Prop} {to : TE} {t : TA} (K : PySem.W.Frag) (hK : X.K = K) (h : PE X e (tBM X.K T r to t)) : PE X e (tBM K T r to t) := hK ▸ h
theorem taken_perm {α : Type} : ∀ {l : List α} {i : Nat} {y : α}, l[i]? = some y → (y :: l.eraseIdx i).Perm l
  | x :: l, 0, y, h => by
    cases h
    exact List.Perm.refl _
  | x :: l, i + 1, y, h => by
    have z := taken_perm (l := l) (i := i) (y := y) (by simpa using h)
    exact (List.Perm.swap x y _).trans (z.cons x)
theorem scMixed : FnScope ["dice", "items", "left", "turn"] ["dice", "items"] (defScope (top iMixed)) := ⟨rfl, rfl, rfl, by decide +kernel, rfl, by decide +kernel, by decide +kernel⟩
def spMixed (K : PySem.W.Frag) : Sp := fun vs H Q _ => ∃ (p : Addr) (a b c : Int) (q : Addr) (xs : List V), vs = [.ref p, .ref q] ∧ H p = some (dk a b c) ∧ SqL K H q xs ∧ xs.length ≤ 1000 ∧ ∀ H' l ys, Keep p H H' → ys.Perm xs → H' l = some (.lst ys) → l ≠ p → Q (.ref l) H'
section
variable {P : Program} {w : World} {K : PySem.W.Frag} {mg : Str → Option Value} {base : Heap} {f fR : Addr} {fd fdR : FuncData}
theorem ok_mixed {k : Nat} (F : FnP K "_law_mixed" iMixed f fd) (mlist : mg "list" = none) (mlen : mg "len" = none) (mrange : mg "range" = none)
    (FR : FnOk P w K mg base CX0 (k + 1) fR fdR ["dice", "total"] spRoll) (gR : mg "_law_roll" = some (.ref fR)) (kR : PySem.W.keepIn K (.ref fR) = true) (bR : Binds K fdR ["dice", "total"] []) : FnOk P w K mg base CX0 (k + 2) f fd ["dice", "items"] (spMixed K) := by
  refine F.ok scMixed (fun vs H Q E h => ?_) (fun cdv A outer s H vs Q E hr h => ?_)
  · obtain ⟨p, a, b, c, q, xs, rfl, _⟩ := h
    rfl
  · obtain ⟨p, a, b, c, ad, xs, rfl, hp, hS, hz, q⟩ := h
    refine ⟨_, PSs.nox (pss_cons (ps_set (i := 2) scMixed.nd rfl (.inr rfl) (pe_callTy call_list_of (by rfl) mlist (by decide +kernel) (pa_cons (pv 1) pa_nil)))
      (pss_one (ps_ret (pe_lc (own := [("turn", 3)]) (g := gName 3) (tt := tYes) rfl scMixed.nd (pi_range1 (by rfl) mrange (pa_cons (pe_callB call_len_seq (by rfl) mlen PySem.boot_len (pa_cons (pv 1) pa_nil)) pa_nil)) (blkOk_by (N := ["dice", "items", "left", "turn"]) (sc := defScope (top iMixed)) (by decide +kernel))
        (fun _ _ _ _ _ => pg_name (i := 3) scMixed.nd rfl (Or.inl rfl)) (fun _ _ _ _ _ => pts_nil) (fun _ _ _ _ _ => pe_asK K rfl (pe_bm PySem.F.plainAttrs_list PySem.F.slot_list_pop PySem.F.type_list_pop mr_popAt (pv 2) (pa_cons (pe_call FR hr (by rfl) gR kR bR .nil pass0 (pa_cons (pv 0) (pa_cons (pe_callB (call_lenK K rfl) (by rfl) mlen PySem.boot_len (pa_cons (pv 2) pa_nil)) pa_nil))) pa_nil))))))), ?_⟩
    refine ⟨_, rfl, ad, xs, rfl, .inl hS, fun L nL => ?_⟩
    have k1 : Keep p H (upd H L (.lst xs)) := .new hp nL
    have s1 : Same H (upd H L (.lst xs)) := same_upd nL
    have nLp : L ≠ p := (ne_of_none hp nL).symm
    have e62 : (2 : Int) ^ 62 = 4611686018427387904 := by decide
    refine ⟨_, rfl, ad, xs, rfl, .inl (s1.seq hS), _, rfl, by omega, by omega, fun D nD => lc_range (lo := 0) (n := xs.length) (fun m H' => Keep p H H' ∧ D ≠ L ∧ D ≠ p ∧ ∃ rest got, H' L = some (.lst rest) ∧ H' D = some (.lst got) ∧ got.length = m ∧ (got ++ rest).Perm xs) ⟨k1.new2 nD, fun z => ?_, fun z => ?_, xs, [], ?_, upd_same, rfl, .refl _⟩ (fun m H' hm hP => ?_) (fun H' hP => ?_)⟩
    · rw [z, upd_same] at nD
      cases nD
    · rw [z, upd_ne nLp.symm, hp] at nD
      cases nD
    · exact same_upd nD _ _ upd_same
    · obtain ⟨kk, nDL, nDp, rest, got, hL, hD, hg, pm⟩ := hP
      obtain ⟨a1, b1, c1, hp1⟩ := kk.2
      have len := pm.length_eq
      rw [List.length_append] at len
      have r0 : 0 < rest.length := by omega
      refine ⟨rfl, _, rfl, .inl ⟨rfl, _, .of hL⟩, _, rfl, _, rfl, L, rest, rfl, .inl (.of hL), p, a1, b1, c1, rest.length, rfl, hp1, len_div r0 (Nat.le_of_lt (small1000 (by omega))), fun a2 b2 c2 r h0 h1 => ?_⟩
      · have hr2 : r.toNat < rest.length := by omega
        have hy : rest[r.toNat]? = some rest[r.toNat] := List.getElem?_eq_getElem hr2
        have e63 : (2 : Int) ^ 63 = 9223372036854775808 := by decide
        have hL2 : upd H' p (dk a2 b2 c2) L = some (.lst rest) := by rw [upd_ne nLp]; exact hL
        refine ⟨L, rest, r, r.toNat, _, rfl, rfl, hL2, by omega, by omega, seqIndex_of h0 h1, hy, got, ?_, by rw [hg]; exact small1000 (by omega), ?_, nDL, nDp, rest.eraseIdx r.toNat, got ++ [rest[r.toNat]], ?_, upd_same, ?_, ?_⟩
        · rw [upd_ne nDL, upd_ne nDp]
          exact hD
        · refine ⟨fun y o n z => ?_, a2, b2, c2, ?_⟩
          · rw [upd_ne (ne_of_none (k1.1 y o n (by exact z)) nD), upd_ne (ne_of_none z nL), upd_ne n]
            exact kk.1 y o n z
          · rw [upd_ne nDp.symm, upd_ne nLp.symm, upd_same]
        · rw [upd_ne nDL.symm, upd_same]
        · rw [List.length_append, hg]
          rfl
        · rw [List.append_assoc]
          exact ((taken_perm hy).append_left got).trans pm
    · obtain ⟨kk, nDL, nDp, rest, got, hL, hD, hg, pm⟩ := hP
      have len := pm.length_eq
      rw [List.length_append] at len
      have e0 : rest = [] := List.eq_nil_of_length_eq_zero (by omega)
      rw [e0, List.append_nil] at pm
      exact q H' D got kk pm hD nDp
end
end K0
end
/-! ### A5b -/
section
set_option Elab.async false
set_option linter.all false
set_option maxRecDepth 100000
set_option maxHeartbeats 4000000
/-! Tuples that are known to stand as they were made: tuple(list), displays. -/
namespace K0
open PySem PySem.Spec PyProof.Rows L2
/-- a tuple that stands as it was made -/
def FrT (H : Hp) (t : Addr) (xs : List V) : Prop := ∃ o : Obj, H t = some (.frz o (.tup xs)) ∧ o.cls = .type "tuple" ∧ o.dict = none
theorem FrT.sq {K : PySem.W.Frag} {H : Hp} {t : Addr} {xs : List V} (h : FrT H t xs) : SqT K H t xs := let ⟨o, e, _⟩ := h; .inl (.inr ⟨o, e⟩)
theorem FrT.same {H H' : Hp} {t : Addr} {xs : List V} (h : FrT H t xs) (s : Same H H') : FrT H' t xs := let ⟨o, e, z⟩ := h; ⟨o, s _ _ e, z⟩
/-- what a fresh address holds behind a tuple's making -/
def frzT (us : List Value) (xs : List V) : HO := .frz { cls := .type "tuple", data := .seq us.toArray } (.tup xs)
theorem frzT_at {H : Hp} {t : Addr} {us : List Value} {xs : List V} : FrT (upd H t (frzT us xs)) t xs := ⟨_, upd_same, rfl, rfl⟩
section
variable {X : Cx}
theorem call_tuple_frz : CallR X (.type "tuple") (fun xs H Q => ∃ p ys, xs = [.ref p] ∧ SqL X.K H p ys ∧ ∀ t us, H t = none → Q (.ref t) (upd H t (frzT us ys))) := by
  intro pins s σ H xs us Q I r h
  obtain ⟨p, ys, rfl, hq, q⟩ := h
  obtain ⟨u, rfl, rx⟩ := vals1 r
  cases rx
  obtain ⟨its, r', pl, hz⟩ := I.list hq
  have size := r'.length
  refine call_tuple_list pl.isList (fun h' kp => ?_) (by simp only [List.size_toArray] <;> omega)
  have J : Inv X pins σ H { s with heap := h' } := I.kept (t' := s.toks) kp
  refine ⟨.ref h'.objs.size, _, J.laid (t' := s.toks) (fun b o e => Heap.get?_push_of_some _ e) (Nat.le_refl _) (show ObjOk X.prog X.w _ _ _ (frzT its ys) from ⟨Heap.get?_push_size _ rfl, hz, its, r', IsTup.new _ _⟩), rfl, q _ its (J.hok.fresh (Nat.le_refl _))⟩
def tTupF (t : TA) : TE := fun σ H Q => t σ H fun xs H1 => xs.length ≤ sizeLine ∧ ∀ a us, H1 a = none → Q (.ref a) (upd H1 a (frzT us xs))
theorem pe_tupF {es : List Expr} {k : Nat} {pos : Pos} {t : TA} (h : PA X es t) : PE X (.Tuple es k pos) (tTupF t) := by
  refine ⟨fun pins s σ H Q I hq => wpAny_Tuple_spliced (thn (h.run pos pins s σ H _ I hq) fun us s1 ⟨xs, H1, J, r, z, q⟩ => ⟨by rw [← r.length]; exact z, ?_⟩)⟩
  refine ⟨.ref s1.heap.objs.size, _, J.laid (t' := s1.toks) (fun b u e => Heap.get?_push_of_some _ e) (Nat.le_refl _) (show ObjOk X.prog X.w _ _ _ (frzT us xs) from ⟨Heap.get?_push_size _ rfl, z, us, r, ⟨_, Heap.get?_push_size _ rfl, rfl, _, rfl⟩⟩), rfl, q _ us (J.hok.fresh (Nat.le_refl _))⟩
end
end K0
end
/-! ### A6 -/
section
set_option Elab.async false
set_option linter.all false
set_option maxRecDepth 100000
set_option maxHeartbeats 4000000
/-! Drawn ascending signs. -/
namespace K0
open PySem PySem.Spec PyProof.Rows L2
def oneS (c : Nat) : Str := ⟨#[c]⟩
def oneV (c : Nat) : V := V.str (oneS c)
def codeS (z : Str) : Nat := z.cps.getD 0 0
def codeV : V → Nat
  | .str z => codeS z
  | _ => 0
theorem perm_codes {α : Type} {f : Nat → α} {g : α → Nat} (gf : ∀ c, g (f c) = c) {ys : List α} {l : List Nat} (h : ys.Perm (l.map f)) : ∃ cs : List Nat, cs.Perm l ∧ ys = cs.map f := by
  refine ⟨ys.map g, ?_, ?_⟩
  · have z := h.map g
    rw [List.map_map, show (g ∘ f) = id from funext gf, List.map_id] at z
    exact z
  · rw [List.map_map]
    have : ∀ y ∈ ys, (f ∘ g) y = y := fun y hy => by
      obtain ⟨c, _, rfl⟩ := List.mem_map.mp (h.mem_iff.mp hy)
      show f (g (f c)) = f c
      rw [gf]
    exact ((List.map_congr_left (g := id) this).trans (List.map_id ys)).symm
theorem rising_pw : ∀ (r : List Nat) (c : Nat), risingS (oneS c) (r.map oneS) = true → (c :: r).Pairwise (· ≤ ·)
  | [], c, _ => by simp
  | d :: r, c, h => by
    rw [List.map_cons, risingS, Bool.and_eq_true] at h
    obtain ⟨h1, h2⟩ := h
    have cd : c ≤ d := by
      have y : ltCps (oneS d).cps.toList (oneS c).cps.toList = false := by simpa using h1
      have z : ltCps [d] [c] = false := y
      simp [ltCps] at z
      exact z
    have pw := rising_pw r d h2
    refine List.pairwise_cons.mpr ⟨fun e he => ?_, pw⟩
    rcases List.mem_cons.mp he with rfl | he
    · exact cd
    · exact Nat.le_trans cd ((List.pairwise_cons.mp pw).1 e he)
theorem sorted_pw {cs : List Nat} (h : sortedS (cs.map oneS) = true) (nd : cs.Nodup) : cs.Pairwise (· < ·) := by
  have le : cs.Pairwise (· ≤ ·) := by
    cases cs with
    | nil => simp
    | cons c r => exact rising_pw r c h
  exact (le.and nd).imp fun z => Nat.lt_of_le_of_ne z.1 z.2
def someSigns : Str := "$:_ab"
theorem cutV_take (xs : List V) (i : Int) : cutV xs none (some i) = xs.take (HT.sIx xs.length xs.length (some i)) := by
  unfold cutV
  rw [HT.sIx_none, List.drop_zero, Nat.sub_zero]
theorem pools : ∀ z, (z = someSigns ∨ z = allSigns) → z.length ≤ 15 ∧ z.cps.toList ≠ [] ∧ z.cps.toList.Nodup ∧ ∀ c ∈ z.cps.toList, c ∈ allSigns.cps.toList := by
  rintro z (rfl | rfl)
  · exact ⟨by decide +kernel, by decide +kernel, by decide +kernel, by decide +kernel⟩
  · exact ⟨by decide +kernel, by decide +kernel, by decide +kernel, fun _ h => h⟩
theorem scLSigns : FnScope ["dice", "upto", "pool", "size"] ["dice", "upto"] (defScope (top iSigns)) := ⟨rfl, rfl, rfl, by decide +kernel, rfl, by decide +kernel, by decide +kernel⟩
def spSigns : Sp := fun vs H Q _ => ∃ (p : Addr) (a b c up : Int), vs = [.ref p, .int up] ∧ H p = some (dk a b c) ∧ 1 ≤ up ∧ up ≤ 15 ∧
  ∀ H' t (cs : List Nat), Keep p H H' → FrT H' t (cs.map oneV) → cs.Pairwise (· < ·) → cs ≠ [] → (∀ c ∈ cs, c ∈ allSigns.cps.toList) → (cs.length : Int) ≤ up → Q (.ref t) H'
section
variable {P : Program} {w : World} {K : PySem.W.Frag} {mg : Str → Option Value} {base : Heap} {f fR fA fM : Addr} {fd fdR fdA fdM : FuncData}
theorem ok_lsigns {k : Nat} (F : FnP K "_law_signs" iSigns f fd) (mlist : mg "list" = none) (mtuple : mg "tuple" = none) (msorted : mg "sorted" = none)
    (FR : FnOk P w K mg base CX0 (k + 2) fR fdR ["dice", "total"] spRoll) (gR : mg "_law_roll" = some (.ref fR)) (kR : PySem.W.keepIn K (.ref fR) = true) (bR : Binds K fdR ["dice", "total"] [])
    (FA : FnOk P w K mg base CX0 (k + 2) fA fdA [] spAll) (gA : mg "_law_all_signs" = some (.ref fA)) (kA : PySem.W.keepIn K (.ref fA) = true) (bA : Binds K fdA [] [])
    (FM : FnOk P w K mg base CX0 (k + 2) fM fdM ["dice", "items"] (spMixed K)) (gM : mg "_law_mixed" = some (.ref fM)) (kM : PySem.W.keepIn K (.ref fM) = true) (bM : Binds K fdM ["dice", "items"] []) :
    FnOk P w K mg base CX0 (k + 3) f fd ["dice", "upto"] spSigns := by
  refine F.ok scLSigns (fun vs H Q E h => ?_) (fun cdv A outer s H vs Q E hr h => ?_)
  · obtain ⟨p, a, b, c, up, rfl, _⟩ := h
    rfl
  · obtain ⟨p, a, b, c, up, rfl, hp, u1, u2, q⟩ := h
    refine ⟨_, PSs.nox (C8.pss_cut (ps_par (i := 2) (j := 3) (by rfl) scLSigns.nd rfl rfl (by decide) rfl rfl (pa_cons (pe_ifExp (PW.pt (pw_and (pt_cmpR op_lt (pv 1) pe_int (nomark _)) (pw_and1 (pt_cmpR op_gt (pe_call FR hr (by rfl) gR kR bR .nil pass0 (pa_cons (pv 0) (pa_cons pe_int pa_nil))) pe_int (nomark _))))) pe_str (pe_call0 FA hr (by rfl) gA kA bA .nil pass0))
          (pa_cons (pe_op op_add pe_int (pe_call FR hr (by rfl) gR kR bR .nil pass0 (pa_cons (pv 0) (pa_cons (pv 1) pa_nil)))) pa_nil)) (by rfl))
      (pss_one (ps_ret (pe_callTy call_tuple_frz (by rfl) mtuple (by decide +kernel) (pa_cons (pe_callB cr_sortedS (by rfl) msorted (by decide +kernel) (pa_cons (pe_slice sl_list (pe_call FM hr (by rfl) gM kM bM .nil pass0 (pa_cons (pv 0) (pa_cons (pe_callTy (call_list_txt rfl) (by rfl) mlist (by decide +kernel) (pa_cons (pv 2) pa_nil)) pa_nil))) po_none (po_some (pv 3))) pa_nil)) pa_nil))))), ?_⟩
    refine ⟨fun σ' H' => ∃ (z : Str) (r : Int), σ' = [some (.ref p), some (.int up), some (.str z), some (.int (1 + r))] ∧ Keep p H H' ∧ (z = someSigns ∨ z = allSigns) ∧ 0 ≤ r ∧ r < up, ?_, ?_⟩
    · have wd : CDivW a up := wide_div (b := 4) (by omega) (by omega) (by decide) (by decide)
      refine ⟨_, rfl, _, _, rfl, rfl, _, rfl, ite2 (fun e1 => ?_) (fun e1 => ?_)⟩
      · refine ⟨_, rfl, p, a, b, c, 4, rfl, hp, wide_div (b := 4) (by decide) (by decide) (by decide) (by decide), fun a1 b1 c1 r1 g0 g1 => ⟨_, _, rfl, rfl, _, rfl, ite2 (fun e2 => ?_) (fun e2 => ?_)⟩⟩
        · have wd : CDivW a1 up := wide_div (b := 4) (by omega) (by omega) (by decide) (by decide)
          exact ⟨_, rfl, _, rfl, p, a1, b1, c1, up, rfl, upd_same, wd, fun a' b' c' r h0 h1 => ⟨_, _, rfl, rfl, _, _, rfl, _, r, rfl, (Keep.dice a1 b1 c1).trans (.dice a' b' c'), .inl rfl, h0, h1⟩⟩
        · have wd : CDivW a1 up := wide_div (b := 4) (by omega) (by omega) (by decide) (by decide)
          refine ⟨rfl, ?_⟩
          exact ⟨_, rfl, _, rfl, p, a1, b1, c1, up, rfl, upd_same, wd, fun a' b' c' r h0 h1 => ⟨_, _, rfl, rfl, _, _, rfl, _, r, rfl, (Keep.dice a1 b1 c1).trans (.dice a' b' c'), .inr rfl, h0, h1⟩⟩
      · refine ⟨rfl, ?_⟩
        exact ⟨_, rfl, _, rfl, p, a, b, c, up, rfl, hp, wd, fun a' b' c' r h0 h1 => ⟨_, _, rfl, rfl, _, _, rfl, _, r, rfl, .dice a' b' c', .inr rfl, h0, h1⟩⟩
    rintro σ1 H1 ⟨z, r, rfl, k1, hz, r0, r1⟩
    obtain ⟨z15, zne, znd, zsg⟩ := pools z hz
    refine ⟨_, rfl, _, rfl, z, rfl, Nat.le_of_lt (small1000 (by omega)), fun l nl => ?_⟩
    have kl : Keep p H (upd H1 l (.lst (signsV z))) := k1.new2 nl
    obtain ⟨a1, b1, c1, hp1⟩ := kl.2
    have zl : z.cps.toList.length = z.length := by
      show _ = z.cps.size
      simp
    refine ⟨p, a1, b1, c1, l, _, rfl, hp1, .of upd_same, by show (z.cps.toList.map _).length ≤ 1000; rw [List.length_map, zl]; omega, fun H2 l2 ys k2 pm e2 ne => ?_⟩
    obtain ⟨cs, pc, rfl⟩ := perm_codes (f := oneV) (g := codeV) (fun c => rfl) (l := z.cps.toList) pm
    have cl := pc.length_eq
    refine ⟨_, rfl, _, rfl, l2, _, rfl, .of e2, fun l3 n3 => ?_⟩
    have kn : ∀ n : Nat, HT.sIx n n (some (1 + r)) = min (1 + r).toNat n := fun n => by
      show (if (1 + r) < 0 then ((1 + r) + (n : Int)).toNat else min (1 + r).toNat n) = min (1 + r).toNat n
      rw [if_neg (by omega)]
    have ec : cutV (cs.map oneV) none (some (1 + r)) = ((cs.take (min (1 + r).toNat cs.length)).map oneS).map V.str := by
      rw [cutV_take, kn, List.length_map, ← List.map_take, List.map_map]
      rfl
    have c0 : 0 < z.cps.toList.length := List.length_pos_iff.mpr zne
    refine ⟨l3, (cs.take (min (1 + r).toNat cs.length)).map oneS, rfl, .of (by rw [upd_same, ec]), by rw [List.length_map, List.length_take]; omega, fun ys2 l4 pm2 so n4 => ?_⟩
    obtain ⟨cs2, pc2, rfl⟩ := perm_codes (f := oneS) (g := codeS) (fun c => rfl) pm2
    have cl2 := pc2.length_eq
    rw [List.length_take] at cl2
    have mem : ∀ c ∈ cs2, c ∈ z.cps.toList := fun c hc => pc.mem_iff.mp (List.mem_of_mem_take (pc2.mem_iff.mp hc))
    have nd : cs2.Nodup := pc2.nodup_iff.mpr ((pc.nodup_iff.mpr znd).sublist (List.take_sublist _ _))
    refine ⟨l4, _, rfl, .of upd_same, fun t us nt => q _ t cs2 ((((kl.trans k2).new2 n3).new2 n4).new2 nt) (by rw [List.map_map]; exact frzT_at) (sorted_pw so nd) (fun e => ?_) (fun c hc => zsg c (mem c hc)) (by omega)⟩
    rw [e, List.length_nil] at cl2
    omega
end
end K0
end
/-! ### RM -/
section
set_option linter.all false
/-! Runs of a hole, and the places in them, in plain Lean. -/
namespace Rd
structure RunD where
  signs : List Nat
  low : Nat
  high : Option Nat
/-- a place and those to which it goes on: rs are the runs from i on -/
def aheadG : List RunD → Nat → Nat → List (Nat × Nat)
  | [], i, c => [(i, c)]
  | r :: rs, i, c => (i, c) :: if r.low ≤ c then aheadG rs (i + 1) 0 else []
def ahead (rs : List RunD) (i c : Nat) : List (Nat × Nat) := aheadG (rs.drop i) i c
def countB (r : RunD) (c : Nat) : Nat := match r.high with
  | none => if c + 1 < r.low then c + 1 else r.low
  | some _ => c + 1
theorem ahead_end {rs : List RunD} {i c : Nat} (h : rs.length ≤ i) : ahead rs i c = [(i, c)] := by
  unfold ahead
  rw [List.drop_eq_nil_of_le h]
  rfl
theorem ahead_go {rs : List RunD} {i c : Nat} {r : RunD} (h : rs[i]? = some r) : ahead rs i c = (i, c) :: if r.low ≤ c then ahead rs (i + 1) 0 else [] := by
  unfold ahead
  obtain ⟨hl, e⟩ := List.getElem?_eq_some_iff.mp h
  rw [List.drop_eq_getElem_cons hl, e]
  rfl
theorem ahead_len (rs : List RunD) : ∀ (n i c : Nat), rs.length - i = n → (ahead rs i c).length ≤ n + 1
  | 0, i, c, h => by
    rw [ahead_end (by omega)]
    exact Nat.le_refl _
  | n + 1, i, c, h => by
    have hi : i < rs.length := by omega
    rw [ahead_go (List.getElem?_eq_getElem hi), List.length_cons]
    split
    · have := ahead_len rs n (i + 1) 0 (by omega)
      omega
    · simp
end Rd
end
/-! ### R1 -/
section
set_option Elab.async false
set_option linter.all false
set_option maxRecDepth 100000
set_option maxHeartbeats 4000000
/-! Runs and pairs on the heap; count_behind, places_ahead. -/
namespace K0
open PySem PySem.Spec PyProof.Rows L2 Rd
theorem none_back {H H' : Hp} {a : Addr} (s : Same H H') (n : H' a = none) : H a = none := by
  cases z : H a with
  | none => rfl
  | some o =>
    have z2 := s _ _ z
    rw [n] at z2
    cases z2
def hiV : Option Nat → V
  | none => .non
  | some n => .int (n : Nat)
def RunAt (K : PySem.W.Frag) (H : Hp) (v : V) (r : RunD) : Prop := ∃ a s, v = .ref a ∧ SqT K H a [.ref s, .int (r.low : Nat), hiV r.high] ∧ SqT K H s (r.signs.map oneV)
def RunsAt (K : PySem.W.Frag) (H : Hp) (a : Addr) (rs : List RunD) : Prop := ∃ vs, SqT K H a vs ∧ Paired (RunAt K H) vs rs
theorem RunAt.same {K : PySem.W.Frag} {H H' : Hp} {v : V} {r : RunD} (h : RunAt K H v r) (s : Same H H') : RunAt K H' v r := by
  obtain ⟨a, b, e, h1, h2⟩ := h
  exact ⟨a, b, e, same_tup s h1, same_tup s h2⟩
theorem pairedI {α β : Type} {F G : α → β → Prop} : ∀ {l : List α} {m : List β}, Paired F l m → (∀ a b, F a b → G a b) → Paired G l m
  | _, _, .nil, _ => .nil
  | _, _, .cons r t, f => .cons (f _ _ r) (pairedI t f)
theorem paired_at {α β : Type} {F : α → β → Prop} : ∀ {l : List α} {m : List β} {i : Nat} {b : β}, Paired F l m → m[i]? = some b → ∃ a, l[i]? = some a ∧ F a b
  | _, _, _, _, .nil, e => by simp at e
  | _, _, 0, _, .cons r t, e => by simp at e; subst e; exact ⟨_, rfl, r⟩
  | _, _, i + 1, _, .cons r t, e => by
    obtain ⟨a, h1, h2⟩ := paired_at (i := i) t (by simpa using e)
    exact ⟨a, by simpa using h1, h2⟩
theorem paired_at' {α β : Type} {F : α → β → Prop} : ∀ {l : List α} {m : List β} {i : Nat} {a : α}, Paired F l m → l[i]? = some a → ∃ b, m[i]? = some b ∧ F a b
  | _, _, _, _, .nil, e => by simp at e
  | _, _, 0, _, .cons r t, e => by simp at e; subst e; exact ⟨_, rfl, r⟩
  | _, _, i + 1, _, .cons r t, e => by
    obtain ⟨a, h1, h2⟩ := paired_at' (i := i) t (by simpa using e)
    exact ⟨a, by simpa using h1, h2⟩
theorem paired_len {α β : Type} {F : α → β → Prop} : ∀ {l : List α} {m : List β}, Paired F l m → l.length = m.length
  | _, _, .nil => rfl
  | _, _, .cons r t => by rw [List.length_cons, List.length_cons, paired_len t]
theorem paired_snoc {α β : Type} {F : α → β → Prop} {a : α} {b : β} (h : F a b) : ∀ {l : List α} {m : List β}, Paired F l m → Paired F (l ++ [a]) (m ++ [b])
  | _, _, .nil => .cons h .nil
  | _, _, .cons r t => .cons r (paired_snoc h t)
theorem paired_app {α β : Type} {F : α → β → Prop} : ∀ {l l' : List α} {m m' : List β}, Paired F l m → Paired F l' m' → Paired F (l ++ l') (m ++ m')
  | _, _, _, _, .nil, h => h
  | _, _, _, _, .cons r t, h => .cons r (paired_app t h)
theorem RunsAt.same {K : PySem.W.Frag} {H H' : Hp} {a : Addr} {rs : List RunD} (h : RunsAt K H a rs) (s : Same H H') : RunsAt K H' a rs := by
  obtain ⟨vs, h1, h2⟩ := h
  exact ⟨vs, same_tup s h1, pairedI h2 fun _ _ z => z.same s⟩
/-- a pair of numbers, a tuple of its own -/
abbrev pairO (p : Nat × Nat) : HO := .tup [.int (p.1 : Nat), .int (p.2 : Nat)]
def PairsAt (H : Hp) (cs : List Addr) (ps : List (Nat × Nat)) : Prop := Paired (fun c p => H c = some (pairO p)) cs ps
theorem PairsAt.same {H H' : Hp} {cs : List Addr} {ps : List (Nat × Nat)} (h : PairsAt H cs ps) (s : Same H H') : PairsAt H' cs ps := pairedI h fun _ _ z => s _ _ z
/-- all but one object stays -/
def But (l : Addr) (H H' : Hp) : Prop := ∀ y o, y ≠ l → H y = some o → H' y = some o
theorem But.pairs {l : Addr} {H H' : Hp} {cs : List Addr} {ps : List (Nat × Nat)} {vs : List V} (e : H l = some (.lst vs)) (h : PairsAt H cs ps) (s : But l H H') : PairsAt H' cs ps :=
  pairedI h fun c p z => s c _ (fun q => by rw [q, e] at z; cases z) z
/-- the number in slot 1 -/
def idxAt (σ : List (Option V)) : Nat := match σ with
  | _ :: some (.int i) :: _ => i.toNat
  | _ => 0
theorem scCount : FnScope ["run", "count", "_", "low", "high"] ["run", "count"] (defScope (top iCount)) := ⟨rfl, rfl, rfl, by decide +kernel, rfl, by decide +kernel, by decide +kernel⟩
def spCount (K : PySem.W.Frag) : Sp := fun vs H Q _ => ∃ (v : V) (r : RunD) (c : Nat), vs = [v, .int (c : Nat)] ∧ RunAt K H v r ∧ Q (.int (countB r c : Nat)) H
theorem scAhead : FnScope ["runs", "run", "count", "places"] ["runs", "run", "count"] (defScope (top iAhead)) := ⟨rfl, rfl, rfl, by decide +kernel, rfl, by decide +kernel, by decide +kernel⟩
def spAhead (K : PySem.W.Frag) : Sp := fun vs H Q _ => ∃ (a : Addr) (rs : List RunD) (i c : Nat), vs = [.ref a, .int (i : Nat), .int (c : Nat)] ∧ RunsAt K H a rs ∧ rs.length ≤ 4 ∧ i ≤ 4 ∧ ∀ H' l cs, Same H H' → H l = none → H' l = some (.lst (cs.map V.ref)) → PairsAt H' cs (ahead rs i c) → Q (.ref l) H'
section
variable {P : Program} {w : World} {K : PySem.W.Frag} {mg : Str → Option Value} {base : Heap} {f : Addr} {fd : FuncData}
theorem ok_count {k : Nat} (F : FnP K "count_behind" iCount f fd) (mmin : mg "min" = none) : FnOk P w K mg base CX0 (k + 1) f fd ["run", "count"] (spCount K) := by
  refine F.ok scCount (fun vs H Q E h => ?_) (fun cdv A outer s H vs Q E hr h => ?_)
  · obtain ⟨v, r, c, rfl, _⟩ := h
    rfl
  · obtain ⟨v, r, c, rfl, ⟨a, sg, rfl, hT, hs⟩, q⟩ := h
    refine ⟨_, PSs.nox (pss_cons (ps_asg (pv 0) (pg_tup rfl (pgs_cons (pg_name (i := 2) scCount.nd rfl (.inl rfl)) (pgs_cons (pg_name (i := 3) scCount.nd rfl (.inl rfl)) (pgs_cons (pg_name (i := 4) scCount.nd rfl (.inl rfl)) pgs_nil)))))
      (pss_one (ps_ret (pe_ifExp (pt_cmp (pc_isN (pv 4))) (pe_callB (call_min2 rfl) (by rfl) mmin (by decide +kernel) (pa_cons (pe_op op_add (pv 1) pe_int) (pa_cons (pv 3) pa_nil))) (pe_op op_add (pv 1) pe_int))))), ?_⟩
    refine ⟨_, rfl, a, _, rfl, hT, rfl, _, _, rfl, _, _, rfl, _, _, rfl, rfl, _, rfl, ?_⟩
    unfold countB at q
    cases e : r.high with
    | none =>
      rw [e] at q
      refine ⟨_, rfl, ite2 (fun _ => ⟨_, rfl, _, _, rfl, rfl, _, rfl, _, _, rfl, ?_⟩) (fun z => absurd rfl z)⟩
      have q : Q (.int ((if c + 1 < r.low then c + 1 else r.low : Nat) : Nat)) H := q
      have e2 : (if (r.low : Int) < (c : Int) + 1 then (r.low : Int) else (c : Int) + 1) = ((if c + 1 < r.low then c + 1 else r.low : Nat) : Int) := by
        by_cases h1 : c + 1 < r.low
        · rw [if_pos h1, if_neg (by omega)]; omega
        · rw [if_neg h1]
          by_cases h2 : (r.low : Int) < (c : Int) + 1
          · rw [if_pos h2]
          · rw [if_neg h2]; omega
      rw [← e2] at q
      exact q
    | some n =>
      rw [e] at q
      refine ⟨_, rfl, ite2 (fun z => by cases of_decide_eq_true z) (fun _ => ⟨_, rfl, _, _, rfl, rfl, ?_⟩)⟩
      have q : Q (.int ((c + 1 : Nat) : Int)) H := q
      show Q (.int ((c : Int) + 1)) H
      rw [show ((c : Nat) : Int) + 1 = ((c + 1 : Nat) : Int) by omega]
      exact q
theorem ok_ahead {k : Nat} (F : FnP K "places_ahead" iAhead f fd) (mlen : mg "len" = none) : FnOk P w K mg base CX0 (k + 1) f fd ["runs", "run", "count"] (spAhead K) := by
  refine F.ok scAhead (fun vs H Q E h => ?_) (fun cdv A outer s H vs Q E hr h => ?_)
  · obtain ⟨a, rs, i, c, rfl, _⟩ := h
    rfl
  · obtain ⟨a, rs, i0, c0, rfl, hR, r4, i4, q⟩ := h
    refine ⟨_, PSs.nox (C8.pss_cut (ps_set (i := 3) scAhead.nd rfl (.inl rfl) (pe_lst (pa_cons (pe_tup (pa_cons (pv 1) (pa_cons (pv 2) pa_nil))) pa_nil)))
      (C8.pss_cut (ps_while PassesOwn.never (PW.pt (pw_and (pt_cmpR op_lt (pv 1) (pe_callB call_len_seq (by rfl) mlen PySem.boot_len (pa_cons (pv 0) pa_nil)) (nomark _)) (pw_and1 (pt_cmpR op_ge (pv 2) (pe_ix ix_tup (pe_ix ix_tup (pv 0) (pv 1) (fun _ _ => rfl)) pe_int (fun _ _ => rfl)) (nomark _)))))
        (pss_cons (ps_set (i := 1) scAhead.nd rfl (.inl rfl) (pe_op op_add (pv 1) pe_int)) (pss_cons (ps_set (i := 2) scAhead.nd rfl (.inl rfl) pe_int)
          (pss_one (ps_expr (pe_bm PySem.F.plainAttrs_list PySem.F.slot_list_append PySem.F.type_list_append mt_append (pv 3) (pa_cons (pe_tup (pa_cons (pv 1) (pa_cons (pv 2) pa_nil))) pa_nil)))))))
      (pss_one (ps_ret (pv 3))))), ?_⟩
    have sm1 : 1 ≤ sizeLine := by decide
    have sm2 : 2 ≤ sizeLine := by decide
    refine ⟨fun σ' H' => ∃ l cs, σ' = [some (.ref a), some (.int (i0 : Nat)), some (.int (c0 : Nat)), some (.ref l)] ∧ Same H H' ∧ H l = none ∧ H' l = some (.lst (cs.map V.ref)) ∧ PairsAt H' cs [(i0, c0)], ?_, ?_⟩
    · refine ⟨_, rfl, _, rfl, sm2, fun b nb => ⟨sm1, fun l nl => ?_⟩⟩
      exact ⟨l, [b], rfl, (same_upd nb).trans (same_upd nl), none_back (same_upd nb) nl, upd_same, .cons (same_upd nl _ _ upd_same) .nil⟩
    rintro σ1 H1 ⟨l, cs, rfl, s1, nl, e1, p1⟩
    obtain ⟨vs, hT, hP⟩ := hR
    have vl := paired_len hP
    refine ⟨fun σ' H' => ∃ x1 x2 cs, σ' = [some (.ref a), x1, x2, some (.ref l)] ∧ Same H H' ∧ H' l = some (.lst (cs.map V.ref)) ∧ PairsAt H' cs (ahead rs i0 c0), ?_, ?_⟩
    · refine while_by (fun σ' H' => ∃ (i c : Nat) (cs : List Addr) (done : List (Nat × Nat)), σ' = [some (.ref a), some (.int (i : Nat)), some (.int (c : Nat)), some (.ref l)] ∧ Same H H' ∧ H' l = some (.lst (cs.map V.ref)) ∧ PairsAt H' cs (done ++ [(i, c)]) ∧ done ++ ahead rs i c = ahead rs i0 c0)
        (fun σ' _ => rs.length - idxAt σ') ⟨i0, c0, cs, [], rfl, s1, e1, p1, rfl⟩ (fun σ' H' hP2 => ?_) ?_
      · obtain ⟨i, c, cs, done, rfl, s2, e2, p2, full⟩ := hP2
        have small : cs.length < sizeLine := by
          have z1 := paired_len p2
          have z2 := congrArg List.length full
          have z3 := ahead_len rs _ i0 c0 rfl
          have z4 : 1 ≤ (ahead rs i c).length := by
            by_cases hi : i < rs.length
            · rw [ahead_go (List.getElem?_eq_getElem hi), List.length_cons]; omega
            · rw [ahead_end (by omega)]; exact Nat.le_refl 1
          rw [List.length_append] at z1 z2
          rw [List.length_singleton] at z1
          rw [sizeLine_eq]
          omega
        have hT2 := same_tup s2 hT
        refine ⟨_, rfl, _, rfl, a, vs, rfl, .inr hT2, _, _, rfl, rfl, _, rfl, ?_⟩
        refine ite2 (fun hlt => ?_) (fun hge => ?_)
        · have hi : i < rs.length := by
            have z : (i : Int) < (vs.length : Int) := of_decide_eq_true hlt
            omega
          have go := ahead_go (c := c) (List.getElem?_eq_getElem hi)
          obtain ⟨v, hv, hr⟩ := paired_at hP (List.getElem?_eq_getElem hi)
          generalize rs[i] = r at hr go
          obtain ⟨ar, sg, rfl, hrT, _⟩ := hr
          have hrT2 := same_tup s2 hrT
          refine ⟨_, rfl, _, rfl, _, rfl, a, vs, _, _, rfl, rfl, hT2, atI_nat hv, ar, _, _, _, rfl, rfl, hrT2, rfl, _, _, rfl, rfl, _, rfl, ite2 (fun hc => ?_) (fun hc => ?_)⟩
          · have hc : r.low ≤ c := by
              have z : ((r.low : Nat) : Int) ≤ (c : Int) := of_decide_eq_true hc
              omega
            rw [if_pos hc] at go
            refine ⟨_, rfl, _, _, rfl, rfl, ?_⟩
            refine ⟨_, rfl, .inl ⟨rfl, _, .inl (.inl e2)⟩, _, rfl, _, rfl, sm2, fun b nb => ⟨l, _, _, rfl, rfl, by rw [upd_ne (ne_of_none e2 nb)]; exact e2, by rw [List.length_map]; exact small, ?_⟩⟩
            have bl : b ≠ l := (ne_of_none e2 nb).symm
            refine ⟨⟨i + 1, 0, cs ++ [b], done ++ [(i, c)], ?_, ?_, ?_, ?_, ?_⟩, ?_⟩
            · rfl
            · exact fun y o z => by
                have ny : y ≠ l := fun q => by rw [q, nl] at z; cases z
                rw [upd_ne ny]
                exact same_upd nb _ _ (s2 _ _ z)
            · rw [upd_same, List.map_append]; rfl
            · refine paired_snoc ?_ (pairedI p2 fun x y z => ?_)
              · rw [upd_ne bl, upd_same]; rfl
              · rw [upd_ne (fun q => by rw [q, e2] at z; cases z)]
                exact same_upd nb _ _ z
            · rw [← full, go]; simp
            · show rs.length - ((i : Int) + 1).toNat < rs.length - ((i : Int)).toNat
              omega
          · have hc : ¬ r.low ≤ c := by
              have z : ¬ ((r.low : Nat) : Int) ≤ (c : Int) := fun q => hc (decide_eq_true q)
              omega
            rw [if_neg hc] at go
            refine ⟨_, _, cs, rfl, s2, e2, ?_⟩
            rw [go] at full
            rw [← full]
            exact p2
        · have hi : rs.length ≤ i := by
            have z : ¬ (i : Int) < (vs.length : Int) := fun q => hge (decide_eq_true q)
            omega
          have go := ahead_end (c := c) hi
          refine ⟨_, _, cs, rfl, s2, e2, ?_⟩
          rw [go] at full
          rw [← full]
          exact p2
      · rintro σ H Q Q' m ⟨v1, h1, v2, h2, a2, ys2, h3, h4, i2, j2, h5, h6, k2, h7, h8⟩
        refine ⟨v1, h1, v2, h2, a2, ys2, h3, h4, i2, j2, h5, h6, k2, h7, ?_⟩
        cases k2 with
        | false => exact m _ _ h8
        | true =>
          obtain ⟨w1, g1, w2, g2, w3, g3, w4, w5, w6, w7, g4, g5, g6, g7, w8, w9, w10, w11, g8, g9, g10, g11, w12, w13, g12, g13, w14, g14, g15⟩ := h8
          exact ⟨w1, g1, w2, g2, w3, g3, w4, w5, w6, w7, g4, g5, g6, g7, w8, w9, w10, w11, g8, g9, g10, g11, w12, w13, g12, g13, w14, g14, m _ _ g15⟩
    · rintro σ2 H2 ⟨x1, x2, cs2, rfl, s2, e2, p2⟩
      exact ⟨_, rfl, q H2 l cs2 s2 nl e2 p2⟩
end
end K0
end
/-! ### RM2 -/
section
set_option linter.all false
/-! States of a reader: ascending lists of places; there are finitely many. -/
namespace Rd
abbrev Pl := Nat × Nat
def kd (p : Pl) : Nat := p.1 * 64 + p.2
def Asc (l : List Pl) : Prop := l.Pairwise fun p q => kd p < kd q
instance (l : List Pl) : Decidable (Asc l) := by unfold Asc; exact inferInstance
def grid : List Pl := (List.range 5).flatMap fun i => (List.range 4).map fun c => (i, c)
theorem grid_asc : Asc grid := by decide
theorem mem_grid {p : Pl} : p ∈ grid ↔ p.1 < 5 ∧ p.2 < 4 := by
  unfold grid
  rw [List.mem_flatMap]
  constructor
  · rintro ⟨i, hi, h⟩
    obtain ⟨c, hc, rfl⟩ := List.mem_map.mp h
    exact ⟨List.mem_range.mp hi, List.mem_range.mp hc⟩
  · rintro ⟨h1, h2⟩
    exact ⟨p.1, List.mem_range.mpr h1, List.mem_map.mpr ⟨p.2, List.mem_range.mpr h2, rfl⟩⟩
theorem asc_ext : ∀ {l m : List Pl}, Asc l → Asc m → (∀ x, x ∈ l ↔ x ∈ m) → l = m
  | [], [], _, _, _ => rfl
  | [], y :: m, _, _, h => by have := (h y).mpr List.mem_cons_self; cases this
  | x :: l, [], _, _, h => by have := (h x).mp List.mem_cons_self; cases this
  | x :: l, y :: m, hl, hm, h => by
    obtain ⟨a1, a2⟩ := List.pairwise_cons.mp hl
    obtain ⟨b1, b2⟩ := List.pairwise_cons.mp hm
    have e : x = y := by
      rcases List.mem_cons.mp ((h x).mp List.mem_cons_self) with e | e
      · exact e
      · rcases List.mem_cons.mp ((h y).mpr List.mem_cons_self) with f | f
        · exact f.symm
        · have z1 := b1 x e
          have z2 := a1 y f
          omega
    subst e
    have t : l = m := asc_ext a2 b2 fun z => by
      constructor
      · intro hz
        rcases List.mem_cons.mp ((h z).mp (List.mem_cons_of_mem _ hz)) with e | e
        · subst e; have := a1 z hz; omega
        · exact e
      · intro hz
        rcases List.mem_cons.mp ((h z).mpr (List.mem_cons_of_mem _ hz)) with e | e
        · subst e; have := b1 z hz; omega
        · exact e
    rw [t]
def canon (l : List Pl) : List Pl := grid.filter fun p => decide (p ∈ l)
theorem canon_asc (l : List Pl) : Asc (canon l) := grid_asc.sublist List.filter_sublist
theorem canon_sub (l : List Pl) : (canon l).Sublist grid := List.filter_sublist
theorem mem_canon {l : List Pl} (h : ∀ p ∈ l, p ∈ grid) {x : Pl} : x ∈ canon l ↔ x ∈ l := by
  unfold canon
  rw [List.mem_filter, decide_eq_true_iff]
  exact ⟨fun z => z.2, fun z => ⟨h x z, z⟩⟩
theorem asc_canon {l m : List Pl} (a : Asc l) (h : ∀ p ∈ m, p ∈ grid) (e : ∀ x, x ∈ l ↔ x ∈ m) : l = canon m :=
  asc_ext a (canon_asc m) fun x => (e x).trans (mem_canon h).symm
/-! ### places that stand -/
def cap (r : RunD) : Nat := r.high.getD r.low
structure GoodR (r : RunD) : Prop where
  low : r.low ≤ 3
  cap : cap r ≤ 3
structure Good (rs : List RunD) : Prop where
  len : rs.length ≤ 4
  all : ∀ r ∈ rs, GoodR r
def OkP (rs : List RunD) (p : Pl) : Prop := (p.1 = rs.length ∧ p.2 = 0) ∨ ∃ r, rs[p.1]? = some r ∧ p.2 ≤ cap r
theorem OkP.grid {rs : List RunD} (g : Good rs) {p : Pl} (h : OkP rs p) : p ∈ grid := by
  have := g.len
  rcases h with ⟨h1, h2⟩ | ⟨r, h1, h2⟩
  · exact mem_grid.mpr ⟨by omega, by omega⟩
  · obtain ⟨hl, e⟩ := List.getElem?_eq_some_iff.mp h1
    have z := (g.all r (List.mem_of_getElem? h1)).cap
    exact mem_grid.mpr ⟨by omega, by omega⟩
theorem aheadG_ok (rs : List RunD) : ∀ (l : List RunD) (i c : Nat), rs.drop i = l → OkP rs (i, c) → ∀ p ∈ aheadG l i c, OkP rs p
  | [], i, c, _, h, p, hp => by
    rcases List.mem_cons.mp hp with rfl | hp
    · exact h
    · cases hp
  | r :: l, i, c, e, h, p, hp => by
    unfold aheadG at hp
    rcases List.mem_cons.mp hp with rfl | hp
    · exact h
    · split at hp
      · refine aheadG_ok rs l (i + 1) 0 ?_ ?_ p hp
        · rw [← List.drop_drop (i := 1) (j := i), e]; rfl
        · have hi : i < rs.length := by
            by_cases z : i < rs.length
            · exact z
            · rw [List.drop_eq_nil_of_le (by omega)] at e; cases e
          by_cases z : i + 1 < rs.length
          · exact .inr ⟨rs[i + 1], List.getElem?_eq_getElem z, Nat.zero_le _⟩
          · exact .inl ⟨by show i + 1 = _; omega, rfl⟩
      · cases hp
theorem ahead_ok {rs : List RunD} {i c : Nat} (h : OkP rs (i, c)) : ∀ p ∈ ahead rs i c, OkP rs p := aheadG_ok rs _ i c rfl h
theorem aheadG_asc : ∀ (l : List RunD) (i c : Nat), c < 64 → Asc (aheadG l i c) ∧ ∀ p ∈ aheadG l i c, i * 64 ≤ kd p
  | [], i, c, _ => ⟨List.pairwise_singleton _ _, fun p hp => by
    rcases List.mem_cons.mp hp with rfl | hp
    · unfold kd; omega
    · cases hp⟩
  | r :: l, i, c, hc => by
    obtain ⟨a, b⟩ := aheadG_asc l (i + 1) 0 (by omega)
    unfold aheadG
    split
    · refine ⟨List.pairwise_cons.mpr ⟨fun q hq => ?_, a⟩, fun p hp => ?_⟩
      · have := b q hq
        show i * 64 + c < kd q
        omega
      · rcases List.mem_cons.mp hp with rfl | hp
        · unfold kd; omega
        · have := b p hp; omega
    · refine ⟨List.pairwise_singleton _ _, fun p hp => ?_⟩
      rcases List.mem_cons.mp hp with rfl | hp
      · unfold kd; omega
      · cases hp
/-! ### a sign further -/
def stepB (rs : List RunD) (s : Nat) (p : Pl) : List Pl := match rs[p.1]? with
  | some r => if s ∈ r.signs ∧ r.high ≠ some p.2 then ahead rs p.1 (countB r p.2) else []
  | none => []
def behindL (rs : List RunD) (ps : List Pl) (s : Nat) : List Pl := ps.flatMap (stepB rs s)
def behind (rs : List RunD) (ps : List Pl) (s : Nat) : List Pl := canon (behindL rs ps s)
theorem stepB_ok {rs : List RunD} {s : Nat} {p : Pl} (h : OkP rs p) : ∀ q ∈ stepB rs s p, OkP rs q := by
  intro q hq
  unfold stepB at hq
  cases e : rs[p.1]? with
  | none => rw [e] at hq; cases hq
  | some r =>
    rw [e] at hq
    simp only at hq
    split at hq
    · rename_i hc
      refine ahead_ok (i := p.1) (c := countB r p.2) (.inr ⟨r, e, ?_⟩) q hq
      rcases h with ⟨h1, _⟩ | ⟨r2, h1, h2⟩
      · rw [h1, List.getElem?_eq_none (Nat.le_refl _)] at e; cases e
      · rw [e] at h1
        cases h1
        show countB r p.2 ≤ cap r
        unfold countB
        unfold cap at h2 ⊢
        cases hh : r.high with
        | none =>
          rw [hh] at h2
          have h2 : p.2 ≤ r.low := h2
          show (if p.2 + 1 < r.low then p.2 + 1 else r.low) ≤ r.low
          split <;> omega
        | some n =>
          rw [hh] at h2
          have h2 : p.2 ≤ n := h2
          show p.2 + 1 ≤ n
          have z := hc.2
          rw [hh] at z
          have : n ≠ p.2 := fun y => z (by rw [y])
          omega
    · cases hq
theorem behindL_ok {rs : List RunD} {ps : List Pl} {s : Nat} (h : ∀ p ∈ ps, OkP rs p) : ∀ q ∈ behindL rs ps s, OkP rs q := by
  intro q hq
  obtain ⟨p, hp, hq⟩ := List.mem_flatMap.mp hq
  exact stepB_ok (h p hp) q hq
theorem behind_ok {rs : List RunD} {ps : List Pl} {s : Nat} (h : ∀ p ∈ ps, OkP rs p) : ∀ q ∈ behind rs ps s, OkP rs q := by
  intro q hq
  unfold behind canon at hq
  rw [List.mem_filter, decide_eq_true_iff] at hq
  exact behindL_ok h q hq.2
/-! ### how many at once -/
def wt (n : Nat) (p : Pl) : Nat := if p.1 < n then n - p.1 + 1 else 0
theorem stepB_len {rs : List RunD} {s : Nat} {p : Pl} : (stepB rs s p).length ≤ wt rs.length p := by
  unfold stepB
  cases e : rs[p.1]? with
  | none => exact Nat.zero_le _
  | some r =>
    obtain ⟨hl, _⟩ := List.getElem?_eq_some_iff.mp e
    show (if _ then _ else _ : List Pl).length ≤ _
    split
    · have := ahead_len rs _ p.1 (countB r p.2) rfl
      unfold wt
      rw [if_pos hl]
      exact this
    · exact Nat.zero_le _
theorem sum_sub {α : Type} (f : α → Nat) : ∀ {l m : List α}, l.Sublist m → (l.map f).sum ≤ (m.map f).sum
  | _, _, .slnil => Nat.le_refl _
  | _, _, .cons a h => by
    have := sum_sub f h
    simp only [List.map_cons, List.sum_cons]
    omega
  | _, _, .cons₂ a h => by
    have := sum_sub f h
    simp only [List.map_cons, List.sum_cons]
    omega
theorem flat_len (rs : List RunD) (s : Nat) : ∀ ps : List Pl, (behindL rs ps s).length ≤ (ps.map (wt rs.length)).sum
  | [] => Nat.le_refl _
  | p :: ps => by
    have h1 := flat_len rs s ps
    have h2 := stepB_len (rs := rs) (s := s) (p := p)
    unfold behindL at *
    rw [List.flatMap_cons, List.length_append, List.map_cons, List.sum_cons]
    omega
theorem wt_grid {n : Nat} (h : n ≤ 4) : (grid.map (wt n)).sum ≤ 56 := by
  have : n = 0 ∨ n = 1 ∨ n = 2 ∨ n = 3 ∨ n = 4 := by omega
  rcases this with rfl | rfl | rfl | rfl | rfl <;> decide
theorem behindL_few {rs : List RunD} {ps : List Pl} {s : Nat} (g : rs.length ≤ 4) (h : ps.Sublist grid) : (behindL rs ps s).length ≤ 56 :=
  Nat.le_trans (flat_len rs s ps) (Nat.le_trans (sum_sub _ h) (wt_grid g))
/-! ### how many states -/
def subs : List Pl → List (List Pl)
  | [] => [[]]
  | x :: l => subs l ++ (subs l).map (x :: ·)
theorem subs_len : ∀ l : List Pl, (subs l).length = 2 ^ l.length
  | [] => rfl
  | x :: l => by
    rw [subs, List.length_append, List.length_map, subs_len l, List.length_cons, Nat.pow_succ]
    omega
theorem mem_subs : ∀ {l m : List Pl}, l.Sublist m → l ∈ subs m
  | _, _, .slnil => List.mem_singleton.mpr rfl
  | _, _, .cons a h => List.mem_append_left _ (mem_subs h)
  | _, _, .cons₂ a h => List.mem_append_right _ (List.mem_map.mpr ⟨_, mem_subs h, rfl⟩)
theorem nodup_len {α : Type} [DecidableEq α] : ∀ {l m : List α}, l.Nodup → (∀ x ∈ l, x ∈ m) → l.length ≤ m.length
  | [], _, _, _ => Nat.zero_le _
  | x :: l, m, n, h => by
    obtain ⟨n1, n2⟩ := List.nodup_cons.mp n
    have hx := h x List.mem_cons_self
    have := nodup_len (m := m.erase x) n2 fun y hy => (List.mem_erase_of_ne (fun e => by rw [e] at hy; exact n1 hy)).mpr (h y (List.mem_cons_of_mem _ hy))
    rw [List.length_erase_of_mem hx] at this
    have := List.length_pos_of_mem hx
    rw [List.length_cons]
    omega
theorem states_few {sts : List (List Pl)} (n : sts.Nodup) (h : ∀ p ∈ sts, p.Sublist grid) : sts.length ≤ 1048576 := by
  have := nodup_len n fun x hx => mem_subs (h x hx)
  rw [subs_len] at this
  exact this
end Rd
end
/-! ### R2 -/
section
set_option Elab.async false
set_option linter.all false
set_option maxRecDepth 100000
set_option maxHeartbeats 4000000
/-! places_behind. -/
namespace K0
open PySem PySem.Spec PyProof.Rows L2 Rd
theorem scBehind : FnScope ["runs", "places", "sign", "found", "run", "count"] ["runs", "places", "sign"] (defScope (top iBehind)) := ⟨rfl, rfl, rfl, by decide +kernel, rfl, by decide +kernel, by decide +kernel⟩
/-- a tuple of pairs, each a tuple of its own -/
def PlacesAt (H : Hp) (b : Addr) (ps : List Pl) : Prop := ∃ cs : List Addr, H b = some (.tup (cs.map V.ref)) ∧ PairsAt H cs ps
theorem PlacesAt.same {H H' : Hp} {b : Addr} {ps : List Pl} (h : PlacesAt H b ps) (s : Same H H') : PlacesAt H' b ps := by
  obtain ⟨cs, h1, h2⟩ := h
  exact ⟨cs, s _ _ h1, h2.same s⟩
def spBehind (K : PySem.W.Frag) : Sp := fun vs H Q _ => ∃ (a b : Addr) (rs : List RunD) (ps : List Pl) (s : Nat), vs = [.ref a, .ref b, oneV s] ∧ RunsAt K H a rs ∧ Good rs ∧ PlacesAt H b ps ∧ ps.Sublist grid ∧ (∀ p ∈ ps, OkP rs p) ∧
  ∀ H' t, Same H H' → H t = none → PlacesAt H' t (behind rs ps s) → Q (.ref t) H'
theorem inV_one {s : Nat} : ∀ {l : List Nat}, inV (oneV s) (l.map oneV) = decide (s ∈ l)
  | [] => rfl
  | c :: l => by
    have ih := inV_one (s := s) (l := l)
    unfold inV at ih ⊢
    rw [List.map_cons, List.any_cons, ih]
    have e : eqV (oneV c) (oneV s) = decide (s = c) := by
      show ((oneS c) == (oneS s)) = _
      rw [Bool.beq_eq_decide_eq]
      refine decide_eq_decide.mpr ⟨fun h => ?_, fun h => by rw [h]⟩
      injection h with h
      injection h with h
      injection h with h
      exact h.symm
    have e' : eqV (oneV s) (oneV c) = decide (s = c) := by
      show ((oneS s) == (oneS c)) = _
      rw [Bool.beq_eq_decide_eq]
      refine decide_eq_decide.mpr ⟨fun h => ?_, fun h => by rw [h]⟩
      injection h with h
      injection h with h
      injection h with h
    by_cases h : s = c
    · subst h; simp [e, e']
    · simp [h, e, e']
theorem flat_ones (l : List Nat) : (l.map oneV).all flatV = true := by
  rw [List.all_eq_true]
  intro x hx
  obtain ⟨c, _, rfl⟩ := List.mem_map.mp hx
  rfl
theorem hi_ne {o : Option Nat} {c : Nat} : scal (.int (c : Nat)) (hiV o) = true ∧ (!decide (V.int (c : Nat) = hiV o)) = decide (o ≠ some c) := by
  cases o with
  | none => exact ⟨rfl, rfl⟩
  | some n =>
    refine ⟨rfl, ?_⟩
    by_cases h : n = c
    · subst h
      simp [hiV]
    · have h2 : ¬ ((c : Int) = (n : Int)) := by omega
      simp [hiV, h, h2]
/-- pairs with their addresses, as a set of tuples is asked for -/
def kz (cs : List Addr) (ps : List Pl) : List (Addr × List Int) := List.zipWith (fun c p => (c, [((p.1 : Nat) : Int), ((p.2 : Nat) : Int)])) cs ps
theorem kz_refs {H : Hp} : ∀ {cs : List Addr} {ps : List Pl}, PairsAt H cs ps → (kz cs ps).map (fun q => V.ref q.1) = cs.map V.ref
  | _, _, .nil => rfl
  | _, _, .cons r t => by
    unfold kz
    rw [List.zipWith_cons_cons, List.map_cons, List.map_cons]
    congr 1
    exact kz_refs t
theorem kz_len {H : Hp} {cs : List Addr} {ps : List Pl} (h : PairsAt H cs ps) : (kz cs ps).length = ps.length := by
  have := paired_len h
  unfold kz
  rw [List.length_zipWith]
  omega
theorem mem_kz {H : Hp} : ∀ {cs : List Addr} {ps : List Pl}, PairsAt H cs ps → ∀ q ∈ kz cs ps, ∃ p ∈ ps, q.2 = [((p.1 : Nat) : Int), ((p.2 : Nat) : Int)] ∧ H q.1 = some (pairO p)
  | _, _, .nil, q, hq => by cases hq
  | c :: cs, p :: ps, .cons r t, q, hq => by
    unfold kz at hq
    rw [List.zipWith_cons_cons] at hq
    rcases List.mem_cons.mp hq with rfl | hq
    · exact ⟨p, List.mem_cons_self, rfl, r⟩
    · obtain ⟨p', h1, h2⟩ := mem_kz t q hq
      exact ⟨p', List.mem_cons_of_mem _ h1, h2⟩
theorem kz_mem {H : Hp} : ∀ {cs : List Addr} {ps : List Pl}, PairsAt H cs ps → ∀ p ∈ ps, ∃ q ∈ kz cs ps, q.2 = [((p.1 : Nat) : Int), ((p.2 : Nat) : Int)]
  | _, _, .nil, q, hq => by cases hq
  | c :: cs, p :: ps, .cons r t, p', hq => by
    unfold kz
    rw [List.zipWith_cons_cons]
    rcases List.mem_cons.mp hq with rfl | hq
    · exact ⟨_, List.mem_cons_self, rfl⟩
    · obtain ⟨q, h1, h2⟩ := kz_mem t p' hq
      exact ⟨q, List.mem_cons_of_mem _ h1, h2⟩
/-- the pair of a list of two numbers -/
def unp (l : List Int) : Pl := match l with
  | [a, b] => (a.toNat, b.toNat)
  | _ => (0, 0)
theorem unp_pair (p : Pl) : unp [((p.1 : Nat) : Int), ((p.2 : Nat) : Int)] = p := by
  obtain ⟨i, c⟩ := p
  show (((i : Nat) : Int).toNat, ((c : Nat) : Int).toNat) = (i, c)
  rw [Int.toNat_natCast, Int.toNat_natCast]
theorem codes_asc : ∀ {L : List (Addr × List Int)}, (∀ q ∈ L, ∃ p : Pl, p ∈ grid ∧ q.2 = [((p.1 : Nat) : Int), ((p.2 : Nat) : Int)]) → (L.map (·.2)).Nodup → L.Pairwise (fun q r => TS.code 64 q.2 ≤ TS.code 64 r.2) → Asc (L.map fun q => unp q.2)
  | [], _, _, _ => List.Pairwise.nil
  | q :: L, h, n, w => by
    obtain ⟨n1, n2⟩ := List.nodup_cons.mp n
    obtain ⟨w1, w2⟩ := List.pairwise_cons.mp w
    refine List.pairwise_cons.mpr ⟨fun x hx => ?_, codes_asc (fun r hr => h r (List.mem_cons_of_mem _ hr)) n2 w2⟩
    obtain ⟨r, hr, rfl⟩ := List.mem_map.mp hx
    obtain ⟨p, gp, ep⟩ := h q List.mem_cons_self
    obtain ⟨p', gp', ep'⟩ := h r (List.mem_cons_of_mem _ hr)
    have z := w1 r hr
    have ne : q.2 ≠ r.2 := fun e => n1 (List.mem_map.mpr ⟨r, hr, e.symm⟩)
    show kd (unp q.2) < kd (unp r.2)
    rw [ep, ep', unp_pair, unp_pair]
    rw [ep, ep', code_pair, code_pair] at z
    have ne2 : p ≠ p' := fun e => ne (by rw [ep, ep', e])
    obtain ⟨b1, b2⟩ := mem_grid.mp gp
    obtain ⟨b3, b4⟩ := mem_grid.mp gp'
    have : kd p ≤ kd p' := by unfold kd; omega
    have : kd p ≠ kd p' := fun e => ne2 (by
      unfold kd at e
      have h1 : p.1 = p'.1 := by omega
      have h2 : p.2 = p'.2 := by omega
      exact Prod.ext h1 h2)
    omega
section
variable {P : Program} {w : World} {K : PySem.W.Frag} {mg : Str → Option Value} {base : Heap} {f fC fA : Addr} {fd fdC fdA : FuncData}
theorem ok_behind {k : Nat} (F : FnP K "places_behind" iBehind f fd) (mlen : mg "len" = none) (mtuple : mg "tuple" = none) (msorted : mg "sorted" = none) (mset : mg "set" = none)
    (FC : FnOk P w K mg base CX0 (k + 1) fC fdC ["run", "count"] (spCount K)) (gC : mg "count_behind" = some (.ref fC)) (kC : PySem.W.keepIn K (.ref fC) = true) (bC : Binds K fdC ["run", "count"] [])
    (FA : FnOk P w K mg base CX0 (k + 1) fA fdA ["runs", "run", "count"] (spAhead K)) (gA : mg "places_ahead" = some (.ref fA)) (kA : PySem.W.keepIn K (.ref fA) = true) (bA : Binds K fdA ["runs", "run", "count"] []) :
    FnOk P w K mg base CX0 (k + 2) f fd ["runs", "places", "sign"] (spBehind K) := by
  refine F.ok scBehind (fun vs H Q E h => ?_) (fun cdv A outer s H vs Q E hr h => ?_)
  · obtain ⟨a, b, rs, ps, s, rfl, _⟩ := h
    rfl
  · obtain ⟨a, b, rs, ps, sg, rfl, hR, g, hPl, sub, okp, q⟩ := h
    refine ⟨_, PSs.nox (C8.pss_cut (ps_set (i := 3) scBehind.nd rfl (.inl rfl) (pe_lst pa_nil))
      (C8.pss_cut (ps_for PassesOwn.never rfl (pi_tup (pv 1)) (pg_tup rfl (pgs_cons (pg_name (i := 4) scBehind.nd rfl (.inl rfl)) (pgs_cons (pg_name (i := 5) scBehind.nd rfl (.inl rfl)) pgs_nil)))
        (pss_one (ps_if (PW.pt (pw_and (pt_cmpR op_lt (pv 4) (pe_callB call_len_seq (by rfl) mlen PySem.boot_len (pa_cons (pv 0) pa_nil)) (nomark _))
            (pw_and (pt_cmpR op_in_seq (pv 2) (pe_ix ix_tup (pe_ix ix_tup (pv 0) (pv 4) (fun _ _ => rfl)) pe_int (fun _ _ => rfl)) rfl)
              (pw_and1 (pt_cmpR op_ne (pv 5) (pe_ix ix_tup (pe_ix ix_tup (pv 0) (pv 4) (fun _ _ => rfl)) pe_int (fun _ _ => rfl)) (nomark _))))))
          (pss_one (ps_expr (pe_bm PySem.F.plainAttrs_list PySem.F.slot_list_extend PySem.F.type_list_extend mt_extend (pv 3) (pa_cons (pe_call FA hr (by rfl) gA kA bA .nil pass0 (pa_cons (pv 0) (pa_cons (pv 4) (pa_cons (pe_call FC hr (by rfl) gC kC bC .nil pass0 (pa_cons (pe_ix ix_tup (pv 0) (pv 4) (fun _ _ => rfl)) (pa_cons (pv 5) pa_nil))) pa_nil)))) pa_nil))))
          pss_nil)))
      (pss_one (ps_ret (pe_callTy call_tuple_of (by rfl) mtuple (by decide +kernel) (pa_cons (pe_callB (cr_sortedT rfl) (by rfl) msorted (by decide +kernel) (pa_cons (pe_callTy (cr_setOfT rfl (hr.units)) (by rfl) mset (by decide +kernel) (pa_cons (pv 3) pa_nil)) pa_nil)) pa_nil)))))), ?_⟩
    obtain ⟨rvs, hT, hP⟩ := hR
    obtain ⟨cs, eb, hcs⟩ := hPl
    have vl := paired_len hP
    refine ⟨fun σ' H' => ∃ l, σ' = [some (.ref a), some (.ref b), some (oneV sg), some (.ref l), none, none] ∧ Same H H' ∧ H l = none ∧ H' l = some (.lst []), ?_, ?_⟩
    · exact ⟨Nat.zero_le _, fun l nl => ⟨l, rfl, same_upd nl, nl, upd_same⟩⟩
    rintro σ1 H1 ⟨l, rfl, s1, nl, e1⟩
    refine ⟨fun σ' H' => ∃ x4 x5 ds, σ' = [some (.ref a), some (.ref b), some (oneV sg), some (.ref l), x4, x5] ∧ Same H H' ∧ H' l = some (.lst (ds.map V.ref)) ∧ PairsAt H' ds (behindL rs ps sg), ?_, ?_⟩
    · refine ⟨_, rfl, b, rfl, ⟨_, .of (s1 _ _ eb)⟩, for_it (walk_tup (xs := cs.map V.ref)) (fun m σ' H' => ∃ x4 x5 ds, σ' = [some (.ref a), some (.ref b), some (oneV sg), some (.ref l), x4, x5] ∧ Same H H' ∧ H' l = some (.lst (ds.map V.ref)) ∧ PairsAt H' ds (behindL rs (ps.take m) sg))
        ⟨none, none, [], rfl, s1, e1, .nil⟩ (fun m σ' H' _ hP => ?_) (fun m x σ' H' H'' hm hP2 hY => ?_) (fun σ' H' hP2 => ?_)⟩
      · obtain ⟨_, _, _, _, s2, _⟩ := hP
        exact .of (s2 _ _ eb)
      · obtain ⟨x4, x5, ds, rfl, s2, e2, p2⟩ := hP2
        obtain ⟨eH, hx⟩ := hY
        subst H''
        have hm2 : m < cs.length := by rw [List.length_map] at hm; exact hm
        obtain ⟨p, hp, hc⟩ := paired_at' hcs (List.getElem?_eq_getElem hm2)
        rw [List.getElem?_map, List.getElem?_eq_getElem hm2] at hx
        cases hx
        generalize cs[m] = c at hc
        have tk : behindL rs (ps.take (m + 1)) sg = behindL rs (ps.take m) sg ++ stepB rs sg p := by
          unfold behindL
          rw [List.take_succ, hp, List.flatMap_append]
          simp
        have okp1 := okp p (List.mem_of_getElem? hp)
        obtain ⟨i, n⟩ := p
        refine ⟨c, _, rfl, .of (s2 _ _ hc), rfl, _, _, rfl, _, _, rfl, rfl, ?_⟩
        have skip : stepB rs sg (i, n) = [] → ∃ x4 x5 ds, [some (V.ref a), some (V.ref b), some (oneV sg), some (V.ref l), some (V.int (i : Nat)), some (V.int (n : Nat))] = [some (.ref a), some (.ref b), some (oneV sg), some (.ref l), x4, x5] ∧ Same H H' ∧ H' l = some (.lst (ds.map V.ref)) ∧ PairsAt H' ds (behindL rs (ps.take (m + 1)) sg) := fun e => by
          refine ⟨_, _, ds, rfl, s2, e2, ?_⟩
          rw [tk, e, List.append_nil]
          exact p2
        refine ⟨_, rfl, _, rfl, a, rvs, rfl, .inr (same_tup s2 hT), _, _, rfl, rfl, _, rfl, ite2 (fun hlt => ?_) (fun hge => ?_)⟩
        · have hi : i < rs.length := by
            have z : (i : Int) < (rvs.length : Int) := of_decide_eq_true hlt
            omega
          obtain ⟨v, hv, hr⟩ := paired_at hP (List.getElem?_eq_getElem hi)
          have er : rs[i]? = some rs[i] := List.getElem?_eq_getElem hi
          generalize rs[i] = r at hr er
          have hr0 := hr
          obtain ⟨ar, sa, rfl, hrT, hsT⟩ := hr
          have hrT2 := same_tup s2 hrT
          have step : stepB rs sg (i, n) = if sg ∈ r.signs ∧ r.high ≠ some n then ahead rs i (countB r n) else [] := by
            unfold stepB
            rw [er]
          refine ⟨_, rfl, _, rfl, _, rfl, a, rvs, _, _, rfl, rfl, same_tup s2 hT, atI_nat hv, ar, _, _, _, rfl, rfl, hrT2, rfl, sa, _, rfl, .inr (same_tup s2 hsT), rfl, flat_ones _, ?_⟩
          refine ⟨_, rfl, ?_⟩
          rw [show (if false = true then !inV (oneV sg) (r.signs.map oneV) else inV (oneV sg) (r.signs.map oneV)) = inV (oneV sg) (r.signs.map oneV) from rfl, inV_one]
          refine ite2 (fun hin => ?_) (fun hin => ?_)
          · have hin : sg ∈ r.signs := of_decide_eq_true hin
            refine ⟨_, rfl, _, rfl, _, rfl, a, rvs, _, _, rfl, rfl, same_tup s2 hT, atI_nat hv, ar, _, _, _, rfl, rfl, hrT2, rfl, (hi_ne (o := r.high) (c := n)).1, _, rfl, ?_⟩
            rw [(hi_ne (o := r.high) (c := n)).2]
            refine ite2 (fun hne => ?_) (fun hne => ?_)
            · have hne : r.high ≠ some n := of_decide_eq_true hne
              rw [if_pos ⟨hin, hne⟩] at step
              refine ⟨_, rfl, .inl ⟨rfl, _, .inl (.inl e2)⟩, _, rfl, _, rfl, _, rfl, _, rfl, a, rvs, _, _, rfl, rfl, same_tup s2 hT, atI_nat hv, _, rfl, _, r, n, rfl, hr0.same s2, a, rs, i, countB r n, rfl, ⟨rvs, same_tup s2 hT, pairedI hP fun _ _ z => z.same s2⟩, g.len, by have := g.len; omega, fun H3 l3 es s3 n3 e3 p3 => ?_⟩
              have few := behindL_few (s := sg) g.len sub
              have few2 : (behindL rs ps sg).length = (behindL rs (ps.take (m + 1)) sg).length + (behindL rs (ps.drop (m + 1)) sg).length := by
                conv => lhs; rw [← List.take_append_drop (m + 1) ps]
                unfold behindL
                rw [List.flatMap_append, List.length_append]
              rw [tk, List.length_append, step] at few2
              have d1 := paired_len p2
              have d2 := paired_len p3
              refine ⟨l, l3, _, _, rfl, rfl, s3 _ _ e2, e3, by rw [List.length_map, List.length_map, sizeLine_eq]; omega, ?_⟩
              refine ⟨_, _, ds ++ es, rfl, fun y o z => ?_, by rw [upd_same, List.map_append], ?_⟩
              · have ny : y ≠ l := fun q => by rw [q, nl] at z; cases z
                rw [upd_ne ny]
                exact s3 _ _ (s2 _ _ z)
              · rw [tk, step]
                refine paired_app (pairedI p2 fun x y z => ?_) (pairedI p3 fun x y z => ?_)
                · rw [upd_ne (fun q => by rw [q, e2] at z; cases z)]
                  exact s3 _ _ z
                · have z2 := s3 _ _ e2
                  rw [upd_ne (fun q => by rw [q, z2] at z; cases z)]
                  exact z
            · have hne : ¬ r.high ≠ some n := fun q => hne (decide_eq_true q)
              rw [if_neg (fun q => hne q.2)] at step
              exact skip step
          · have hin : ¬ sg ∈ r.signs := fun q => hin (decide_eq_true q)
            rw [if_neg (fun q => hin q.1)] at step
            exact skip step
        · have hi : ¬ i < rs.length := fun q => hge (decide_eq_true (by show (i : Int) < (rvs.length : Int); omega))
          exact skip (by unfold stepB; rw [List.getElem?_eq_none (by show rs.length ≤ i; omega)])
      · obtain ⟨x4, x5, ds, rfl, s2, e2, p2⟩ := hP2
        refine ⟨x4, x5, ds, rfl, s2, e2, ?_⟩
        rw [List.length_map, paired_len hcs, List.take_length] at p2
        exact p2
    · rintro σ2 H2 ⟨x4, x5, ds, rfl, s2, e2, p2⟩
      have few := behindL_few (s := sg) g.len sub
      have okl := behindL_ok (s := sg) okp
      have ingrid : ∀ p ∈ behindL rs ps sg, p ∈ grid := fun p hp => (okl p hp).grid g
      have kl := kz_len p2
      refine ⟨_, rfl, l, kz ds (behindL rs ps sg), rfl, .of (by rw [kz_refs p2]; exact e2), fun p hp => ?_, by omega, fun S L nS sub2 all => ?_⟩
      · obtain ⟨pl, _, h1, h2⟩ := mem_kz p2 p hp
        exact .of (by rw [h1]; exact h2)
      have sS : Same H2 (upd H2 S (SetTO P w S L)) := same_upd nS
      have at' : ∀ p ∈ L, ∃ pl ∈ behindL rs ps sg, p.2 = [((pl.1 : Nat) : Int), ((pl.2 : Nat) : Int)] ∧ H2 p.1 = some (pairO pl) := fun p hp => mem_kz p2 p (sub2 p hp)
      refine ⟨S, L, 2, 64, rfl, upd_same, fun p hp => ?_, by decide, fun p hp => ?_, fun L' t pm nd _ asc nt => ?_⟩
      · obtain ⟨pl, _, h1, h2⟩ := at' p hp
        exact .of (by rw [h1]; exact sS _ _ h2)
      · obtain ⟨pl, hpl, h1, h2⟩ := at' p hp
        obtain ⟨b1, b2⟩ := mem_grid.mp (ingrid pl hpl)
        refine ⟨by rw [h1]; rfl, ?_⟩
        rw [h1]
        intro x hx
        rcases List.mem_cons.mp hx with rfl | hx
        · omega
        · rcases List.mem_cons.mp hx with rfl | hx
          · omega
          · cases hx
      have at2 : ∀ p ∈ L', ∃ pl ∈ behindL rs ps sg, p.2 = [((pl.1 : Nat) : Int), ((pl.2 : Nat) : Int)] ∧ H2 p.1 = some (pairO pl) := fun p hp => at' p (pm.mem_iff.mp hp)
      have st : Same H2 (upd (upd H2 S (SetTO P w S L)) t (.lst (L'.map fun q => V.ref q.1))) := sS.trans (same_upd nt)
      refine ⟨t, _, rfl, .inl ⟨.of upd_same, fun u nu => q _ u ((s2.trans st).trans (same_upd nu)) (none_back (s2.trans st) nu) ⟨L'.map (·.1), ?_, ?_⟩⟩⟩
      · rw [upd_same, List.map_map]; rfl
      · have e : behind rs ps sg = L'.map fun q => unp q.2 := by
          refine (asc_canon (codes_asc (fun p hp => ?_) nd asc) ingrid fun x => ?_).symm
          · obtain ⟨pl, h0, h1, _⟩ := at2 p hp
            exact ⟨pl, ingrid pl h0, h1⟩
          · constructor
            · intro hx
              obtain ⟨p, hp, rfl⟩ := List.mem_map.mp hx
              obtain ⟨pl, h0, h1, _⟩ := at2 p hp
              rw [h1, unp_pair]
              exact h0
            · intro hx
              obtain ⟨p, hp, h1⟩ := kz_mem p2 x hx
              have z := all p hp
              obtain ⟨p', hp', e'⟩ := List.mem_map.mp z
              refine List.mem_map.mpr ⟨p', pm.mem_iff.mpr hp', ?_⟩
              rw [e', h1, unp_pair]
        rw [e]
        have fin : ∀ (M : List (Addr × List Int)), (∀ p ∈ M, ∃ pl ∈ behindL rs ps sg, p.2 = [((pl.1 : Nat) : Int), ((pl.2 : Nat) : Int)] ∧ H2 p.1 = some (pairO pl)) → PairsAt (upd (upd (upd H2 S (SetTO P w S L)) t (.lst (L'.map fun q => V.ref q.1))) u (.tup (L'.map fun q => V.ref q.1))) (M.map (·.1)) (M.map fun q => unp q.2) := by
          intro M hM
          induction M with
          | nil => exact .nil
          | cons p M ih =>
            obtain ⟨pl, _, h1, h2⟩ := hM p List.mem_cons_self
            refine .cons ?_ (ih fun y hy => hM y (List.mem_cons_of_mem _ hy))
            show _ = some (pairO (unp p.2))
            rw [h1, unp_pair]
            exact same_upd nu _ _ (st _ _ h2)
        exact fin L' at2
end
end K0
end
/-! ### Nest -/
section
set_option Elab.async false
set_option linter.all false
set_option maxRecDepth 100000
set_option maxHeartbeats 4000000
/-! Keys that are tuples of tuples of keys: what a dict's machinery asks of them. -/
namespace Nest
open PySem
section
variable {prog : Program} {w : World} {K : Type} [DecidableEq K] {knd : KeyKind prog w K}
/-- items that are tuples of keys, one for each row -/
inductive RowsAt (knd : KeyKind prog w K) (h : Heap) : List (List K) → List Value → Prop
  | nil : RowsAt knd h [] []
  | cons {ks : List K} {b : Addr} {kss : List (List K)} {vs : List Value} : IsTupleKey knd h ks b → RowsAt knd h kss vs → RowsAt knd h (ks :: kss) (.ref b :: vs)
/-- a tuple of such items stands at a -/
def IsNest (knd : KeyKind prog w K) (h : Heap) (kss : List (List K)) (a : Addr) : Prop := ∃ o items n, h.get? a = some o ∧ o.cls = .type "tuple" ∧ o.data = .seq items n ∧ RowsAt knd h kss items.toList
theorem RowsAt.same {h : Heap} {x y : List (List K)} {vs : List Value} (hx : RowsAt knd h x vs) : RowsAt knd h y vs → x = y := by
  induction hx generalizing y with
  | nil => intro hy; cases hy; rfl
  | cons h1 _ ih =>
    intro hy
    cases hy with
    | cons h2 t => rw [h1.inj h2, ih t]
theorem RowsAt.moved {h h' : Heap} {d : Addr} {o : Obj} {es ep} (ho : h.get? d = some o) (hd : o.data = .dict es ep) (hs : Heap.SameBut d h h') {x : List (List K)} {vs : List Value} (hx : RowsAt knd h x vs) : RowsAt knd h' x vs := by
  induction hx with
  | nil => exact .nil
  | cons h1 _ ih => exact .cons (h1.keeps ho hd hs) ih
theorem IsNest.type {s : Shared} {kss : List (List K)} {a : Addr} (x : IsNest knd s.heap kss a) : s.TypeIs (.ref a) "tuple" := x.elim fun o z => z.elim fun _ z => z.elim fun _ z => ⟨o, z.1, z.2.1⟩
theorem IsNest.one {h : Heap} {a : Addr} {x y : List (List K)} (hx : IsNest knd h x a) (hy : IsNest knd h y a) : x = y := by
  obtain ⟨o, i1, n1, e1, _, d1, r1⟩ := hx
  obtain ⟨o2, i2, n2, e2, _, d2, r2⟩ := hy
  rw [e1] at e2
  cases e2
  rw [d1] at d2
  cases d2
  exact r1.same r2
theorem IsNest.moved {h h' : Heap} {kss : List (List K)} {a d : Addr} {o : Obj} {es ep} (x : IsNest knd h kss a) (ho : h.get? d = some o) (hd : o.data = .dict es ep) (hs : Heap.SameBut d h h') : IsNest knd h' kss a := by
  obtain ⟨u, its, n, e, c, dd, r⟩ := x
  have ne : a ≠ d := fun z => by
    rw [z, ho] at e
    cases e
    rw [hd] at dd
    cases dd
  exact ⟨u, its, n, (hs.2 a ne).trans e, c, dd, r.moved ho hd hs⟩
def nestHash (knd : KeyKind prog w K) (kss : List (List K)) : Int := reduceHash (Builtin.Tuple.tupleHashOf (kss.map (tupleKeyHash knd)))
def nestDraws (kss : List (List K)) : Nat := (kss.map fun ks => ks.length + 1).sum + 1
variable {A : Around} {E : Value → Shared → Prop} {s : Shared}
theorem nest_hash {kss : List (List K)} {a : Addr} {Q : Int → Shared → Prop} (room : A.units + 8 < cLine) (x : IsNest knd s.heap kss a) (q : Q (nestHash knd kss) { s with toks := s.toks + nestDraws kss }) : wpAny (model prog w) A (pyHash (.ref a)) Q E s := by
  have ty := x.type
  obtain ⟨o, items, n, ho, _, hd, hi⟩ := x
  unfold pyHash
  first | unfold pyHashByItsType | skip
  first | refine wpAny_bind (wpAny_cRoomFor_or (.inr (by omega)) ?_) | skip
  refine wpAny_bind (wpAny_specialOf ty F.slot_tuple_hash.lookup ?_)
  rw [if_neg (show ¬ (some (Value.builtin "tuple.__hash__") == some Value.none) = true by rw [beq_builtin_none]; exact Bool.false_ne_true)]
  refine wpAny_bind (wpAny_specialOf ty F.slot_tuple_hash.lookup ?_)
  show wpAny _ _ (callSpecialIfBoundUnlessNone? (.ref a) "__hash__" _ >>= _) Q E s
  refine wpAny_bind (wpAny_callSpecialIfBoundUnlessNone?_slot ty F.slot_tuple_hash (wpAny_call_entry F.slot_tuple_hash ty F.entry_tuple_hash ?_ (F.args_tuple_hash_1 _)))
  show wpAny _ _ (Builtin.Tuple.tupleItemsOf (.ref a) >>= _) _ _ s
  refine wpAny_bind (wpAny_tupleItemsOf ho hd ?_)
  refine wpAny_bind ?_
  rw [← Array.forIn_toList]
  refine wpAny_forIn_list _ (fun rest (b : Array Int) s' => ∃ done left, kss = done ++ left ∧ RowsAt knd s.heap left rest ∧ b.toList = done.map (tupleKeyHash knd) ∧ s' = { s with toks := s.toks + (done.map fun ks => ks.length + 1).sum }) _ ?_ ?_ _ _ ⟨[], kss, rfl, hi, rfl, rfl⟩
  · rintro v rest b s' ⟨done, left, rfl, hl, hb, rfl⟩
    cases hl with
    | @cons ks c kss' _ h1 hl' =>
      refine wpAny_bind (wpAny_pyHash_tuple (knd := knd) (by show A.units + _ < _; omega) h1 ?_)
      have fin : ∃ d2 l2, done ++ ks :: kss' = d2 ++ l2 ∧ RowsAt knd s.heap l2 rest ∧ (b.push (tupleKeyHash knd ks)).toList = d2.map (tupleKeyHash knd) ∧ ({ s with toks := s.toks + (done.map fun ks => ks.length + 1).sum + (ks.length + 1) } : Shared) = { s with toks := s.toks + (d2.map fun ks => ks.length + 1).sum } :=
        ⟨done ++ [ks], kss', by simp, hl', by simp [hb], by simp [Nat.add_assoc]⟩
      first
        | exact wpAny_pure fin
        | exact wpAny_bind (wpAny_pure (wpAny_pure fin))
  · rintro b s' ⟨done, left, rfl, hl, hb, rfl⟩
    cases hl
    rw [List.append_nil] at q
    show wpAny _ _ (retInt (Builtin.Tuple.tupleHashOf b.toList)) _ _ _
    rw [hb]
    refine wpAny_ret_mkInt ?_
    show wpAny _ _ (if (decide (-(2 : Int) ^ 63 ≤ Builtin.Tuple.tupleHashOf (done.map (tupleKeyHash knd))) && decide (Builtin.Tuple.tupleHashOf (done.map (tupleKeyHash knd)) < 2 ^ 63)) = true then _ else _) Q E _
    unfold nestHash reduceHash nestDraws at q
    by_cases c : (decide (-(2 : Int) ^ 63 ≤ Builtin.Tuple.tupleHashOf (done.map (tupleKeyHash knd))) && decide (Builtin.Tuple.tupleHashOf (done.map (tupleKeyHash knd)) < 2 ^ 63)) = true
    · rw [if_pos c] at q ⊢
      exact wpAny_pure (by simpa [Nat.add_assoc] using q)
    · rw [if_neg c] at q ⊢
      exact wpAny_bind (wpAny_rule (wpAny_pure (by simpa [Nat.add_assoc] using q)))
theorem RowsAt.len {h : Heap} {x : List (List K)} {vs : List Value} (hx : RowsAt knd h x vs) : x.length = vs.length := by
  induction hx with
  | nil => rfl
  | cons _ _ ih => rw [List.length_cons, List.length_cons, ih]
theorem nest_eq_tree {x y : List (List K)} {a b : Addr} {P : Fin → Shared → Prop} (room : A.units + 4 < cLine) (hx : IsNest knd s.heap x a) (hy : IsNest knd s.heap y b) (q : P (.done (.ret (.bool (decide (x = y))))) s) :
    wpAny (model prog w) A (Builtin.«tuple.__eq__» ⟨[.ref a, .ref b], []⟩) P E s := by
  have tb := hy.type
  obtain ⟨o1, xs, n1, e1, _, d1, r1⟩ := hx
  obtain ⟨o2, ys, n2, e2, _, d2, r2⟩ := hy
  show wpAny _ _ (isInstance (.ref b) (.type "tuple") >>= _) _ _ s
  refine wpAny_bind (wpAny_isInstance tb isSubtype_tuple_tuple ?_)
  simp only [Bool.not_true, Bool.false_eq_true, if_false]
  refine wpAny_bind (wpAny_tupleItemsOf e1 d1 (wpAny_bind (wpAny_tupleItemsOf e2 d2 (wpAny_bind ?_))))
  refine wpAny_forIn_list _ (fun rest r s' => r.1 = none ∧ s' = s ∧ ∃ x' y' xs' ys', rest = List.zip xs' ys' ∧ RowsAt knd s.heap x' xs' ∧ RowsAt knd s.heap y' ys' ∧ decide (x' = y') = decide (x = y) ∧ (xs'.length == ys'.length) = (xs.size == ys.size)) _ ?_ ?_ _ _ ⟨rfl, rfl, x, y, xs.toList, ys.toList, rfl, r1, r2, rfl, by simp⟩
  · rintro ⟨u, v⟩ rest r s' ⟨hr, rfl, x', y', xs', ys', hz, hx', hy', hdec, hlen⟩
    cases hx' with
    | nil => simp at hz
    | @cons k1 b1 x2 xs2 h1 hx2 =>
      cases hy' with
      | nil => simp at hz
      | @cons k2 b2 y2 ys2 h2 hy2 =>
        rw [List.zip_cons_cons] at hz
        injection hz with hz1 hz2
        injection hz1 with hu hv
        subst hu hv hz2
        refine wpAny_bind (wpAny_eqBool_tuple (knd := knd) (by omega) h1 h2 ?_)
        by_cases hk : k1 = k2
        · subst hk
          rw [decide_eq_true rfl]
          simp only [Bool.not_true, Bool.false_eq_true, if_false]
          refine wpAny_pure ⟨rfl, rfl, x2, y2, xs2, ys2, rfl, hx2, hy2, ?_, by simpa using hlen⟩
          rw [← hdec]
          by_cases e : x2 = y2 <;> simp [e]
        · rw [decide_eq_false hk]
          simp only [Bool.not_false, if_true]
          have f : decide (x = y) = false := by rw [← hdec]; simp [hk]
          rw [f] at q
          exact wpAny_bind (wpAny_pure (wpAny_pure (wpAny_pure q)))
  · rintro ⟨r, r'⟩ s' ⟨hr, rfl, x', y', xs', ys', hz, hx', hy', hdec, hlen⟩
    simp only at hr
    subst hr
    refine wpAny_pure ?_
    have fin : (xs.size == ys.size) = decide (x = y) := by
      rw [← hdec, ← hlen]
      cases hx' with
      | nil => cases hy' <;> simp
      | cons _ _ =>
        cases hy' with
        | nil => simp
        | cons _ _ => simp at hz
    show P (.done (.ret (.bool (xs.size == ys.size)))) s'
    rw [fin]
    exact q
theorem nest_eq {x y : List (List K)} {a b : Addr} {Q : Bool → Shared → Prop} (room : A.units + 8 < cLine) (hx : IsNest knd s.heap x a) (hy : IsNest knd s.heap y b) (q : Q (decide (x = y)) s) : wpAny (model prog w) A (eqBool (.ref a) (.ref b)) Q E s := by
  unfold eqBool
  try with_reducible refine wpAny_holding ?_
  show wpAny _ _ (if (Value.ref a == Value.ref b) = true then _ else _) Q E s
  by_cases c : (Value.ref a == Value.ref b) = true
  · rw [if_pos c]
    have e : a = b := by
      have z := eq_of_beq c
      injection z
    subst e
    obtain rfl := hx.one hy
    exact wpAny_bind (wpAny_rule (wpAny_pure (by simpa using q)))
  · rw [if_neg c]
    exact wpAny_bind (wpAny_richCompare_same_room (op := .Eq) hx.type hy.type F.slot_tuple_eq (wpAny_call_entry F.slot_tuple_eq hx.type F.entry_tuple_eq (nest_eq_tree (by show A.units + _ + _ < _; omega) hx hy ⟨_, rfl, (fun e => nomatch e), wpAny_truthy_bool q⟩) (F.args_tuple_eq_2 _ _)) (by omega))
/-- its comparison runs no code of the program's, at any depth above 0 -/
theorem key_quiet {n : Nat} {ks : List K} {a : Addr} {Q : Bool → Shared → Prop} (x : IsTupleKey knd s.heap ks a) (q : Q true s) : wpAny (model prog w) A (eqIsQuiet (n + 1) (.ref a)) Q E s := by
  have ty := x.typeIs
  obtain ⟨o, items, m, ho, _, hd, hi⟩ := x
  unfold eqIsQuiet
  refine wpAny_bind (wpAny_specialOf ty F.slot_tuple_eq.lookup ?_)
  show wpAny _ _ (isInstance (.ref a) (.type "tuple") >>= _) _ _ s
  refine wpAny_bind (wpAny_isInstance ty isSubtype_tuple_tuple ?_)
  simp only [Bool.not_true, Bool.false_eq_true, if_false]
  refine wpAny_bind (wpAny_seqItems ho hd (wpAny_bind ?_))
  show wpAny _ _ (forIn items _ _) _ _ s
  rw [← Array.forIn_toList]
  refine wpAny_forIn_list _ (fun rest r s' => r.1 = none ∧ s' = s ∧ ∀ v ∈ rest, carriedByValue v = true) _ ?_ ?_ _ _ ⟨rfl, rfl, hi.byValue⟩
  · rintro v rest r s' ⟨_, rfl, all⟩
    rw [eqIsQuiet_byValue _ (all v List.mem_cons_self)]
    refine wpAny_bind (wpAny_pure ?_)
    simp only [Bool.not_true, Bool.false_eq_true, if_false]
    exact wpAny_pure ⟨rfl, rfl, fun u hu => all u (List.mem_cons_of_mem _ hu)⟩
  · rintro ⟨r, r'⟩ s' ⟨hr, rfl, _⟩
    simp only at hr
    subst hr
    exact wpAny_pure q
theorem nest_quiet {kss : List (List K)} {a : Addr} {Q : Bool → Shared → Prop} (x : IsNest knd s.heap kss a) (q : Q true s) : wpAny (model prog w) A (eqIsQuiet 8 (.ref a)) Q E s := by
  have ty := x.type
  obtain ⟨o, items, m, ho, _, hd, hi⟩ := x
  unfold eqIsQuiet
  refine wpAny_bind (wpAny_specialOf ty F.slot_tuple_eq.lookup ?_)
  show wpAny _ _ (isInstance (.ref a) (.type "tuple") >>= _) _ _ s
  refine wpAny_bind (wpAny_isInstance ty isSubtype_tuple_tuple ?_)
  simp only [Bool.not_true, Bool.false_eq_true, if_false]
  refine wpAny_bind (wpAny_seqItems ho hd (wpAny_bind ?_))
  show wpAny _ _ (forIn items _ _) _ _ s
  rw [← Array.forIn_toList]
  refine wpAny_forIn_list _ (fun rest r s' => r.1 = none ∧ s' = s ∧ ∃ left, RowsAt knd s.heap left rest) _ ?_ ?_ _ _ ⟨rfl, rfl, kss, hi⟩
  · rintro v rest r s' ⟨_, rfl, left, hl⟩
    cases hl with
    | cons h1 hl' =>
      refine wpAny_bind (key_quiet h1 ?_)
      simp only [Bool.not_true, Bool.false_eq_true, if_false]
      exact wpAny_pure ⟨rfl, rfl, _, hl'⟩
  · rintro ⟨r, r'⟩ s' ⟨hr, rfl, _⟩
    simp only at hr
    subst hr
    exact wpAny_pure q
end
/-- keys that are tuples of tuples -/
def nestKind {prog : Program} {w : World} {K : Type} [DecidableEq K] (knd : KeyKind prog w K) : HeapKind prog w (List (List K)) where
  is := IsNest knd
  hash := nestHash knd
  draws := nestDraws
  room := fun A => A.units + 8 < cLine
  inj := fun hx hy => hx.one hy
  keeps := fun x ho hd hs => x.moved ho hd hs
  pyHash := fun room x q => nest_hash room x q
  eqBool := fun room hx hy q => nest_eq room hx hy q
  quiet := fun x q => nest_quiet x q
end Nest
end
/-! ### DN -/
section
set_option Elab.async false
set_option linter.all false
set_option maxRecDepth 100000
set_option maxHeartbeats 4000000
/-! Dicts whose keys are tuples of tuples of keys, on the abstract heap. -/
namespace DN
abbrev St := L2.St
open PySem PySem.Spec PyProof.Rows L2 Nest
abbrev NK := List (List Key)
abbrev nK (P : Program) (w : World) : HeapKind P w NK := nestKind (mixKind P w)
/-- a tuple of tuples of keys, all tracked -/
def NestH (H : Hp) (b : Addr) (k : NK) : Prop := ∃ cs : List Addr, H b = some (.tup (cs.map V.ref)) ∧ Paired (fun c ks => H c = some (.tup (ks.map kV))) cs k
def NPair : List (NK × Addr × V) → List (NK × Addr × Value) → Prop := Paired fun p q => p.1 = q.1 ∧ p.2.1 = q.2.1 ∧ RelV p.2.2 q.2.2
def TabN (P : Program) (w : World) (h : Heap) (a : Addr) (kvs : List (NK × Addr × V)) : Prop := kvs.length ≤ sizeLine ∧ (a == sysModules) = false ∧ ∃ xs, NPair kvs xs ∧
  ∃ o es ep, h.get? a = some o ∧ o.ExactDict ∧ o.data = .dict es ep ∧ es.toList = xs.map (entryOfKey (nK P w)) ∧ (xs.map (·.1)).Nodup
def dN (P : Program) (w : World) (a : Addr) (kvs : List (NK × Addr × V)) : HO := .ext fun h => TabN P w h a kvs
def KeysH (H : Hp) (kvs : List (NK × Addr × V)) : Prop := ∀ p ∈ kvs, NestH H p.2.1 p.1
def valN (kvs : List (NK × Addr × V)) (k : NK) : Option V := (kvs.find? fun p => decide (p.1 = k)).map (·.2.2)
section
variable {P : Program} {w : World} {H : Hp} {h : Heap} {a b : Addr}
theorem TabN.ok {kvs : List (NK × Addr × V)} (t : TabN P w h a kvs) : ObjOk P w H h a (dN P w a kvs) := by
  refine ⟨t, ?_, fun h1 h2 q k => ?_⟩
  · obtain ⟨_, _, _, _, o, _, _, e, _⟩ := t
    exact ⟨o, e⟩
  · obtain ⟨z, y, xs, r, o, es, ep, e, c⟩ := q
    exact ⟨z, y, xs, r, o, es, ep, k _ e, c⟩
theorem tab_of {kvs : List (NK × Addr × V)} (ok : HOk P w H h) (e : H a = some (dN P w a kvs)) : TabN P w h a kvs :=
  (show ObjOk P w H h a (dN P w a kvs) from ok a _ e).1
theorem vals_refs {cs : List Addr} : ∀ {its : List Value}, Vals (cs.map V.ref) its → its = cs.map Value.ref := by
  induction cs with
  | nil => intro its r; rw [List.map_nil] at r; cases r; rfl
  | cons c cs ih =>
    intro its r
    rw [List.map_cons] at r
    cases r with
    | @cons _ v _ vs h t =>
      rw [ih t, List.map_cons]
      congr 1
theorem nest_is {k : NK} (ok : HOk P w H h) (n : NestH H b k) : IsNest (mixKind P w) h k b := by
  obtain ⟨cs, e, r⟩ := n
  obtain ⟨_, its, rv, o, h1, h2, m, h3⟩ := (show ObjOk P w H h b (.tup (cs.map V.ref)) from ok b _ e)
  refine ⟨o, its.toArray, m, h1, h2, h3, ?_⟩
  rw [vals_refs rv]
  have all : ∀ {cs : List Addr} {k : NK}, Paired (fun c ks => H c = some (.tup (ks.map kV))) cs k → RowsAt (mixKind P w) h k (cs.map Value.ref) := by
    intro cs k r
    induction r with
    | nil => exact .nil
    | cons q t ih => exact .cons (key_of ok q) ih
  simpa using all r
theorem nk_len : ∀ {kvs : List (NK × Addr × V)} {xs : List (NK × Addr × Value)}, NPair kvs xs → kvs.length = xs.length
  | _, _, .nil => rfl
  | _, _, .cons r t => by rw [List.length_cons, List.length_cons, nk_len t]
theorem nk_at {k : NK} : ∀ {kvs : List (NK × Addr × V)} {xs : List (NK × Addr × Value)}, NPair kvs xs → RelO (valN kvs k) ((atKey xs k).map (·.2))
  | _, _, .nil => True.intro
  | p :: _, q :: qs, .cons r t => by
    have ih := nk_at (k := k) t
    obtain ⟨h1, _, h2⟩ := r
    unfold valN atKey at *
    rw [List.find?_cons, List.find?_cons]
    by_cases e : p.1 = k
    · rw [decide_eq_true e, decide_eq_true (h1.symm.trans e)]
      exact h2
    · rw [decide_eq_false e, decide_eq_false (fun z => e (h1.trans z))]
      exact ih
theorem nk_snoc {p : NK × Addr × V} {q : NK × Addr × Value} (r : p.1 = q.1 ∧ p.2.1 = q.2.1 ∧ RelV p.2.2 q.2.2) : ∀ {kvs : List (NK × Addr × V)} {xs : List (NK × Addr × Value)}, NPair kvs xs → NPair (kvs ++ [p]) (xs ++ [q])
  | _, _, .nil => .cons r .nil
  | _, _, .cons r0 t => .cons r0 (nk_snoc r t)
theorem nk_keys {H : Hp} (ok : HOk P w H h) : ∀ {kvs : List (NK × Addr × V)} {xs : List (NK × Addr × Value)}, NPair kvs xs → KeysH H kvs → ∀ x ∈ xs, (nK P w).is h x.1 x.2.1
  | _, _, .nil, _ => fun x hx => nomatch hx
  | p :: _, q :: _, .cons r t, k => fun x hx => by
    rcases List.mem_cons.mp hx with e | hx
    · subst e
      have z := nest_is ok (k p List.mem_cons_self)
      rw [r.1, r.2.1] at z
      exact z
    · exact nk_keys ok t (fun y hy => k y (List.mem_cons_of_mem _ hy)) x hx
theorem dictOf {kvs : List (NK × Addr × V)} (ok : HOk P w H h) (e : H a = some (dN P w a kvs)) (ks : KeysH H kvs) : kvs.length ≤ sizeLine ∧ (a == sysModules) = false ∧ ∃ xs, NPair kvs xs ∧ h.DictOfH (nK P w) a xs := by
  obtain ⟨z, y, xs, r, o, es, ep, h1, h2, h3, h4, h5⟩ := tab_of ok e
  exact ⟨z, y, xs, r, o, es, ep, h1, h2, h3, h4, nk_keys ok r ks, h5⟩
end
section
variable {X : Cx} {pins : List (Addr × Obj)} {σ : L2.St} {H : Hp} {s : Shared} {a b : Addr} {k : NK} {kvs : List (NK × Addr × V)} {v : V} {r : Value} {A : Around} {E : Value → Shared → Prop}
theorem n_getItem {Q : Value → Shared → Prop} (hu : A.units + 64 < cLine) (I : Inv X pins σ H s) (e : H a = some (dN X.prog X.w a kvs)) (ks : KeysH H kvs) (n : NestH H b k) (g : valN kvs k = some v) (h : ∀ w' s', Inv X pins σ H s' → RelV v w' → Q w' s') :
    wpAny (model X.prog X.w) A (getItem (.ref a) (.ref b)) Q E s := by
  obtain ⟨z, hd, xs, rel, dd⟩ := dictOf I.hok e ks
  obtain ⟨w', hw, rw'⟩ := RelO.some_of (v := v) (o := (atKey xs k).map (·.2)) (by rw [← g]; exact nk_at rel)
  obtain ⟨p, hp, hp2⟩ := Option.map_eq_some_iff.mp hw
  refine wpAny_getItem_heap (knd := nK X.prog X.w) (by show A.units + _ + 8 < _; omega) (nest_is I.hok n) dd hp ?_
  rw [hp2]
  exact h w' _ (I.tok _) rw'
theorem n_notIn {Q : Value → Shared → Prop} (hu : A.units + 64 < cLine) (I : Inv X pins σ H s) (e : H a = some (dN X.prog X.w a kvs)) (ks : KeysH H kvs) (n : NestH H b k) (h : ∀ s', Inv X pins σ H s' → Q (.bool (!(valN kvs k).isSome)) s') :
    wpAny (model X.prog X.w) A (compareOp .NotIn (.ref b) (.ref a)) Q E s := by
  obtain ⟨z, hd, xs, rel, dd⟩ := dictOf I.hok e ks
  refine wpAny_notIn_heap (knd := nK X.prog X.w) (by show A.units + _ + 8 < _; omega) (nest_is I.hok n) hd dd ?_
  have q := (nk_at (k := k) rel).isSome_eq
  rw [Option.isSome_map] at q
  rw [← q]
  exact h _ (I.tok _)
theorem n_setItem {Q : Unit → Shared → Prop} (hu : A.units + 64 < cLine) (I : Inv X pins σ H s) (e : H a = some (dN X.prog X.w a kvs)) (ks : KeysH H kvs) (n : NestH H b k) (g : valN kvs k = none) (l : kvs.length < sizeLine) (rv : RelV v r)
    (h : ∀ s', Inv X pins σ (upd H a (dN X.prog X.w a (kvs ++ [(k, b, v)]))) s' → Q () s') : wpAny (model X.prog X.w) A (setItem (.ref a) (.ref b) r) Q E s := by
  obtain ⟨z, hd, xs, rel, dd⟩ := dictOf I.hok e ks
  have hz : xs.length ≤ sizeLine := by rw [← nk_len rel]; exact z
  have hn : atKey xs k = none := by
    have q := (nk_at (k := k) rel)
    rw [g] at q
    have q2 := RelO.none_of q
    exact Option.map_eq_none_iff.mp q2
  refine wpAny_setItem_heap (knd := nK X.prog X.w) (hsz := hz) (by show A.units + _ + 8 < _; omega) (nest_is I.hok n) dd fun h' dd' hs => h _ ?_
  rw [storedH_new hn] at dd'
  obtain ⟨q, es, ep, hq, h2, h3, h4, _, h5⟩ := dd'
  exact d_write I (by rw [e]; exact True.intro) hs ⟨q, hq⟩ (TabN.ok ⟨by rw [List.length_append]; exact l, hd, _, nk_snoc ⟨rfl, rfl, rv⟩ rel, q, es, ep, hq, h2, h3, h4, h5⟩)
end
def tNGet (P : Program) (w : World) (td ty : TE) : TE := fun σ H Q => td σ H fun x H1 => ty σ H1 fun y H2 => ∃ a b k kvs v, x = .ref a ∧ y = .ref b ∧ H2 a = some (dN P w a kvs) ∧ KeysH H2 kvs ∧ NestH H2 b k ∧ valN kvs k = some v ∧ Q v H2
def tNNotIn (P : Program) (w : World) (ty td : TE) : TE := fun σ H Q => ty σ H fun y H1 => td σ H1 fun x H2 => ∃ a b k kvs, x = .ref a ∧ y = .ref b ∧ H2 a = some (dN P w a kvs) ∧ KeysH H2 kvs ∧ NestH H2 b k ∧ Q (.bl (!(valN kvs k).isSome)) H2
def sNPut (P : Program) (w : World) (td ty tv : TE) : TS := fun D σ H => tv σ H fun v H1 => td σ H1 fun x H2 => ty σ H2 fun y H3 => ∃ a b k kvs, x = .ref a ∧ y = .ref b ∧ H3 a = some (dN P w a kvs) ∧ KeysH H3 kvs ∧ NestH H3 b k ∧ valN kvs k = none ∧ kvs.length < sizeLine ∧ D.nx σ (upd H3 a (dN P w a (kvs ++ [(k, b, v)])))
def tNOne (P : Program) (w : World) (tk tv : TE) : TE := fun σ H Q => ∀ p, H p = none → tk σ (upd H p (.dK [])) fun x H1 => tv σ H1 fun y H2 => H2 p = some (.dK []) ∧ ∃ b k, x = .ref b ∧ NestH H2 b k ∧ Q (.ref p) (upd H2 p (dN P w p [(k, b, y)]))
section
variable {X : Cx} {o i e value ke ve : Expr} {pos pos' tpos : Pos} {td ty tv tk : TE}
theorem pe_nget (hu : X.A.units + 64 < cLine) (ho : PE X o td) (hi : PE X i ty) (hs : NoSl i) : PE X (.Subscript o i pos) (tNGet X.prog X.w td ty) := by
  refine ⟨fun pins s σ H Q I h => ?_⟩
  refine subD_of PySem.F.slot_dict_getitem.lookup hs (thn (ho.run pins s σ H _ I h) fun u s1 ⟨x, H1, I1, rx, q1⟩ => thn (hi.run pins s1 σ H1 _ I1 q1) fun iv s2 ⟨y, H2, I2, ry, a, b, k, kvs, v, ex, ey, ed, ks, n, g, q2⟩ => ?_)
  subst ex ey
  obtain rfl : u = Value.ref a := rx
  obtain rfl : iv = Value.ref b := ry
  obtain ⟨_, _, xs, _, dd⟩ := dictOf I2.hok ed ks
  exact ⟨dd.typeIs, n_getItem hu I2 ed ks n g fun w' s3 I3 rw' => ⟨v, H2, I3, rw', q2⟩⟩
theorem pc_nnotin (hu : X.A.units + 64 < cLine) (hi : PE X i ty) (ho : PE X o td) : PC X .NotIn i o (tNNotIn X.prog X.w ty td) := by
  refine ⟨fun pins s σ H Q I h => ?_⟩
  refine thn (hi.run pins s σ H _ I h) fun iv s1 ⟨y, H1, I1, ry, q1⟩ => thn (ho.run pins s1 σ H1 _ I1 q1) fun u s2 ⟨x, H2, I2, rx, a, b, k, kvs, ex, ey, ed, ks, n, q2⟩ => ?_
  subst ex ey
  obtain rfl : u = Value.ref a := rx
  obtain rfl : iv = Value.ref b := ry
  exact n_notIn hu I2 ed ks n fun s3 I3 => ⟨.bl (!(valN kvs k).isSome), H2, I3, rfl, q2⟩
theorem ps_nput (hu : X.A.units + 64 < cLine) (ho : PE X o td) (hi : PE X i ty) (hv : PE X value tv) (hs : swapsWith value (some (.Subscript o i pos')) pos.line X.env = pure false) :
    PS X (.Assign [.Subscript o i pos'] value pos) (sNPut X.prog X.w td ty tv) := by
  refine ⟨fun pins s σ H D I h => ?_⟩
  refine wpAny_Assign_Subscript (thn (hv.run pins s σ H _ I h) fun r s1 ⟨v, H1, I1, rv, q1⟩ => thn (ho.run pins s1 σ H1 _ I1 q1) fun u s2 ⟨x, H2, I2, rx, q2⟩ => thn (hi.run pins s2 σ H2 _ I2 q2) fun iv s3 ⟨y, H3, I3, ry, a, b, k, kvs, ex, ey, ed, ks, n, g, l, q3⟩ => ?_) hs
  subst ex ey
  obtain rfl : u = Value.ref a := rx
  obtain rfl : iv = Value.ref b := ry
  exact n_setItem hu I3 ed ks n g l rv fun s4 I4 => ⟨σ, _, I4, q3⟩
theorem pe_none1 (hu : X.A.units + 64 < cLine) (hk : PE X ke tk) (hv : PE X ve tv) : PE X (.Dict [some ke] [ve] pos) (tNOne X.prog X.w tk tv) := by
  refine ⟨fun pins s σ H Q I q => ?_⟩
  have hn := I.hok.fresh (Nat.le_refl s.heap.objs.size)
  have I1 := I.laid (a := s.heap.objs.size) (o := .dK []) (h' := s.heap.push { cls := .type "dict", data := .dict #[] }) (t' := s.toks) (fun _ _ q => Heap.get?_push_of_some _ q) (Nat.le_refl _) (dk_empty s.heap I.big)
  refine wpAny_Dict_any rfl rfl (by simp) (by show 1 ≤ 15; decide) (pairTrees_cons_walk (thn (hk.run pins _ σ _ _ I1 (q _ hn)) fun u s1 ⟨x, H1, I1', rx, q1⟩ => thn (hv.run pins s1 σ H1 _ I1' q1) fun vv s2 ⟨y, H2, I2, ry, ed, b, k, ex, n, q2⟩ => pairTrees_nil_walk ?_))
  subst ex
  obtain rfl : u = Value.ref b := rx
  obtain ⟨z, hd, vs0, r0, o, es, ep, ho, hx, hda, hko, hpr, hnd⟩ := dk_of I2.hok ed
  cases r0
  have hes : es.toList = [] := by
    cases e : es.toList with
    | nil => rfl
    | cons c l => rw [e] at hpr; cases hpr
  have dd : s2.heap.DictOfH (nK X.prog X.w) s.heap.objs.size [] := ⟨o, es, ep, ho, hx, hda, by rw [hes]; rfl, fun _ hx => by simp at hx, List.nodup_nil⟩
  unfold storeAll
  rw [List.forIn_cons]
  refine wpAny_bind (wpAny_bind (wpAny_dictSet_heap (knd := nK X.prog X.w) (hsz := Nat.zero_le _) (by show X.A.units + 8 < _; omega) (nest_is I2.hok n) dd fun h' dd' hs => wpAny_pure ?_))
  dsimp only
  rw [List.forIn_nil]
  refine wpAny_pure ?_
  rw [storedH_new rfl] at dd'
  obtain ⟨q, es', ep', hq, h2, h3, h4, _, h5⟩ := dd'
  refine ⟨.ref s.heap.objs.size, _, d_write I2 (by rw [ed]; exact True.intro) hs ⟨q, hq⟩ (TabN.ok ⟨by show 1 ≤ sizeLine; decide, hd, _, .cons ⟨rfl, rfl, ry⟩ .nil, q, es', ep', hq, h2, h3, h4, h5⟩), rfl, q2⟩
end
end DN
end
/-! ### R3a -/
section
set_option Elab.async false
set_option linter.all false
set_option maxRecDepth 100000
set_option maxHeartbeats 4000000
/-! What reader_of makes. -/
namespace K0
open PySem PySem.Spec PyProof.Rows L2 Rd DN
/-! ### a pair in a tuple of pairs -/
def rInT (K : PySem.W.Frag) : R2 := fun x y H Q => ∃ d ds, Dp K H x d ∧ Dp K H y (.tuple ds) ∧ SeqAt.shaped d = true ∧ SeqAt.shaped (.tuple ds) = true ∧ Q (.bl (ds.any fun z => PyData.eqv z d)) H
theorem op_inT {X : Cx} (K : PySem.W.Frag) (e : X.K = K) (hu : X.A.units + 65 < cLine) : OpR X (compareOp .In) (rInT K) := by
  subst e
  intro pins s σ H x y v u Q I rx ry h
  obtain ⟨d, ds, hd, he, sd, se, q⟩ := h
  obtain ⟨as, r1⟩ := Dp.reads I d x v hd rx
  obtain ⟨bs, r2⟩ := Dp.reads I (.tuple ds) y u he ry
  exact SeqAt.in_tuple_reads r2 r1 (SeqAt.canLay_of_shaped se) (SeqAt.canLay_of_shaped sd) (room_in_shaped sd hu) ⟨.bl _, H, I, rfl, q⟩
def dPl (p : Pl) : PyData := .tuple [.int (p.1 : Nat), .int (p.2 : Nat)]
theorem eqv_pl (p q : Pl) : PyData.eqv (dPl p) (dPl q) = decide (p = q) := by
  show (((p.1 : Nat) : Int) == ((q.1 : Nat) : Int) && (((p.2 : Nat) : Int) == ((q.2 : Nat) : Int) && true)) = _
  rw [Bool.and_true]
  obtain ⟨a, b⟩ := p
  obtain ⟨c, d⟩ := q
  by_cases h1 : a = c
  · by_cases h2 : b = d
    · subst h1 h2; simp
    · have : ¬ ((b : Int) = (d : Int)) := by omega
      simp [h2, this]
  · have : ¬ ((a : Int) = (c : Int)) := by omega
    simp [h1, this]
theorem any_pl (q : Pl) : ∀ l : List Pl, ((l.map dPl).any fun z => PyData.eqv z (dPl q)) = decide (q ∈ l)
  | [] => rfl
  | p :: l => by
    rw [List.map_cons, List.any_cons, any_pl q l, eqv_pl]
    by_cases h : p = q
    · subst h; simp
    · have : ¬ q = p := fun e => h e.symm
      simp [h, this]
theorem dp_pair {K : PySem.W.Frag} {H : Hp} {c : Addr} {p : Pl} (h : H c = some (pairO p)) : Dp K H (.ref c) (dPl p) := .tup (.of h) (.cons (.int _) (.cons (.int _) .nil))
theorem dp_places {K : PySem.W.Frag} {H : Hp} {b : Addr} {ps : List Pl} (h : PlacesAt H b ps) : Dp K H (.ref b) (.tuple (ps.map dPl)) := by
  obtain ⟨cs, e, r⟩ := h
  refine .tup (.of e) ?_
  clear e
  induction r with
  | nil => exact .nil
  | cons r t ih => exact .cons (dp_pair r) ih
/-! ### keys -/
def nkOf (ps : List Pl) : NK := ps.map fun p => [Sum.inl ((p.1 : Nat) : Int), Sum.inl ((p.2 : Nat) : Int)]
theorem nkOf_inj : ∀ {ps qs : List Pl}, nkOf ps = nkOf qs → ps = qs
  | [], [], _ => rfl
  | [], _ :: _, h => by cases h
  | _ :: _, [], h => by cases h
  | (a, b) :: ps, (c, d) :: qs, h => by
    unfold nkOf at h
    rw [List.map_cons, List.map_cons] at h
    injection h with h1 h2
    have z := nkOf_inj h2
    injection h1 with h3 h4
    injection h3 with h3
    injection h4 with h4 _
    injection h4 with h4
    have e1 : a = c := Int.ofNat_inj.mp h3
    have e2 : b = d := Int.ofNat_inj.mp h4
    rw [z, e1, e2]
theorem PlacesAt.nest {H : Hp} {b : Addr} {ps : List Pl} (h : PlacesAt H b ps) : NestH H b (nkOf ps) := by
  obtain ⟨cs, e, r⟩ := h
  refine ⟨cs, e, ?_⟩
  clear e
  induction r with
  | nil => exact .nil
  | cons r t ih => exact .cons r ih
abbrev Zs := List (Addr × List Pl)
def kvN : Nat → Zs → List (NK × Addr × V)
  | _, [] => []
  | n, z :: r => (nkOf z.2, z.1, .int (n : Nat)) :: kvN (n + 1) r
theorem kvN_snoc (z : Addr × List Pl) : ∀ (n : Nat) (l : Zs), kvN n (l ++ [z]) = kvN n l ++ [(nkOf z.2, z.1, .int ((n + l.length : Nat) : Int))]
  | n, [] => rfl
  | n, y :: l => by
    rw [List.cons_append, kvN, kvN_snoc z (n + 1) l, kvN, List.cons_append, List.length_cons]
    rw [show n + 1 + l.length = n + (l.length + 1) by omega]
theorem kvN_len : ∀ (n : Nat) (l : Zs), (kvN n l).length = l.length
  | _, [] => rfl
  | n, _ :: l => by rw [kvN, List.length_cons, kvN_len (n + 1) l, List.length_cons]
abbrev stsOf (zs : Zs) : List (List Pl) := zs.map (·.2)
theorem valN_kvN (p : List Pl) : ∀ (n : Nat) (zs : Zs), valN (kvN n zs) (nkOf p) = if p ∈ stsOf zs then some (.int ((n + (stsOf zs).idxOf p : Nat) : Int)) else none
  | n, [] => rfl
  | n, z :: zs => by
    have ih := valN_kvN p (n + 1) zs
    unfold valN at ih ⊢
    rw [kvN, List.find?_cons]
    by_cases e : z.2 = p
    · have h1 : decide (nkOf z.2 = nkOf p) = true := decide_eq_true (by rw [e])
      rw [h1]
      have h2 : p ∈ stsOf (z :: zs) := by rw [← e]; exact List.mem_cons_self
      rw [if_pos h2]
      show some (V.int (n : Nat)) = _
      rw [show stsOf (z :: zs) = p :: stsOf zs by rw [← e]; rfl, List.idxOf_cons_self]
      rfl
    · have h1 : decide (nkOf z.2 = nkOf p) = false := decide_eq_false fun q => e (nkOf_inj q)
      rw [h1]
      show (List.find? _ (kvN (n + 1) zs)).map _ = _
      rw [ih]
      have e2 : ¬ p = z.2 := fun q => e q.symm
      by_cases h : p ∈ stsOf zs
      · have h3 : p ∈ stsOf (z :: zs) := List.mem_cons_of_mem _ h
        rw [if_pos h, if_pos h3]
        show _ = some (V.int ((n + (z.2 :: stsOf zs).idxOf p : Nat) : Int))
        rw [show (z.2 :: stsOf zs).idxOf p = (stsOf zs).idxOf p + 1 by
          unfold List.idxOf
          rw [List.findIdx_cons]
          have h5 : (z.2 == p) = false := beq_eq_false_iff_ne.mpr e
          rw [h5]
          rfl]
        rw [show n + 1 + (stsOf zs).idxOf p = n + ((stsOf zs).idxOf p + 1) by omega]
      · have h3 : ¬ p ∈ stsOf (z :: zs) := fun q => by
          rcases List.mem_cons.mp q with q | q
          · exact e2 q
          · exact h q
        rw [if_neg h, if_neg h3]
theorem keysN {H : Hp} : ∀ {n : Nat} {zs : Zs}, (∀ z ∈ zs, PlacesAt H z.1 z.2) → KeysH H (kvN n zs)
  | _, [], _ => fun p hp => by cases hp
  | n, z :: zs, h => fun p hp => by
    rw [kvN] at hp
    rcases List.mem_cons.mp hp with rfl | hp
    · exact (h z List.mem_cons_self).nest
    · exact keysN (fun y hy => h y (List.mem_cons_of_mem _ hy)) p hp
/-! ### rows -/
abbrev sgs : List Nat := allSigns.cps.toList
def rowL (rs : List RunD) (sts : List (List Pl)) (ps : List Pl) (l : List Nat) : List (Key × V) :=
  l.filterMap fun s => if behind rs ps s = [] then none else some (.inr (oneS s), .int ((sts.idxOf (behind rs ps s) : Nat) : Int))
theorem rowL_snoc {rs : List RunD} {sts : List (List Pl)} {ps : List Pl} {l : List Nat} {s : Nat} : rowL rs sts ps (l ++ [s]) = rowL rs sts ps l ++ (if behind rs ps s = [] then [] else [(.inr (oneS s), .int ((sts.idxOf (behind rs ps s) : Nat) : Int))]) := by
  unfold rowL
  rw [List.filterMap_append]
  congr 1
  by_cases h : behind rs ps s = []
  · rw [if_pos h, List.filterMap_cons, if_pos h]; rfl
  · rw [if_neg h, List.filterMap_cons, if_neg h]; rfl
theorem rowL_grow {rs : List RunD} {sts m : List (List Pl)} {ps : List Pl} : ∀ {l : List Nat}, (∀ s ∈ l, behind rs ps s = [] ∨ behind rs ps s ∈ sts) → rowL rs (sts ++ m) ps l = rowL rs sts ps l
  | [], _ => rfl
  | s :: l, h => by
    have ih := rowL_grow (m := m) fun x hx => h x (List.mem_cons_of_mem _ hx)
    unfold rowL at ih ⊢
    rw [List.filterMap_cons, List.filterMap_cons, ih]
    by_cases z : behind rs ps s = []
    · rw [if_pos z, if_pos z]
    · rw [if_neg z, if_neg z]
      have z2 : behind rs ps s ∈ sts := (h s List.mem_cons_self).resolve_left z
      rw [List.idxOf_append, if_pos z2]
theorem rowL_keys {rs : List RunD} {sts : List (List Pl)} {ps : List Pl} {l : List Nat} {s : Nat} (h : s ∉ l) : ((rowL rs sts ps l).any fun kv => decide (kv.1 = Sum.inr (oneS s))) = false := by
  rw [Bool.eq_false_iff]
  intro z
  obtain ⟨kv, hk, e⟩ := List.any_eq_true.mp z
  unfold rowL at hk
  obtain ⟨t, ht, e2⟩ := List.mem_filterMap.mp hk
  have e := of_decide_eq_true e
  by_cases q : behind rs ps t = []
  · rw [if_pos q] at e2; cases e2
  · rw [if_neg q] at e2
    cases e2
    injection e with e
    injection e with e
    injection e with e
    injection e with e
    exact h (e ▸ ht)
theorem putK_new {α : Type} [DecidableEq α] {kvs : List (α × V)} {k : α} {v : V} (h : (kvs.any fun kv => decide (kv.1 = k)) = false) : putK kvs k v = kvs ++ [(k, v)] := by
  unfold putK
  rw [h]
  rfl
theorem rowL_len {rs : List RunD} {sts : List (List Pl)} {ps : List Pl} {l : List Nat} : (rowL rs sts ps l).length ≤ l.length := List.length_filterMap_le _ _
/-! ### the states -/
structure Sts (rs : List RunD) (sts : List (List Pl)) : Prop where
  nd : sts.Nodup
  hd : sts[0]? = some (ahead rs 0 0)
  ok : ∀ p ∈ sts, ∀ q ∈ p, OkP rs q
  sub : ∀ p ∈ sts, p.Sublist grid
def Clo (rs : List RunD) (sts : List (List Pl)) (ps : List Pl) (l : List Nat) : Prop := ∀ s ∈ l, behind rs ps s = [] ∨ behind rs ps s ∈ sts
theorem Clo.grow {rs : List RunD} {sts m : List (List Pl)} {ps : List Pl} {l : List Nat} (h : Clo rs sts ps l) : Clo rs (sts ++ m) ps l := fun s hs => (h s hs).imp id fun z => List.mem_append_left _ z
theorem Sts.start {rs : List RunD} (g : Good rs) : Sts rs [ahead rs 0 0] := by
  have ok0 : OkP rs (0, 0) := by
    by_cases z : 0 < rs.length
    · exact .inr ⟨rs[0], List.getElem?_eq_getElem z, Nat.zero_le _⟩
    · exact .inl ⟨by show 0 = _; omega, rfl⟩
  have ok := ahead_ok ok0
  refine ⟨by simp, rfl, fun p hp q hq => ?_, fun p hp => ?_⟩
  · rw [List.mem_singleton.mp hp] at hq
    exact ok q hq
  · rw [List.mem_singleton.mp hp]
    have a : Asc (ahead rs 0 0) := (aheadG_asc _ 0 0 (by omega)).1
    rw [asc_canon a (fun p hp => (ok p hp).grid g) (fun _ => Iff.rfl)]
    exact canon_sub _
theorem Sts.more {rs : List RunD} {sts : List (List Pl)} (h : Sts rs sts) {p : List Pl} {s : Nat} (hp : p ∈ sts) (new : behind rs p s ∉ sts) : Sts rs (sts ++ [behind rs p s]) := by
  refine ⟨?_, ?_, fun q hq r hr => ?_, fun q hq => ?_⟩
  · rw [List.nodup_append]
    refine ⟨h.nd, by simp, fun a ha b hb => ?_⟩
    rw [List.mem_singleton.mp hb]
    exact fun e => new (e ▸ ha)
  · rw [List.getElem?_append_left (by
      have z := h.hd
      obtain ⟨hl, _⟩ := List.getElem?_eq_some_iff.mp z
      exact hl)]
    exact h.hd
  · rcases List.mem_append.mp hq with hq | hq
    · exact h.ok q hq r hr
    · rw [List.mem_singleton.mp hq] at hr
      exact behind_ok (h.ok p hp) r hr
  · rcases List.mem_append.mp hq with hq | hq
    · exact h.sub q hq
    · rw [List.mem_singleton.mp hq]
      exact canon_sub _
/-- a reader of some runs -/
def ReaderAt (H : Hp) (t : Addr) (rs : List RunD) : Prop := ∃ (tw tm : Addr) (sts : List (List Pl)) (ra : List Addr), H t = some (.tup [.ref tw, .ref tm]) ∧ H tw = some (.tup (sts.map fun p => V.bl (decide ((rs.length, 0) ∈ p)))) ∧
  H tm = some (.tup (ra.map V.ref)) ∧ Paired (fun a p => H a = some (.dK (rowL rs sts p sgs))) ra sts ∧ Sts rs sts ∧ ∀ p ∈ sts, Clo rs sts p sgs
theorem ReaderAt.same {H H' : Hp} {t : Addr} {rs : List RunD} (h : ReaderAt H t rs) (s : Same H H') : ReaderAt H' t rs := by
  obtain ⟨tw, tm, sts, ra, h1, h2, h3, h4, h5⟩ := h
  exact ⟨tw, tm, sts, ra, s _ _ h1, s _ _ h2, s _ _ h3, pairedI h4 fun _ _ z => s _ _ z, h5⟩
theorem PlacesAt.upd {H : Hp} {x b : Addr} {o o' : HO} {ps : List Pl} (e : H x = some o) (no : ∀ xs, o ≠ .tup xs) (h : PlacesAt H b ps) : PlacesAt (upd H x o') b ps := by
  have st : ∀ y xs, H y = some (.tup xs) → L2.upd H x o' y = some (.tup xs) := fun y xs z => by
    rw [upd_ne (fun q => by rw [q, e] at z; injection z with z; exact no xs z)]
    exact z
  obtain ⟨cs, h1, h2⟩ := h
  exact ⟨cs, st _ _ h1, pairedI h2 fun _ _ z => st _ _ z⟩
theorem can_pls : ∀ ps : List Pl, PyData.canLayAll0 (ps.map dPl) = true
  | [] => rfl
  | p :: ps => by
    rw [List.map_cons, PyData.canLayAll0, can_pls ps]
    rfl
theorem depth_pl (p : Pl) : (dPl p).depth ≤ 2 := by
  unfold dPl
  simp [PyData.depth, PyData.depthAll]
theorem depth_pls : ∀ ps : List Pl, PyData.depthAll (ps.map dPl) ≤ 2
  | [] => by simp [PyData.depthAll]
  | p :: ps => by
    rw [List.map_cons, PyData.depthAll]
    have h1 := depth_pls ps
    have h2 := depth_pl p
    omega
theorem shaped_pl (p : Pl) : SeqAt.shaped (dPl p) = true := by
  unfold SeqAt.shaped
  rw [Bool.and_eq_true]
  exact ⟨rfl, decide_eq_true (Nat.le_trans (depth_pl p) (by decide))⟩
theorem shaped_pls (ps : List Pl) : SeqAt.shaped (.tuple (ps.map dPl)) = true := by
  unfold SeqAt.shaped
  rw [Bool.and_eq_true]
  refine ⟨?_, decide_eq_true ?_⟩
  · rw [PyData.canLay0]
    exact can_pls ps
  · have := depth_pls ps
    rw [PyData.depth]
    omega
end K0
end
/-! ### R3 -/
section
set_option Elab.async false
set_option linter.all false
set_option maxRecDepth 100000
set_option maxHeartbeats 4000000
/-! reader_of. -/
namespace K0
open PySem PySem.Spec PyProof.Rows L2 Rd DN
theorem scReader : FnScope ["runs", "start", "numbers", "states", "moves", "row", "sign", "reached", "wholes", "places"] ["runs"] (defScope (top iReader)) := ⟨rfl, rfl, rfl, by decide +kernel, rfl, by decide +kernel, by decide +kernel⟩
def spReader (K : PySem.W.Frag) : Sp := fun vs H Q _ => ∃ (a : Addr) (rs : List RunD), vs = [.ref a] ∧ RunsAt K H a rs ∧ Good rs ∧ ∀ H' t, Same H H' → H t = none → ReaderAt H' t rs → Q (.ref t) H'
/-- what stands between two turns -/
structure Mid (P : Program) (w : World) (H : Hp) (dn ls lm : Addr) (rs : List RunD) (zs : Zs) (ra : List Addr) (H' : Hp) : Prop where
  s : Same H H'
  d : H' dn = some (dN P w dn (kvN 0 zs))
  l : H' ls = some (.lst (zs.map fun z => V.ref z.1))
  m : H' lm = some (.lst (ra.map V.ref))
  p : ∀ z ∈ zs, PlacesAt H' z.1 z.2
  st : Sts rs (stsOf zs)
  le : ra.length ≤ zs.length
  ro : Paired (fun a p => H' a = some (.dK (rowL rs (stsOf zs) p sgs))) ra ((stsOf zs).take ra.length)
  cl : ∀ p ∈ (stsOf zs).take ra.length, Clo rs (stsOf zs) p sgs
/-- the same within a turn: a row is begun -/
structure MidR (P : Program) (w : World) (H : Hp) (dn ls lm rw' : Addr) (rs : List RunD) (zs : Zs) (ra : List Addr) (j : Nat) (H' : Hp) : Prop extends Mid P w H dn ls lm rs zs ra H' where
  lt : ra.length < zs.length
  r : ∀ p, (stsOf zs)[ra.length]? = some p → H' rw' = some (.dK (rowL rs (stsOf zs) p (sgs.take j))) ∧ Clo rs (stsOf zs) p (sgs.take j)
  no : rw' ∉ ra
theorem pairedIm {α β : Type} {F G : α → β → Prop} : ∀ {l : List α} {m : List β}, Paired F l m → (∀ a b, a ∈ l → b ∈ m → F a b → G a b) → Paired G l m
  | _, _, .nil, _ => .nil
  | _, _, .cons r t, f => .cons (f _ _ List.mem_cons_self List.mem_cons_self r) (pairedIm t fun a b h1 h2 => f a b (List.mem_cons_of_mem _ h1) (List.mem_cons_of_mem _ h2))
theorem not_before {α : Type} {l : List α} (n : l.Nodup) {m : Nat} {c : α} (h : l[m]? = some c) : c ∉ l.take m := by
  intro hc
  obtain ⟨i, hi⟩ := List.mem_iff_getElem?.mp hc
  rw [List.getElem?_take] at hi
  split at hi
  · rename_i him
    obtain ⟨hl, _⟩ := List.getElem?_eq_some_iff.mp hi
    have := (List.getElem?_inj hl n).mp (hi.trans h.symm)
    omega
  · cases hi
theorem sgs_nodup : sgs.Nodup := by decide +kernel
theorem Mid.same {P : Program} {w : World} {H H' H'' : Hp} {dn ls lm : Addr} {rs : List RunD} {zs : Zs} {ra : List Addr} (M : Mid P w H dn ls lm rs zs ra H') (s : Same H' H'') : Mid P w H dn ls lm rs zs ra H'' where
  s := M.s.trans s
  d := s _ _ M.d
  l := s _ _ M.l
  m := s _ _ M.m
  p := fun z hz => (M.p z hz).same s
  st := M.st
  le := M.le
  ro := pairedI M.ro fun _ _ z => s _ _ z
  cl := M.cl
theorem MidR.same {P : Program} {w : World} {H H' H'' : Hp} {dn ls lm rw' : Addr} {rs : List RunD} {zs : Zs} {ra : List Addr} {j : Nat} (M : MidR P w H dn ls lm rw' rs zs ra j H') (s : Same H' H'') : MidR P w H dn ls lm rw' rs zs ra j H'' where
  toMid := M.toMid.same s
  lt := M.lt
  r := fun p hp => ⟨s _ _ (M.r p hp).1, (M.r p hp).2⟩
  no := M.no
theorem tru_places {K : PySem.W.Frag} {H : Hp} {t : Addr} {ps : List Pl} (h : PlacesAt H t ps) : TruV K (.ref t) H (decide (ps ≠ [])) := by
  obtain ⟨cs, e, r⟩ := h
  refine .inr (.inl ⟨_, .of e, ?_⟩)
  cases r with
  | nil => rfl
  | cons _ _ => rfl
theorem tup_ne_dN {P : Program} {w : World} {a : Addr} {kvs : List (NK × Addr × V)} : ∀ xs, dN P w a kvs ≠ .tup xs := fun xs e => nomatch e
theorem nodup_len_le {zs : Zs} {rs : List RunD} (st : Sts rs (stsOf zs)) : zs.length ≤ 1048576 := by
  have := states_few st.nd st.sub
  rw [List.length_map] at this
  exact this
section
variable {P : Program} {w : World} {K : PySem.W.Frag} {mg : Str → Option Value} {base : Heap} {f fB fA : Addr} {fd fdB fdA : FuncData}
theorem ok_reader {k : Nat} (F : FnP K "reader_of" iReader f fd) (mlen : mg "len" = none) (mtuple : mg "tuple" = none) (ms : ∃ t, mg "SIGNS" = some (.str allSigns t))
    (FB : FnOk P w K mg base CX0 (k + 2) fB fdB ["runs", "places", "sign"] (spBehind K)) (gB : mg "places_behind" = some (.ref fB)) (kB : PySem.W.keepIn K (.ref fB) = true) (bB : Binds K fdB ["runs", "places", "sign"] [])
    (FA : FnOk P w K mg base CX0 (k + 2) fA fdA ["runs", "run", "count"] (spAhead K)) (gA : mg "places_ahead" = some (.ref fA)) (kA : PySem.W.keepIn K (.ref fA) = true) (bA : Binds K fdA ["runs", "run", "count"] []) :
    FnOk P w K mg base CX0 (k + 3) f fd ["runs"] (spReader K) := by
  refine F.ok scReader (fun vs H Q E h => ?_) (fun cdv A outer s H vs Q E hr h => ?_)
  · obtain ⟨a, rs, rfl, _⟩ := h
    rfl
  · obtain ⟨a, rs, rfl, hR, g, q⟩ := h
    obtain ⟨tk, ms⟩ := ms
    have u65 : (A.deeper (envOfC "reader_of" (defScope (top iReader)) s.heap.objs.size f cdv)).units + 65 < cLine := by have := hr.un; omega
    refine ⟨_, PSs.nox (C8.pss_cut (ps_set (i := 1) scReader.nd rfl (.inl rfl) (pe_callTy call_tuple_of (by rfl) mtuple (by decide +kernel) (pa_cons (pe_call FA hr (by rfl) gA kA bA .nil pass0 (pa_cons (pv 0) (pa_cons pe_int (pa_cons pe_int pa_nil)))) pa_nil)))
 (C8.pss_cut (ps_set (i := 2) scReader.nd rfl (.inl rfl) (pe_none1 hr.units (pv 1) pe_int))
 (C8.pss_cut (ps_set (i := 3) scReader.nd rfl (.inl rfl) (pe_lst (pa_cons (pv 1) pa_nil)))
 (C8.pss_cut (ps_set (i := 4) scReader.nd rfl (.inl rfl) (pe_lst pa_nil))
 (C8.pss_cut (ps_while PassesOwn.never (pt_cmpR op_lt (pe_callB call_len_seq (by rfl) mlen PySem.boot_len (pa_cons (pv 4) pa_nil)) (pe_callB call_len_seq (by rfl) mlen PySem.boot_len (pa_cons (pv 3) pa_nil)) (nomark _))
 (C8.pss_cut (ps_set (i := 5) scReader.nd rfl (.inl rfl) pe_dnewK)
 (C8.pss_cut (ps_for PassesOwn.never rfl (pi_str (pe_glob (v := .str allSigns) (by rfl) ms ⟨tk, rfl⟩)) (pg_name (i := 6) scReader.nd rfl (.inl rfl))
 (C8.pss_cut (ps_set (i := 7) scReader.nd rfl (.inl rfl) (pe_call FB hr (by rfl) gB kB bB .nil pass0 (pa_cons (pv 0) (pa_cons (pe_ix ix_list (pv 3) (pe_callB call_len_seq (by rfl) mlen PySem.boot_len (pa_cons (pv 4) pa_nil)) (fun _ _ => rfl)) (pa_cons (pv 6) pa_nil)))))
 (C8.pss_cut (ps_if (PW.pt (pw_and (pt_truth (pv 7) (by intro _; rfl)) (pw_and1 (pt_cmp (pc_nnotin hr.units (pv 7) (pv 2))))))
 (pss_cons (ps_nput hr.units (pv 2) (pv 7) (pe_callB call_len_seq (by rfl) mlen PySem.boot_len (pa_cons (pv 3) pa_nil)) rfl)
 (pss_one (ps_expr (pe_bm PySem.F.plainAttrs_list PySem.F.slot_list_append PySem.F.type_list_append mt_append (pv 3) (pa_cons (pv 7) pa_nil))))) pss_nil)
 (pss_one (ps_if (pt_truth (pv 7) (by intro _; rfl)) (pss_one (ps_dput (hu_of hr) (pv 5) (pv 6) (pe_nget hr.units (pv 2) (pv 7) (fun _ _ => rfl)) rfl)) pss_nil)))))
 (pss_one (ps_expr (pe_bm PySem.F.plainAttrs_list PySem.F.slot_list_append PySem.F.type_list_append mt_append (pv 4) (pa_cons (pv 5) pa_nil)))))))
 (C8.pss_cut (ps_setLc (i := 8) (own := [("places", 9)]) (g := gName 9) (tt := tYes)
            (te := tOp (rInT K) (tTup (tCons (tCB (rLenS K) (tCons (tVar 0) tNil)) (tCons (tC (.int 0)) tNil))) (tVar 9))
            rfl scReader.nd rfl rfl (sw_true rfl rfl rfl rfl) (pi_list (pv 3)) (blkOk_by (N := ["runs", "start", "numbers", "states", "moves", "row", "sign", "reached", "wholes", "places"]) (sc := defScope (top iReader)) (by decide +kernel))
            (fun _ _ _ _ _ => pg_name (i := 9) scReader.nd rfl (Or.inl rfl)) (fun _ _ _ _ _ => pts_nil)
            (fun _ _ _ _ _ => pe_cmpR (op_inT K rfl u65) (pe_tup (pa_cons (pe_callB (call_lenK K rfl) (by rfl) mlen PySem.boot_len (pa_cons (pv 0) pa_nil)) (pa_cons pe_int pa_nil))) (pv 9) rfl))
 (pss_one (ps_ret (pe_tup (pa_cons (pe_callTy call_tuple_of (by rfl) mtuple (by decide +kernel) (pa_cons (pv 8) pa_nil)) (pa_cons (pe_callTy call_tuple_of (by rfl) mtuple (by decide +kernel) (pa_cons (pv 4) pa_nil)) pa_nil))))))))))), ?_⟩
    have sm1 : 1 ≤ sizeLine := by decide
    have sl : sizeLine = 16777216 := sizeLine_eq
    refine ⟨fun σ' H' => ∃ t0, σ' = [some (.ref a), some (.ref t0), none, none, none, none, none, none, none, none] ∧ Same H H' ∧ PlacesAt H' t0 (ahead rs 0 0), ?_, ?_⟩
    · refine ⟨_, rfl, a, rs, 0, 0, rfl, hR, g.len, by decide, fun H1 l cs s1 n1 e1 p1 => ⟨l, _, rfl, .inl ⟨.of e1, fun t nt => ?_⟩⟩⟩
      exact ⟨t, rfl, s1.trans (same_upd nt), cs, upd_same, p1.same (same_upd nt)⟩
    rintro σ1 H1 ⟨t0, rfl, s1, p1⟩
    refine ⟨fun σ' H' => ∃ dn, σ' = [some (.ref a), some (.ref t0), some (.ref dn), none, none, none, none, none, none, none] ∧ Same H1 H' ∧ H1 dn = none ∧ H' dn = some (dN P w dn (kvN 0 [(t0, ahead rs 0 0)])), ?_, ?_⟩
    · refine fun dn nd => ⟨_, rfl, upd_same, t0, nkOf (ahead rs 0 0), rfl, (p1.same (same_upd nd)).nest, ?_⟩
      refine ⟨dn, rfl, ?_, nd, upd_same⟩
      rw [upd_upd]
      exact same_upd nd
    rintro σ2 H2 ⟨dn, rfl, s2, nd, e2⟩
    refine ⟨fun σ' H' => ∃ ls, σ' = [some (.ref a), some (.ref t0), some (.ref dn), some (.ref ls), none, none, none, none, none, none] ∧ Same H2 H' ∧ H2 ls = none ∧ H' ls = some (.lst [.ref t0]), ?_, ?_⟩
    · exact ⟨_, rfl, sm1, fun ls nl => ⟨ls, rfl, same_upd nl, nl, upd_same⟩⟩
    rintro σ3 H3 ⟨ls, rfl, s3, nl, e3⟩
    refine ⟨fun σ' H' => ∃ lm, σ' = [some (.ref a), some (.ref t0), some (.ref dn), some (.ref ls), some (.ref lm), none, none, none, none, none] ∧ H lm = none ∧ ls ≠ lm ∧ Mid P w H dn ls lm rs [(t0, ahead rs 0 0)] [] H', ?_, ?_⟩
    · refine ⟨Nat.zero_le _, fun lm nm => ⟨lm, rfl, none_back ((s1.trans s2).trans s3) nm, ne_of_none e3 nm, ?_⟩⟩
      have s4 : Same H3 (upd H3 lm (.lst [])) := same_upd nm
      exact ⟨((s1.trans s2).trans s3).trans s4, s4 _ _ (s3 _ _ e2), s4 _ _ e3, upd_same, fun z hz => by
        rw [List.mem_singleton.mp hz]
        exact p1.same ((s2.trans s3).trans s4), Sts.start g, Nat.zero_le _, .nil, fun p hp => by cases hp⟩
    rintro σ4 H4 ⟨lm, rfl, nm, lsm, M4⟩
    have ndH : H dn = none := none_back s1 nd
    have nlH : H ls = none := none_back (s1.trans s2) nl
    refine ⟨fun σ' H' => ∃ x5 x6 x7 zs ra, σ' = [some (.ref a), some (.ref t0), some (.ref dn), some (.ref ls), some (.ref lm), x5, x6, x7, none, none] ∧ Mid P w H dn ls lm rs zs ra H' ∧ ra.length = zs.length, ?_, ?_⟩
    · refine while_by (fun σ' H' => ∃ x5 x6 x7 zs ra, σ' = [some (.ref a), some (.ref t0), some (.ref dn), some (.ref ls), some (.ref lm), x5, x6, x7, none, none] ∧ Mid P w H dn ls lm rs zs ra H')
        (fun _ H' => match H' lm with
          | some (.lst xs) => 1048577 - xs.length
          | _ => 0) ⟨none, none, none, _, _, rfl, M4⟩ (fun σ' H' hP => ?_) ?_
      · obtain ⟨x5, x6, x7, zs, ra, rfl, M⟩ := hP
        refine ⟨_, rfl, lm, _, rfl, .inl (.of M.m), _, rfl, ls, _, rfl, .inl (.of M.l), _, _, rfl, rfl, _, rfl, ite2 (fun hlt => ?_) (fun hge => ?_)⟩
        · have hlt : ra.length < zs.length := by
            have z : (((ra.map V.ref).length : Nat) : Int) < (((zs.map fun z => V.ref z.1).length : Nat) : Int) := of_decide_eq_true hlt
            rw [List.length_map, List.length_map] at z
            omega
          have mu0 : (match H' lm with | some (.lst xs) => 1048577 - xs.length | _ => 0) = 1048577 - ra.length := by
            rw [M.m]
            show 1048577 - (ra.map V.ref).length = _
            rw [List.length_map]
          -- row = {}
          refine ⟨fun σ' H'' => ∃ rw', σ' = [some (.ref a), some (.ref t0), some (.ref dn), some (.ref ls), some (.ref lm), some (.ref rw'), x6, x7, none, none] ∧ H rw' = none ∧ MidR P w H dn ls lm rw' rs zs ra 0 H'', ?_, ?_⟩
          · refine fun rw' nr => ⟨rw', rfl, none_back M.s nr, M.same (same_upd nr), hlt, fun p hp => ⟨by rw [upd_same]; rfl, fun s hs => by cases hs⟩, fun hr => ?_⟩
            obtain ⟨i, hi⟩ := List.mem_iff_getElem?.mp hr
            obtain ⟨p, _, z⟩ := paired_at' M.ro hi
            rw [nr] at z
            cases z
          rintro σ5 H5 ⟨rw', rfl, nr, M5⟩
          -- for sign in SIGNS
          refine ⟨fun σ' H'' => ∃ x6 x7 zs, σ' = [some (.ref a), some (.ref t0), some (.ref dn), some (.ref ls), some (.ref lm), some (.ref rw'), x6, x7, none, none] ∧ MidR P w H dn ls lm rw' rs zs ra sgs.length H'', ?_, ?_⟩
          · refine ⟨allSigns, rfl, for_it (walk_str (z := allSigns)) (fun m σ' H'' => ∃ x6 x7 zs, σ' = [some (.ref a), some (.ref t0), some (.ref dn), some (.ref ls), some (.ref lm), some (.ref rw'), x6, x7, none, none] ∧ MidR P w H dn ls lm rw' rs zs ra m H'')
              ⟨x6, x7, zs, rfl, M5⟩ (fun _ _ _ _ _ => trivial) (fun m x σ' H'' H6 hm hP hY => ?_) (fun σ' H'' hP => hP)⟩
            obtain ⟨x6, x7, zs, rfl, M6⟩ := hP
            obtain ⟨rfl, c, hc, rfl⟩ := hY
            have hcs : sgs[m]? = some c := by rw [← hc]; simp [sgs]
            have tkm : sgs.take (m + 1) = sgs.take m ++ [c] := by rw [List.take_succ, hcs]; rfl
            have lt6 := M6.lt
            have few := nodup_len_le M6.st
            obtain ⟨z, hz⟩ : ∃ z, zs[ra.length]? = some z := ⟨_, List.getElem?_eq_getElem lt6⟩
            have hzs : (stsOf zs)[ra.length]? = some z.2 := by rw [List.getElem?_map, hz]; rfl
            have hzm : z.2 ∈ stsOf zs := List.mem_of_getElem? hzs
            obtain ⟨b, ps⟩ := z
            have hzs : (stsOf zs)[ra.length]? = some ps := hzs
            have hzm : ps ∈ stsOf zs := hzm
            have pb : PlacesAt H6 b ps := M6.p _ (List.mem_of_getElem? hz)
            have hT6 := hR.same M6.s
            refine ⟨fun σ' H7 => ∃ t, σ' = [some (.ref a), some (.ref t0), some (.ref dn), some (.ref ls), some (.ref lm), some (.ref rw'), some (oneV c), some (.ref t), none, none] ∧ MidR P w H dn ls lm rw' rs zs ra m H7 ∧ PlacesAt H7 t (behind rs ps c), ?_, ?_⟩
            · refine ⟨_, rfl, _, rfl, _, rfl, lm, _, rfl, .inl (.of M6.m), ls, _, _, _, rfl, rfl, .of M6.l, atI_nat (v := .ref b) (by rw [List.length_map, List.getElem?_map, hz]; rfl), _, rfl, a, b, rs, ps, c, rfl, hT6, g, pb, M6.st.sub _ hzm, M6.st.ok _ hzm, fun H7 t s7 nt pt => ?_⟩
              exact ⟨t, rfl, M6.same s7, pt⟩
            clear M6 pb hT6
            rintro σ7 H7 ⟨t, rfl, M7, pt⟩
            refine ⟨fun σ' H8 => ∃ zs', σ' = [some (.ref a), some (.ref t0), some (.ref dn), some (.ref ls), some (.ref lm), some (.ref rw'), some (oneV c), some (.ref t), none, none] ∧ MidR P w H dn ls lm rw' rs zs' ra m H8 ∧ PlacesAt H8 t (behind rs ps c) ∧ (stsOf zs')[ra.length]? = some ps ∧ (behind rs ps c = [] ∨ behind rs ps c ∈ stsOf zs'), ?_, ?_⟩
            · refine ⟨_, rfl, _, tru_places pt, ite2 (fun ne => ?_) (fun e => ?_)⟩
              · refine ⟨_, rfl, _, rfl, dn, t, nkOf (behind rs ps c), kvN 0 zs, rfl, rfl, M7.d, keysN M7.p, pt.nest, _, rfl, ite2 (fun new => ?_) (fun old => ?_)⟩
                · have nb : behind rs ps c ∉ stsOf zs := fun hb => by
                    rw [valN_kvN, if_pos hb] at new
                    cases new
                  have vn : valN (kvN 0 zs) (nkOf (behind rs ps c)) = none := by rw [valN_kvN, if_neg nb]
                  have lsd : ls ≠ dn := ne_of M7.l M7.d (fun z => nomatch z)
                  refine ⟨_, rfl, ls, _, rfl, .inl (.of M7.l), _, rfl, _, rfl, dn, t, nkOf (behind rs ps c), kvN 0 zs, rfl, rfl, M7.d, keysN M7.p, pt.nest, vn, by rw [kvN_len]; omega, ?_⟩
                  have el : upd H7 dn (dN P w dn (kvN 0 zs ++ [(nkOf (behind rs ps c), t, .int (((zs.map fun z => V.ref z.1).length : Nat) : Int))])) ls = some (.lst (zs.map fun z => V.ref z.1)) := by
                    rw [upd_ne lsd]
                    exact M7.l
                  refine ⟨_, rfl, .inl ⟨rfl, _, .inl (.inl el)⟩, _, rfl, ls, _, _, rfl, rfl, el, by rw [List.length_map]; omega, ?_⟩
                  have ests : stsOf (zs ++ [(t, behind rs ps c)]) = stsOf zs ++ [behind rs ps c] := List.map_append
                  have keep : ∀ y o, y ≠ dn → y ≠ ls → H7 y = some o → upd (upd H7 dn (dN P w dn (kvN 0 zs ++ [(nkOf (behind rs ps c), t, .int (((zs.map fun z => V.ref z.1).length : Nat) : Int))]))) ls (.lst ((zs.map fun z => V.ref z.1) ++ [.ref t])) y = some o := fun y o h1 h2 h3 => by
                    rw [upd_ne h2, upd_ne h1]
                    exact h3
                  have keepP : ∀ {x : Addr} {qs : List Pl}, PlacesAt H7 x qs → PlacesAt (upd (upd H7 dn (dN P w dn (kvN 0 zs ++ [(nkOf (behind rs ps c), t, .int (((zs.map fun z => V.ref z.1).length : Nat) : Int))]))) ls (.lst ((zs.map fun z => V.ref z.1) ++ [.ref t]))) x qs := fun h =>
                    (h.upd M7.d tup_ne_dN).upd el (fun xs e => nomatch e)
                  have tks : (stsOf zs ++ [behind rs ps c]).take ra.length = (stsOf zs).take ra.length := List.take_append_of_le_length (by rw [List.length_map]; omega)
                  refine ⟨zs ++ [(t, behind rs ps c)], rfl, ⟨⟨fun y o z => ?_, ?_, ?_, ?_, fun z hz => ?_, ?_, ?_, ?_, fun p hp => ?_⟩, ?_, fun p hp => ?_, M7.no⟩, keepP pt, ?_, .inr ?_⟩
                  · exact keep y o (fun q => by rw [q, ndH] at z; cases z) (fun q => by rw [q, nlH] at z; cases z) (M7.s _ _ z)
                  · rw [upd_ne lsd.symm, upd_same, kvN_snoc, Nat.zero_add, List.length_map]; rfl
                  · rw [upd_same, List.map_append]; rfl
                  · exact keep _ _ (ne_of M7.m M7.d (fun z => nomatch z)) lsm.symm M7.m
                  · rcases List.mem_append.mp hz with hz | hz
                    · exact keepP (M7.p z hz)
                    · rw [List.mem_singleton.mp hz]
                      exact keepP pt
                  · rw [ests]
                    exact M7.st.more hzm nb
                  · rw [List.length_append]; have := M7.le; omega
                  · rw [ests, tks]
                    refine pairedIm M7.ro fun x p _ hp h => ?_
                    rw [rowL_grow (M7.cl p hp)]
                    exact keep _ _ (ne_of h M7.d (fun z => nomatch z)) (ne_of h M7.l (fun z => nomatch z)) h
                  · rw [ests, tks] at hp
                    rw [ests]
                    exact (M7.cl p hp).grow
                  · rw [List.length_append]; omega
                  · rw [ests, List.getElem?_append_left (by rw [List.length_map]; exact lt6)] at hp
                    obtain ⟨r1, r2⟩ := M7.r p hp
                    rw [ests]
                    refine ⟨?_, r2.grow⟩
                    rw [rowL_grow r2]
                    exact keep _ _ (ne_of r1 M7.d (fun z => nomatch z)) (ne_of r1 M7.l (fun z => nomatch z)) r1
                  · rw [ests, List.getElem?_append_left (by rw [List.length_map]; exact lt6)]
                    exact hzs
                  · rw [ests]
                    exact List.mem_append_right _ (List.mem_singleton.mpr rfl)
                · refine ⟨zs, rfl, M7, pt, hzs, .inr ?_⟩
                  by_cases hb : behind rs ps c ∈ stsOf zs
                  · exact hb
                  · exact absurd (by rw [valN_kvN, if_neg hb]; rfl) old
              · refine ⟨zs, rfl, M7, pt, hzs, .inl ?_⟩
                by_cases hb : behind rs ps c = []
                · exact hb
                · exact absurd (decide_eq_true hb) e
            clear M7 pt hzs hzm hz few lt6
            rintro σ8 H8 ⟨zs8, rfl, M8, pt, hzs, mem⟩
            refine ⟨_, rfl, _, tru_places pt, ite2 (fun ne => ?_) (fun e => ?_)⟩
            · have ne : behind rs ps c ≠ [] := of_decide_eq_true ne
              have mem := mem.resolve_left ne
              obtain ⟨r1, r2⟩ := M8.r ps hzs
              refine ⟨_, rfl, _, rfl, dn, t, nkOf (behind rs ps c), kvN 0 zs8, _, rfl, rfl, M8.d, keysN M8.p, pt.nest, (by rw [valN_kvN, if_pos mem]), _, rfl, _, rfl, rw', _, rfl, DPut.k (k := .inr (oneS c)) r1 ?_, ?_⟩
              · have z1 := rowL_len (rs := rs) (sts := stsOf zs8) (ps := ps) (l := sgs.take m)
                have z2 : (sgs.take m).length ≤ 15 := Nat.le_trans (List.length_take_le' _ _) (by decide +kernel)
                omega
              have er : putK (rowL rs (stsOf zs8) ps (sgs.take m)) (.inr (oneS c)) (.int ((0 + (stsOf zs8).idxOf (behind rs ps c) : Nat) : Int)) = rowL rs (stsOf zs8) ps (sgs.take (m + 1)) := by
                rw [putK_new (rowL_keys (not_before sgs_nodup hcs)), tkm, rowL_snoc, if_neg ne, Nat.zero_add]
              rw [er]
              refine ⟨_, _, zs8, rfl, ⟨fun y o z => ?_, ?_, ?_, ?_, fun z hz => ?_, M8.st, M8.le, ?_, M8.cl⟩, M8.lt, fun p hp => ?_, M8.no⟩
              · rw [upd_ne (fun q => by rw [q, nr] at z; cases z)]
                exact M8.s _ _ z
              · rw [upd_ne (ne_of M8.d r1 (fun z => nomatch z))]
                exact M8.d
              · rw [upd_ne (ne_of M8.l r1 (fun z => nomatch z))]
                exact M8.l
              · rw [upd_ne (ne_of M8.m r1 (fun z => nomatch z))]
                exact M8.m
              · exact (M8.p z hz).upd r1 (fun xs e => nomatch e)
              · refine pairedIm M8.ro fun x p hx _ h => ?_
                rw [upd_ne (fun q => M8.no (by rw [← q]; exact hx))]
                exact h
              · rw [hzs] at hp
                cases hp
                refine ⟨upd_same, fun s hs => ?_⟩
                rw [tkm] at hs
                rcases List.mem_append.mp hs with hs | hs
                · exact r2 s hs
                · rw [List.mem_singleton.mp hs]
                  exact .inr mem
            · have e : behind rs ps c = [] := by
                by_cases hb : behind rs ps c = []
                · exact hb
                · exact absurd (decide_eq_true hb) e
              refine ⟨_, _, zs8, rfl, M8.toMid, M8.lt, fun p hp => ?_, M8.no⟩
              obtain ⟨r1, r2⟩ := M8.r p hp
              rw [hzs] at hp
              cases hp
              refine ⟨?_, fun s hs => ?_⟩
              · rw [tkm, rowL_snoc, if_pos e, List.append_nil]
                exact r1
              · rw [tkm] at hs
                rcases List.mem_append.mp hs with hs | hs
                · exact r2 s hs
                · rw [List.mem_singleton.mp hs]
                  exact .inl e
          rintro σ6 H6 ⟨y6, y7, zs6, rfl, M6⟩
          -- moves.append(row)
          have lt6 := M6.lt
          obtain ⟨p6, hp6⟩ : ∃ p, (stsOf zs6)[ra.length]? = some p := ⟨_, List.getElem?_eq_getElem (by rw [List.length_map]; exact lt6)⟩
          obtain ⟨r6, c6⟩ := M6.r p6 hp6
          rw [List.take_length] at r6 c6
          have few := nodup_len_le M6.st
          have tk6 : (stsOf zs6).take (ra ++ [rw']).length = (stsOf zs6).take ra.length ++ [p6] := by
            rw [List.length_append, List.length_singleton, List.take_succ, hp6]
            rfl
          refine ⟨_, rfl, .inl ⟨rfl, _, .inl (.inl M6.m)⟩, _, rfl, lm, _, _, rfl, rfl, M6.m, by rw [List.length_map]; omega, ?_⟩
          have nrow : rw' ≠ lm := ne_of r6 M6.m (fun z => nomatch z)
          refine ⟨⟨_, y6, y7, zs6, ra ++ [rw'], rfl, ?_⟩, ?_⟩
          · refine ⟨fun y o z => ?_, ?_, ?_, ?_, fun z hz => ?_, M6.st, ?_, ?_, fun p hp => ?_⟩
            · rw [upd_ne (fun q => by rw [q, nm] at z; cases z)]
              exact M6.s _ _ z
            · rw [upd_ne (ne_of M6.d M6.m (fun z => nomatch z))]
              exact M6.d
            · rw [upd_ne lsm]
              exact M6.l
            · rw [upd_same, List.map_append]; rfl
            · exact (M6.p z hz).upd M6.m (fun xs e => nomatch e)
            · rw [List.length_append]; exact lt6
            · rw [tk6]
              refine paired_snoc ?_ (pairedI M6.ro fun x y z => ?_)
              · rw [upd_ne nrow]
                exact r6
              · rw [upd_ne (ne_of z M6.m (fun z => nomatch z))]
                exact z
            · rw [tk6] at hp
              rcases List.mem_append.mp hp with hp | hp
              · exact M6.cl p hp
              · rw [List.mem_singleton.mp hp]
                exact c6
          · show (match upd H6 lm (.lst (ra.map V.ref ++ [V.ref rw'])) lm with | some (.lst xs) => 1048577 - xs.length | _ => 0) < (match H' lm with | some (.lst xs) => 1048577 - xs.length | _ => 0)
            rw [mu0, upd_same]
            show 1048577 - (ra.map V.ref ++ [V.ref rw']).length < _
            rw [List.length_append, List.length_map, List.length_singleton]
            omega
        · have hge : ra.length = zs.length := by
            have z : ¬ (((ra.map V.ref).length : Nat) : Int) < (((zs.map fun z => V.ref z.1).length : Nat) : Int) := fun q => hge (decide_eq_true q)
            rw [List.length_map, List.length_map] at z
            have := M.le
            omega
          exact ⟨x5, x6, x7, zs, ra, rfl, M, hge⟩
      · rintro σ H Q Q' m ⟨v1, h1, p2, y2, h2, h3, v4, h4, p5, y5, h5, h6, i2, j2, h7, h8, k2, h9, h10⟩
        exact ⟨v1, h1, p2, y2, h2, h3, v4, h4, p5, y5, h5, h6, i2, j2, h7, h8, k2, h9, m _ _ h10⟩
    rintro σ7 H7 ⟨x5, x6, x7, zs, ra, rfl, M, full⟩
    have few := nodup_len_le M.st
    obtain ⟨rvs, hT, hP⟩ := hR
    have vl := paired_len hP
    have fullS : (stsOf zs).take ra.length = stsOf zs := by
      rw [List.take_of_length_le]
      rw [List.length_map]
      omega
    have ro := M.ro
    have cl := M.cl
    rw [fullS] at ro cl
    refine ⟨fun σ' H' => ∃ lw, σ' = [some (.ref a), some (.ref t0), some (.ref dn), some (.ref ls), some (.ref lm), x5, x6, x7, some (.ref lw), none] ∧ Same H7 H' ∧ H' lw = some (.lst ((stsOf zs).map fun p => V.bl (decide ((rs.length, 0) ∈ p)))), ?_, ?_⟩
    · refine ⟨_, rfl, ls, rfl, ⟨_, .of M.l⟩, fun D nD => lc_it (walk_list (xs := zs.map fun z => V.ref z.1)) (fun m H5 => Same H7 H5 ∧ H5 D = some (.lst (((stsOf zs).take m).map fun p => V.bl (decide ((rs.length, 0) ∈ p))))) ⟨same_upd nD, upd_same⟩ (fun _ H5 _ hP => .of (hP.1 _ _ M.l)) (fun m x H5 H6 hm hP2 hY => ?_) (fun H5 hP2 => ?_)⟩
      · obtain ⟨s5, e5⟩ := hP2
        obtain ⟨eH, hx⟩ := hY
        subst H6
        rw [List.length_map] at hm
        have hz : zs[m]? = some zs[m] := List.getElem?_eq_getElem hm
        rw [List.getElem?_map, hz] at hx
        cases hx
        have hs : (stsOf zs)[m]? = some zs[m].2 := by rw [List.getElem?_map, hz]; rfl
        have pz := (M.p _ (List.mem_of_getElem? hz)).same s5
        generalize zs[m] = z at hs pz
        refine ⟨rfl, _, rfl, a, rvs, rfl, .inr (same_tup (M.s.trans s5) hT), by show 2 ≤ sizeLine; omega, fun b nb => ?_⟩
        have sb : Same H5 (upd H5 b (.tup [.int ((rvs.length : Nat) : Int), .int 0])) := same_upd nb
        refine ⟨_, rfl, dPl (rs.length, 0), z.2.map dPl, ?_, dp_places (pz.same sb), shaped_pl _, shaped_pls _, ?_⟩
        · rw [vl]
          exact dp_pair upd_same
        · rw [any_pl]
          refine ⟨_, sb _ _ e5, by rw [List.length_map, List.length_take, List.length_map]; omega, ?_, ?_⟩
          · exact fun y o u => by rw [upd_ne (ne_of_none u nD)]; exact sb _ _ (s5 _ _ u)
          · rw [upd_same, List.take_add_one, hs, List.map_append]
            rfl
      · obtain ⟨s5, e5⟩ := hP2
        rw [List.length_map, List.take_of_length_le (by rw [List.length_map]; exact Nat.le_refl _)] at e5
        exact ⟨D, rfl, s5, e5⟩
    rintro σ8 H8 ⟨lw, rfl, s8, e8⟩
    refine ⟨_, rfl, lw, _, rfl, .inl ⟨.of e8, fun tw nw => ?_⟩⟩
    have sw : Same H8 (upd H8 tw (.tup ((stsOf zs).map fun p => V.bl (decide ((rs.length, 0) ∈ p))))) := same_upd nw
    refine ⟨_, rfl, lm, _, rfl, .inl ⟨.of (sw _ _ (s8 _ _ M.m)), fun tm nm2 => ⟨by show 2 ≤ sizeLine; omega, fun t nt => ?_⟩⟩⟩
    have st := (same_upd nm2 (o := .tup (ra.map V.ref))).trans (same_upd nt (o := .tup [.ref tw, .ref tm]))
    have sa := (s8.trans sw).trans st
    refine q _ t (M.s.trans sa) ?_ ⟨tw, tm, stsOf zs, ra, upd_same, st _ _ upd_same, same_upd nt _ _ upd_same, pairedI ro fun _ _ z => sa _ _ z, M.st, cl⟩
    exact none_back (((M.s.trans s8).trans sw).trans (same_upd nm2)) nt
end
end K0
end
/-! ### A2b -/
section
set_option Elab.async false
set_option linter.all false
set_option maxRecDepth 100000
set_option maxHeartbeats 4000000
/-! is_number, is_sign (k01's, other places of the top). -/
namespace K0
open PySem PySem.Spec PyProof.Rows L2
theorem scNum : FnScope ["value", "low", "high"] ["value", "low", "high"] (defScope (top iNum)) := ⟨rfl, rfl, rfl, by decide +kernel, rfl, by decide +kernel, by decide +kernel⟩
theorem scSign : FnScope ["value"] ["value"] (defScope (top iSign)) := ⟨rfl, rfl, rfl, by decide +kernel, rfl, by decide +kernel, by decide +kernel⟩
section
variable {P : Program} {w : World} {K : PySem.W.Frag} {mg : Str → Option Value} {base : Heap} {f : Addr} {fd : FuncData}
theorem ok_num {k : Nat} (F : FnP K "is_number" iNum f fd) (misi : mg "isinstance" = none) (mint : mg "int" = none) (mbool : mg "bool" = none) : FnOk P w K mg base CX0 (k + 1) f fd ["value", "low", "high"] (spNum K) := by
  refine F.ok scNum (fun vs H Q E h => ?_) (fun cdv A outer s H vs Q E hr h => ?_)
  · obtain ⟨v, d, lo, hi, rfl, _⟩ := h
    rfl
  · obtain ⟨v, d, lo, hi, rfl, hd, q⟩ := h
    refine ⟨_, PSs.nox (pss_one (ps_ret (pe_and (pe_callB call_isi (by rfl) misi boot_isinstance (pa_cons (pv 0) (pa_cons (pe_bltn (v := .ty "int") (by rfl) mint (by decide +kernel) rfl) pa_nil))) (pe_and (pe_not (pe_callB call_isi (by rfl) misi boot_isinstance (pa_cons (pv 0) (pa_cons (pe_bltn (v := .ty "bool") (by rfl) mbool (by decide +kernel) rfl) pa_nil))))
      (pe_one (pe_chain op_le op_le (pv 1) (pv 0) (pv 2))))))), ?_⟩
    refine ⟨_, rfl, v, _, _, _, _, rfl, .ty _, hd.ty, kit_int d, _, rfl, ite2 (fun e => ?_) (fun e => ?_)⟩
    · refine ⟨_, rfl, v, _, _, _, _, rfl, .ty _, hd.ty, kit_bool d, _, rfl, _, rfl, ite2 (fun e2 => ?_) (fun e2 => ?_)⟩
      · cases hd with
        | int i =>
          refine ⟨_, rfl, _, rfl, _, _, rfl, rfl, _, rfl, ite2 (fun e3 => ?_) (fun e3 => ?_)⟩
          · refine ⟨_, rfl, _, _, rfl, rfl, ?_⟩
            have y : isNumD lo hi (.int i) = decide (i ≤ hi) := by
              show (decide (lo ≤ i) && decide (i ≤ hi)) = _
              rw [e3, Bool.true_and]
            rw [y] at q
            exact q
          · have y : isNumD lo hi (.int i) = false := by
              show (decide (lo ≤ i) && decide (i ≤ hi)) = _
              rw [Bool.eq_false_iff.mpr e3, Bool.false_and]
            rw [y] at q
            exact q
        | bl b => exact absurd (show (false = true) from e2) Bool.false_ne_true
        | _ => cases e
      · cases hd with
        | bl b => exact q
        | _ => first | exact absurd rfl e2 | cases e
    · cases hd with
      | int i => exact absurd rfl e
      | _ => exact q
theorem ok_sign {k : Nat} (F : FnP K "is_sign" iSign f fd) (misi : mg "isinstance" = none) (mstr : mg "str" = none) (mlen : mg "len" = none) (ms : ∃ t, mg "SIGNS" = some (.str allSigns t)) : FnOk P w K mg base CX0 (k + 1) f fd ["value"] (spD K isSignD) := by
  refine F.ok scSign (fun vs H Q E h => ?_) (fun cdv A outer s H vs Q E hr h => ?_)
  · obtain ⟨v, d, rfl, _⟩ := h
    rfl
  · obtain ⟨v, d, rfl, hd, sz, q⟩ := h
    obtain ⟨t, ms⟩ := ms
    refine ⟨_, PSs.nox (pss_one (ps_ret (pe_and (pe_callB call_isi (by rfl) misi boot_isinstance (pa_cons (pv 0) (pa_cons (pe_bltn (v := .ty "str") (by rfl) mstr (by decide +kernel) rfl) pa_nil))) (pe_and (pe_cmpR op_eq (pe_callB call_len (by rfl) mlen PySem.boot_len (pa_cons (pv 0) pa_nil)) pe_int (nomark _))
      (pe_one (pe_cmpR op_inS (pv 0) (pe_glob (v := .str allSigns) (by rfl) ms ⟨t, rfl⟩) (by rfl))))))), ?_⟩
    refine ⟨_, rfl, v, _, _, _, _, rfl, .ty _, hd.ty, kit_str d, _, rfl, ite2 (fun e => ?_) (fun e => ?_)⟩
    · obtain ⟨z, rfl, rfl⟩ := is_str hd e
      refine ⟨_, rfl, _, z.length, rfl, ⟨Nat.le_of_lt (small5 sz), rfl⟩, rfl, _, rfl, ite2 (fun e2 => ?_) (fun e2 => ?_)⟩
      · have z1 : z.length = 1 := by
          have y := of_decide_eq_true e2
          injection y with y
          omega
        obtain ⟨c, rfl⟩ := one_cp z1
        refine ⟨_, rfl, c, allSigns, rfl, rfl, ?_⟩
        have y : isSignD (.str ⟨#[c]⟩) = decide (c ∈ allSigns.cps.toList) := by
          show (decide ((1 : Nat) = 1) && ([c].all fun c => allSigns.cps.contains c)) = _
          rw [← sg_mem]
          simp
        rw [← y]
        exact q H (Same.refl H)
      · have y : isSignD (.str z) = false := by
          have z1 : z.length ≠ 1 := fun x => e2 (decide_eq_true (by rw [x]; rfl))
          show (decide (z.length = 1) && sgAll z) = false
          rw [decide_eq_false z1, Bool.false_and]
        have q2 := q H (Same.refl H)
        rw [y] at q2
        exact q2
    · have q2 := q H (Same.refl H)
      rw [(not_str e).2] at q2
      exact q2
end
end K0
end
/-! ### A4 -/
section
set_option Elab.async false
set_option linter.all false
set_option maxRecDepth 100000
set_option maxHeartbeats 4000000
/-! are_signs: ascending tuples of signs. -/
namespace K0
open PySem PySem.Spec PyProof.Rows L2
def ltD : PyData → PyData → Bool
  | .str a, .str b => decide (a.cps.toList < b.cps.toList)
  | _, _ => false
def ltP (ds : List PyData) : List Bool := (ds.zip (ds.drop 1)).map fun p => ltD p.1 p.2
def areSignsD : PyData → Bool
  | .tuple ds => ds.all isSignD && (ltP ds).all id
  | _ => false
theorem walk_pairT {K : PySem.W.Frag} {a b : Addr} {xs ys : List V} {n : Nat} (small : n = min xs.length ys.length) : Walk (RZ.ItzT K a b) n (fun H => SqT K H a xs ∧ SqT K H b ys) (YPair (fun i => xs[i]?) (fun i => ys[i]?)) := by
  subst small
  refine ⟨fun i _ lt g => ?_, fun _ g => ⟨xs, ys, g.1, g.2, by omega⟩, fun i H v H' _ g y => ?_⟩
  · exact ⟨xs, ys, xs[i]'(by omega), ys[i]'(by omega), g.1, g.2, by simp, by simp⟩
  · obtain ⟨T, x, z, h1, h2, h3, h4, h5⟩ := y
    exact ⟨T, x, z, h1, h2, h3, h4 xs g.1, h5 ys g.2⟩
theorem bulk_mem {d : PyData} : ∀ {ds : List PyData}, d ∈ ds → d.bulk ≤ PyData.bulkAll ds
  | e :: ds, h => by
    rw [PyData.bulkAll]
    rcases List.mem_cons.mp h with rfl | h
    · omega
    · have := bulk_mem h
      omega
theorem bulk_len : ∀ ds : List PyData, ds.length ≤ PyData.bulkAll ds
  | [] => Nat.zero_le _
  | e :: ds => by
    have := bulk_len ds
    rw [PyData.bulkAll, List.length_cons]
    omega
theorem not_tup {d : PyData} (h : ¬ isTupD d = true) : areSignsD d = false := by
  cases d <;> first | rfl | exact absurd rfl h
theorem is_tup {K : PySem.W.Frag} {H : Hp} {v : V} {d : PyData} (hd : Dv K H v d) (h : isTupD d = true) : ∃ a xs ds, v = .ref a ∧ d = .tuple ds ∧ SqT K H a xs ∧ DvAll K H xs ds := by
  cases hd with
  | tup h1 h2 => exact ⟨_, _, _, rfl, rfl, h1, h2⟩
  | _ => cases h
theorem sign_str {d : PyData} (h : isSignD d = true) : ∃ z, d = .str z := by
  cases d <;> first | exact ⟨_, rfl⟩ | cases h
theorem ltP_get {ds : List PyData} {m : Nat} {d e : PyData} (h1 : ds[m]? = some d) (h2 : ds[m + 1]? = some e) : (ltP ds)[m]? = some (ltD d e) := by
  unfold ltP
  rw [List.getElem?_map, (List.getElem?_zip_eq_some (z := (d, e))).mpr ⟨h1, by rw [List.getElem?_drop, Nat.add_comm]; exact h2⟩]
  rfl
theorem ltP_len (ds : List PyData) : (ltP ds).length = ds.length - 1 := by
  unfold ltP
  rw [List.length_map, List.length_zip, List.length_drop]
  omega
theorem bl_take {bs : List Bool} {m : Nat} {b : Bool} (h : bs[m]? = some b) : (bs.take (m + 1)).map V.bl = (bs.take m).map V.bl ++ [V.bl b] := by
  rw [List.take_add_one, h, List.map_append]
  rfl
theorem drop_one_same {xs : List V} (h : HT.sIx xs.length 0 (some 1) = 0) : xs.drop 1 = xs := by
  cases xs with
  | nil => rfl
  | cons x r =>
    have z : HT.sIx (x :: r).length 0 (some ((1 : Nat) : Int)) = 0 := h
    rw [HT.sIx_nat, List.length_cons] at z
    omega
theorem cutV_one (xs : List V) : cutV xs (some 1) none = xs.drop 1 := by
  show (xs.drop (HT.sIx xs.length 0 (some ((1 : Nat) : Int)))).take (HT.sIx xs.length xs.length none - HT.sIx xs.length 0 (some ((1 : Nat) : Int))) = _
  rw [HT.sIx_nat, HT.sIx_none]
  cases xs with
  | nil => rfl
  | cons x r =>
    rw [show min 1 (x :: r).length = 1 by rw [List.length_cons]; omega]
    exact List.take_of_length_le (by rw [List.length_drop]; exact Nat.le_refl _)
theorem scSigns : FnScope ["value", "sign", "following"] ["value"] (defScope (top iAreSigns)) := ⟨rfl, rfl, rfl, by decide +kernel, rfl, by decide +kernel, by decide +kernel⟩
section
variable {P : Program} {w : World} {K : PySem.W.Frag} {mg : Str → Option Value} {base : Heap} {f fS : Addr} {fd fdS : FuncData}
theorem ok_signs {k : Nat} (F : FnP K "are_signs" iAreSigns f fd) (misi : mg "isinstance" = none) (mtup : mg "tuple" = none) (mall : mg "all" = none) (mzip : mg "zip" = none)
    (FS : FnOk P w K mg base CX0 (k + 1) fS fdS ["value"] (spD K isSignD)) (gS : mg "is_sign" = some (.ref fS)) (kS : PySem.W.keepIn K (.ref fS) = true) (bS : Binds K fdS ["value"] []) : FnOk P w K mg base CX0 (k + 2) f fd ["value"] (spD K areSignsD) := by
  refine F.ok scSigns (fun vs H Q E h => ?_) (fun cdv A outer s H vs Q E hr h => ?_)
  · obtain ⟨v, d, rfl, _⟩ := h
    rfl
  · obtain ⟨v, d, rfl, hd, sz, q⟩ := h
    refine ⟨_, PSs.nox (pss_cons (ps_if (PW.pt (pw_or (pt_not (pt_val (pe_callB call_isi (by rfl) misi boot_isinstance (pa_cons (pv 0) (pa_cons (pe_bltn (v := .ty "tuple") (by rfl) mtup (by decide +kernel) rfl) pa_nil)))))
        (pw_or1 (pt_not (pt_val (pe_callB (cr_all rfl) (by rfl) mall (by decide +kernel) (pa_cons (pe_lc (own := [("sign", 1)]) (g := gName 1) (tt := tYes) rfl scSigns.nd (pi_tup (pv 0)) (blkOk_by (N := ["value", "sign", "following"]) (sc := defScope (top iAreSigns)) (by decide +kernel)) (fun _ _ _ _ _ => pg_name (i := 1) scSigns.nd rfl (Or.inl rfl))
        (fun _ _ _ _ _ => pts_nil) (fun _ _ _ _ _ => pe_call FS hr (by rfl) gS kS bS .nil pass0 (pa_cons (pv 1) pa_nil))) pa_nil))))))) (pss_one (ps_ret pe_bl)) pss_nil)
      (pss_one (ps_ret (pe_callB (cr_all rfl) (by rfl) mall (by decide +kernel) (pa_cons (pe_lc (own := [("sign", 1), ("following", 2)]) (g := gTup K 2 (gCons (gName 1) (gCons (gName 2) gNil))) (tt := tYes) rfl scSigns.nd (RZ.pi_zipA (by rfl) mzip (pa_cons (pv 0) (pa_cons (pe_slice sl_tupA (pv 0) (po_some pe_int) po_none) pa_nil))) (blkOk_by (N := ["value", "sign", "following"]) (sc := defScope (top iAreSigns)) (by decide +kernel))
        (fun _ _ _ _ _ => pg_tup rfl (pgs_cons (pg_name (i := 1) scSigns.nd rfl (Or.inl rfl)) (pgs_cons (pg_name (i := 2) scSigns.nd rfl (Or.inl rfl)) pgs_nil))) (fun _ _ _ _ _ => pts_nil) (fun _ _ _ _ _ => pe_cmpR op_lt_str (pv 1) (pv 2) (nomark _))) pa_nil))))), ?_⟩
    refine ⟨_, rfl, v, _, _, _, _, rfl, .ty _, hd.ty, kit_tup d, _, rfl, ite2 (fun e => ?_) (fun e => ?_)⟩
    · have q2 := q H (Same.refl H)
      rw [not_tup (fun z => by rw [z] at e; cases e)] at q2
      exact q2
    · have e2 : isTupD d = true := by
        cases z : isTupD d with
        | true => rfl
        | false => rw [z] at e; exact absurd rfl e
      obtain ⟨a, xs, ds, rfl, rfl, hT, hA⟩ := is_tup hd e2
      have sz2 : PyData.bulkAll ds ≤ 100000 := sz
      have dl := bulk_len ds
      have xl := hA.length
      refine ⟨_, rfl, a, rfl, ⟨xs, hT⟩, fun D nD => lc_it (walk_tup (xs := xs)) (fun m H' => Same H H' ∧ H' D = some (.lst (((ds.map isSignD).take m).map V.bl))) ⟨same_upd nD, upd_same⟩ (fun _ H' _ hP => same_tup hP.1 hT) (fun m x H' H'' hm hP hY => ?_) (fun H' hP => ?_)⟩
      · obtain ⟨s1, hD⟩ := hP
        obtain ⟨rfl, hx⟩ := hY
        obtain ⟨d1, h1, v1⟩ := hA.get hx
        refine ⟨rfl, _, rfl, x, d1, rfl, v1.same s1, Nat.le_trans (bulk_mem (List.mem_of_getElem? h1)) sz2, fun H3 s3 => ⟨_, s3 _ _ hD, by rw [List.length_map, List.length_take]; exact small5 (by omega), fun y o u => by rw [upd_ne (ne_of_none u nD)]; exact s3 _ _ (s1 _ _ u), ?_⟩⟩
        rw [upd_same, bl_take (by rw [List.getElem?_map, h1]; rfl)]
      · obtain ⟨s1, hD⟩ := hP
        have tk : (ds.map isSignD).take xs.length = ds.map isSignD := by rw [xl]; exact List.take_of_length_le (by rw [List.length_map]; exact Nat.le_refl _)
        rw [tk] at hD
        refine ⟨D, _, rfl, .of hD, _, rfl, ite2 (fun e3 => ?_) (fun e3 => ?_)⟩
        · have ar : areSignsD (.tuple ds) = false := by
            have z : (ds.map isSignD).all id = false := by
              cases y : (ds.map isSignD).all id with
              | false => rfl
              | true => rw [y] at e3; cases e3
            rw [List.all_map] at z
            show (ds.all isSignD && _) = false
            rw [show ds.all isSignD = false from z, Bool.false_and]
          have q2 := q H' s1
          rw [ar] at q2
          exact q2
        · have sg : ds.all isSignD = true := by
            have z : (ds.map isSignD).all id = true := by
              cases y : (ds.map isSignD).all id with
              | true => rfl
              | false => rw [y] at e3; exact absurd rfl e3
            rw [List.all_map] at z
            exact z
          have ar : areSignsD (.tuple ds) = (ltP ds).all id := by
            show (ds.all isSignD && _) = _
            rw [sg, Bool.true_and]
          have hT1 := same_tup s1 hT
          refine ⟨_, rfl, _, rfl, _, rfl, a, xs, rfl, hT1, fun hw => ?_, fun hw p np => ?_⟩
          · have e0 : xs.drop 1 = xs := drop_one_same hw.1
            have hB : SqT K H' a (xs.drop 1) := by rw [e0]; exact hT1
            refine ⟨a, a, xs, xs.drop 1, rfl, .inr ⟨hT1, hB, fun D2 nD2 => lc_it (walk_pairT (xs := xs) (ys := xs.drop 1) rfl) (fun m H5 => Same H' H5 ∧ H5 D2 = some (.lst (((ltP ds).take m).map V.bl))) ⟨same_upd nD2, upd_same⟩ (fun _ H5 _ hP => ⟨same_tup hP.1 hT1, same_tup hP.1 hB⟩) (fun m x H5 H6 hm hP hY => ?_) (fun H5 hP => ?_)⟩⟩
            · obtain ⟨s5, hD5⟩ := hP
              obtain ⟨T, x1, x2, rfl, nT, rfl, hx1, hx2⟩ := hY
              have hx2 : (xs.drop 1)[m]? = some x2 := hx2
              have hx2 : xs[m + 1]? = some x2 := by rw [List.getElem?_drop, Nat.add_comm] at hx2; exact hx2
              obtain ⟨d1, g1, v1⟩ := hA.get hx1
              obtain ⟨d2, g2, v2⟩ := hA.get hx2
              obtain ⟨z1, rfl⟩ := sign_str (List.all_eq_true.mp sg d1 (List.mem_of_getElem? g1))
              obtain ⟨z2, rfl⟩ := sign_str (List.all_eq_true.mp sg d2 (List.mem_of_getElem? g2))
              cases v1
              cases v2
              refine ⟨T, _, rfl, .of upd_same, rfl, _, _, rfl, _, _, rfl, rfl, rfl, _, rfl, _, rfl, z1, z2, rfl, rfl, _, same_upd nT _ _ hD5, by rw [List.length_map, List.length_take, ltP_len]; exact small5 (by omega), fun y o u => by rw [upd_ne (ne_of_none u nD2)]; exact same_upd nT _ _ (s5 _ _ u), ?_⟩
              rw [upd_same, bl_take (ltP_get g1 g2)]
              rfl
            · obtain ⟨s5, hD5⟩ := hP
              have tk2 : (ltP ds).take (min xs.length (xs.drop 1).length) = ltP ds := List.take_of_length_le (by rw [ltP_len, List.length_drop]; omega)
              rw [tk2] at hD5
              exact ⟨D2, _, rfl, .of hD5, by rw [← ar]; exact q H5 (s1.trans s5)⟩
          · have e0 : cutV xs (some 1) none = xs.drop 1 := cutV_one xs
            have hB : SqT K (upd H' p (.tup (cutV xs (some 1) none))) p (xs.drop 1) := by rw [← e0]; exact .of upd_same
            have sp := same_upd (o := .tup (cutV xs (some 1) none)) np
            refine ⟨a, p, xs, xs.drop 1, rfl, .inr ⟨same_tup sp hT1, hB, fun D2 nD2 => lc_it (walk_pairT (xs := xs) (ys := xs.drop 1) rfl) (fun m H5 => Same (upd H' p (.tup (cutV xs (some 1) none))) H5 ∧ H5 D2 = some (.lst (((ltP ds).take m).map V.bl))) ⟨same_upd nD2, upd_same⟩ (fun _ H5 _ hP => ⟨same_tup hP.1 (same_tup sp hT1), same_tup hP.1 hB⟩) (fun m x H5 H6 hm hP hY => ?_) (fun H5 hP => ?_)⟩⟩
            · obtain ⟨s5, hD5⟩ := hP
              obtain ⟨T, x1, x2, rfl, nT, rfl, hx1, hx2⟩ := hY
              have hx2 : (xs.drop 1)[m]? = some x2 := hx2
              have hx2 : xs[m + 1]? = some x2 := by rw [List.getElem?_drop, Nat.add_comm] at hx2; exact hx2
              obtain ⟨d1, g1, v1⟩ := hA.get hx1
              obtain ⟨d2, g2, v2⟩ := hA.get hx2
              obtain ⟨z1, rfl⟩ := sign_str (List.all_eq_true.mp sg d1 (List.mem_of_getElem? g1))
              obtain ⟨z2, rfl⟩ := sign_str (List.all_eq_true.mp sg d2 (List.mem_of_getElem? g2))
              cases v1
              cases v2
              refine ⟨T, _, rfl, .of upd_same, rfl, _, _, rfl, _, _, rfl, rfl, rfl, _, rfl, _, rfl, z1, z2, rfl, rfl, _, same_upd nT _ _ hD5, by rw [List.length_map, List.length_take, ltP_len]; exact small5 (by omega), fun y o u => by rw [upd_ne (ne_of_none u nD2)]; exact same_upd nT _ _ (s5 _ _ u), ?_⟩
              rw [upd_same, bl_take (ltP_get g1 g2)]
              rfl
            · obtain ⟨s5, hD5⟩ := hP
              have tk2 : (ltP ds).take (min xs.length (xs.drop 1).length) = ltP ds := List.take_of_length_le (by rw [ltP_len, List.length_drop]; omega)
              rw [tk2] at hD5
              exact ⟨D2, _, rfl, .of hD5, by rw [← ar]; exact q H5 ((s1.trans sp).trans s5)⟩
end
end K0
end
/-! ### IR -/
section
set_option Elab.async false
set_option linter.all false
set_option maxRecDepth 100000
set_option maxHeartbeats 4000000
/-! is_run. -/
namespace K0
open PySem PySem.Spec PyProof.Rows L2
def lowOf : PyData → Int
  | .int l => if 1 > l then 1 else l
  | _ => 1
def isHighD (l : Int) : PyData → Bool
  | .none => true
  | d => isNumD l 3 d
def noneIn : PyData → Bool
  | .tuple [] => true
  | _ => false
def isRunD : PyData → Bool
  | .tuple [s, l, h] => areSignsD s && !noneIn s && isNumD 0 3 l && isHighD (lowOf l) h
  | _ => false
theorem scIsRun : FnScope ["value", "signs", "low", "high"] ["value"] (defScope (top iIsRun)) := ⟨rfl, rfl, rfl, by decide +kernel, rfl, by decide +kernel, by decide +kernel⟩
theorem not_tup_run {d : PyData} (h : ¬ isTupD d = true) : isRunD d = false := by
  cases d <;> first | rfl | exact absurd rfl h
theorem not_three {ds : List PyData} (h : ds.length ≠ 3) : isRunD (.tuple ds) = false := by
  match ds, h with
  | [], _ => rfl
  | [_], _ => rfl
  | [_, _], _ => rfl
  | [_, _, _], h => exact absurd rfl h
  | _ :: _ :: _ :: _ :: _, _ => rfl
theorem three {ds : List PyData} (h : ds.length = 3) : ∃ s l e, ds = [s, l, e] := by
  match ds, h with
  | [s, l, e], _ => exact ⟨s, l, e, rfl⟩
section
variable {P : Program} {w : World} {K : PySem.W.Frag} {mg : Str → Option Value} {base : Heap} {f fS fN : Addr} {fd fdS fdN : FuncData}
theorem ok_isRun {k : Nat} (F : FnP K "is_run" iIsRun f fd) (misi : mg "isinstance" = none) (mtup : mg "tuple" = none) (mlen : mg "len" = none) (mmax : mg "max" = none) (mR : ∃ t, mg "MAX_REPEATS" = some (.int 3 t))
    (FS : FnOk P w K mg base CX0 (k + 2) fS fdS ["value"] (spD K areSignsD)) (gS : mg "are_signs" = some (.ref fS)) (kS : PySem.W.keepIn K (.ref fS) = true) (bS : Binds K fdS ["value"] [])
    (FN : FnOk P w K mg base CX0 (k + 2) fN fdN ["value", "low", "high"] (spNum K)) (gN : mg "is_number" = some (.ref fN)) (kN : PySem.W.keepIn K (.ref fN) = true) (bN : Binds K fdN ["value", "low", "high"] []) :
    FnOk P w K mg base CX0 (k + 3) f fd ["value"] (spD K isRunD) := by
  refine F.ok scIsRun (fun vs H Q E h => ?_) (fun cdv A outer s H vs Q E hr h => ?_)
  · obtain ⟨v, d, rfl, _⟩ := h
    rfl
  · obtain ⟨v, d, rfl, hd, sz, q⟩ := h
    obtain ⟨tR, mR⟩ := mR
    refine ⟨_, PSs.nox (pss_cons (ps_if (PW.pt (pw_or (pt_not (pt_val (pe_callB call_isi (by rfl) misi boot_isinstance (pa_cons (pv 0) (pa_cons (pe_bltn (v := .ty "tuple") (by rfl) mtup (by decide +kernel) rfl) pa_nil)))))
          (pw_or1 (pt_cmpR op_ne (pe_callB call_len_seq (by rfl) mlen PySem.boot_len (pa_cons (pv 0) pa_nil)) pe_int (nomark _))))) (pss_one (ps_ret pe_bl)) pss_nil)
      (pss_cons (ps_asg (pv 0) (pg_tup rfl (pgs_cons (pg_name (i := 1) scIsRun.nd rfl (.inl rfl)) (pgs_cons (pg_name (i := 2) scIsRun.nd rfl (.inl rfl)) (pgs_cons (pg_name (i := 3) scIsRun.nd rfl (.inl rfl)) pgs_nil)))))
      (pss_cons (ps_if (PW.pt (pw_or (pt_not (pt_val (pe_call FS hr (by rfl) gS kS bS .nil pass0 (pa_cons (pv 1) pa_nil))))
          (pw_or (pt_not (pt_truth (pv 1) (by intro _; rfl)))
          (pw_or1 (pt_not (pt_val (pe_call FN hr (by rfl) gN kN bN .nil pass0 (pa_cons (pv 2) (pa_cons pe_int (pa_cons (pe_glob (v := .int 3) (by rfl) mR ⟨tR, rfl⟩) pa_nil)))))))))) (pss_one (ps_ret pe_bl)) pss_nil)
      (pss_one (ps_ret (pe_or (pe_cmp (pc_isN (pv 3)) rfl) (pe_one (pe_call FN hr (by rfl) gN kN bN .nil pass0 (pa_cons (pv 3) (pa_cons (pe_callB (call_max2 rfl) (by rfl) mmax (by decide +kernel) (pa_cons (pv 2) (pa_cons pe_int pa_nil))) (pa_cons (pe_glob (v := .int 3) (by rfl) mR ⟨tR, rfl⟩) pa_nil)))))))))))
      , ?_⟩
    refine ⟨_, rfl, v, _, _, _, _, rfl, .ty _, hd.ty, kit_tup d, _, rfl, ite2 (fun e => ?_) (fun e => ?_)⟩
    · have q2 := q H (Same.refl H)
      rw [not_tup_run (fun z => by rw [z] at e; cases e)] at q2
      exact q2
    have e2 : isTupD d = true := by
      cases z : isTupD d with
      | true => rfl
      | false => rw [z] at e; exact absurd rfl e
    obtain ⟨a, xs, ds, rfl, rfl, hT, hA⟩ := is_tup hd e2
    have sz2 : PyData.bulkAll ds ≤ 100000 := sz
    have xl := hA.length
    refine ⟨_, rfl, a, xs, rfl, .inr hT, rfl, _, rfl, ite2 (fun e3 => ?_) (fun e3 => ?_)⟩
    · have q2 := q H (Same.refl H)
      rw [not_three (fun z => by
        rw [← xl] at z
        rw [z] at e3
        exact absurd e3 (by decide))] at q2
      exact q2
    have l3 : ds.length = 3 := by
      by_cases z : ds.length = 3
      · exact z
      · refine absurd ?_ e3
        have z2 : ¬ (V.int ((xs.length : Nat) : Int) = V.int 3) := fun y => by
          injection y with y
          omega
        rw [decide_eq_false z2]
        rfl
    obtain ⟨ds1, dl, dh, rfl⟩ := three l3
    cases hA with
    | cons h1 hA =>
    cases hA with
    | cons h2 hA =>
    cases hA with
    | cons h3 hA =>
    cases hA
    rename_i v1 v2 v3
    rw [PyData.bulkAll, PyData.bulkAll, PyData.bulkAll] at sz2
    refine ⟨_, rfl, a, _, rfl, hT, rfl, v1, _, rfl, v2, _, rfl, v3, _, rfl, rfl, ?_⟩
    refine ⟨_, rfl, v1, ds1, rfl, h1, by omega, fun H1 s1 => ⟨_, rfl, ?_⟩⟩
    have q2 := fun H' z => q H' z
    have qr : isRunD (.tuple [ds1, dl, dh]) = (areSignsD ds1 && !noneIn ds1 && isNumD 0 3 dl && isHighD (lowOf dl) dh) := rfl
    rw [qr] at q2
    refine ite2 (fun e4 => ?_) (fun e4 => ?_)
    · have z : areSignsD ds1 = false := by
        cases y : areSignsD ds1 with
        | false => rfl
        | true => rw [y] at e4; cases e4
      rw [z] at q2
      exact q2 H1 s1
    have sg : areSignsD ds1 = true := by
      cases y : areSignsD ds1 with
      | true => rfl
      | false => rw [y] at e4; exact absurd rfl e4
    have t1 : isTupD ds1 = true := by
      cases ds1 <;> first | rfl | cases sg
    obtain ⟨a1, xs1, es, rfl, rfl, hT1, hA1⟩ := is_tup h1 t1
    rw [sg] at q2
    refine ⟨_, rfl, _, .inr (.inl ⟨xs1, same_tup s1 hT1, rfl⟩), ite2 (fun e5 => ?_) (fun e5 => ?_)⟩
    · have z : noneIn (.tuple es) = true := by
        cases hA1 with
        | nil => rfl
        | cons _ _ => cases e5
      rw [z] at q2
      exact q2 H1 s1
    have z : noneIn (.tuple es) = false := by
      cases hA1 with
      | nil => exact absurd rfl e5
      | cons _ _ => rfl
    rw [z] at q2
    refine ⟨_, rfl, v2, dl, 0, 3, rfl, h2.same' s1, _, rfl, ite2 (fun e6 => ?_) (fun e6 => ?_)⟩
    · have z : isNumD 0 3 dl = false := by
        cases y : isNumD 0 3 dl with
        | false => rfl
        | true => rw [y] at e6; cases e6
      rw [z] at q2
      exact q2 H1 s1
    have n2 : isNumD 0 3 dl = true := by
      cases y : isNumD 0 3 dl with
      | true => rfl
      | false => rw [y] at e6; exact absurd rfl e6
    rw [n2] at q2
    cases h2 with
    | int i =>
      refine ⟨_, rfl, _, rfl, ite2 (fun e7 => ?_) (fun e7 => ?_)⟩
      · have e7 : v3 = .non := of_decide_eq_true e7
        subst e7
        cases h3
        exact q2 H1 s1
      · have e7 : v3 ≠ .non := fun y => e7 (decide_eq_true y)
        refine ⟨_, rfl, _, rfl, _, _, rfl, v3, dh, _, 3, rfl, h3.same' s1, ?_⟩
        have z : isHighD (lowOf (.int i)) dh = isNumD (if 1 > i then 1 else i) 3 dh := by
          cases h3 <;> first | rfl | exact absurd rfl e7
        rw [z] at q2
        exact q2 H1 s1
    | _ => cases n2
end
end K0
end
/-! ### HC -/
section
set_option Elab.async false
set_option linter.all false
set_option maxRecDepth 100000
set_option maxHeartbeats 4000000
/-! Hole.__init__. -/
namespace K0
open PySem PySem.Spec PyProof.Rows L2 Rd DN
def clsBody (s : Stmt) : List Stmt := match s with
  | .ClassDef (body := b) .. => b
  | _ => []
/-- the j-th row of the class Hole -/
def hrow (j : Nat) : Stmt := (clsBody (top 29)).getD j (.Pass ⟨0, 0, 0, 0⟩)
abbrev HrP (K : PySem.W.Frag) (x q : Str) (j : Nat) (f : Addr) (fd : FuncData) : Prop := FunD K x q (defArgs (hrow j)) (defBody (hrow j)) (defScope (hrow j)) [] [] f fd
theorem scHInit : FnScope ["self", "runs", "run"] ["self", "runs"] (defScope (hrow 0)) := ⟨rfl, rfl, rfl, by decide +kernel, rfl, by decide +kernel, by decide +kernel⟩
/-- what the written part says of Hole and InvalidHole -/
structure HoleK (K : PySem.W.Frag) (CH CE : Addr) : Prop where
  cls : Cls K CH
  nr : NoAttr K CH "_runs"
  nd : NoAttr K CH "_reader"
  exc : PySem.W.excIn K CE He.veBase "ValueError.__new__" = true
  kp : PySem.W.keepIn K (.ref CE) = true
  sub : PySem.W.subIn K (.ref CE) (.type "BaseException") = some true
  ty : PySem.W.typeIn K (.ref CE) = some (.type "type")
/-- what Hole is made of -/
def holeD (ds : List PyData) : Bool := decide (1 ≤ ds.length) && decide (ds.length ≤ 4) && ds.all isRunD
/-- runs' data as plain runs -/
def sgD : PyData → Nat
  | .str z => codeS z
  | _ => 0
def sgsD : PyData → List Nat
  | .tuple ds => ds.map sgD
  | _ => []
def numD : PyData → Nat
  | .int i => i.toNat
  | _ => 0
def hiD : PyData → Option Nat
  | .int i => some i.toNat
  | _ => none
def runD : PyData → RunD
  | .tuple [s, l, h] => ⟨sgsD s, numD l, hiD h⟩
  | _ => ⟨[], 0, none⟩
theorem sign_one {d : PyData} (h : isSignD d = true) : d = .str (oneS (sgD d)) := by
  obtain ⟨z, rfl⟩ := sign_str h
  obtain ⟨h1, _⟩ := Bool.and_eq_true_iff.mp (show (decide (z.length = 1) && sgAll z) = true from h)
  obtain ⟨c, rfl⟩ := one_cp (of_decide_eq_true h1)
  rfl
theorem signs_at {K : PySem.W.Frag} {H : Hp} : ∀ {ds : List PyData} {xs : List V}, DvAll K H xs ds → ds.all isSignD = true → xs = (ds.map sgD).map oneV
  | [], _, h, _ => by cases h; rfl
  | d :: ds, _, h, a => by
    cases h with
    | cons h1 h2 =>
      rw [List.all_cons, Bool.and_eq_true] at a
      rw [List.map_cons, List.map_cons, ← signs_at h2 a.2]
      congr 1
      have e := sign_one a.1
      rw [e] at h1
      cases h1
      rfl
theorem run_at {K : PySem.W.Frag} {H : Hp} {v : V} {d : PyData} (h : Dv K H v d) (r : isRunD d = true) : RunAt K H v (runD d) ∧ GoodR (runD d) := by
  have t : isTupD d = true := by
    cases d <;> first | rfl | cases r
  obtain ⟨a, xs, ds, rfl, rfl, hT, hA⟩ := is_tup h t
  have l3 : ds.length = 3 := by
    by_cases z : ds.length = 3
    · exact z
    · rw [not_three z] at r; cases r
  obtain ⟨s, l, e, rfl⟩ := three l3
  have r : (areSignsD s && !noneIn s && isNumD 0 3 l && isHighD (lowOf l) e) = true := r
  rw [Bool.and_eq_true, Bool.and_eq_true, Bool.and_eq_true] at r
  obtain ⟨⟨⟨r1, _⟩, r2⟩, r3⟩ := r
  cases hA with
  | cons h1 hA =>
  cases hA with
  | cons h2 hA =>
  cases hA with
  | cons h3 hA =>
  cases hA
  have t1 : isTupD s = true := by
    cases s <;> first | rfl | cases r1
  obtain ⟨a1, xs1, es, rfl, rfl, hT1, hA1⟩ := is_tup h1 t1
  have r1 : (es.all isSignD && (ltP es).all id) = true := r1
  have sg := (Bool.and_eq_true_iff.mp r1).1
  have e1 := signs_at hA1 sg
  cases h2 with
  | int i =>
    have r2 : (decide (0 ≤ i) && decide (i ≤ 3)) = true := r2
    rw [Bool.and_eq_true, decide_eq_true_iff, decide_eq_true_iff] at r2
    have ei : (((i.toNat : Nat) : Int)) = i := Int.toNat_of_nonneg r2.1
    have low3 : i.toNat ≤ 3 := by omega
    cases h3 with
    | non =>
      refine ⟨⟨a, a1, rfl, ?_, by rw [e1] at hT1; exact hT1⟩, ⟨low3, low3⟩⟩
      show SqT K H a [.ref a1, .int ((i.toNat : Nat) : Int), .non]
      rw [ei]
      exact hT
    | int j =>
      have r3 : (decide ((if 1 > i then 1 else i) ≤ j) && decide (j ≤ 3)) = true := r3
      rw [Bool.and_eq_true, decide_eq_true_iff, decide_eq_true_iff] at r3
      have ej : (((j.toNat : Nat) : Int)) = j := Int.toNat_of_nonneg (by
        have := r3.1
        split at this <;> omega)
      refine ⟨⟨a, a1, rfl, ?_, by rw [e1] at hT1; exact hT1⟩, ⟨low3, ?_⟩⟩
      · show SqT K H a [.ref a1, .int ((i.toNat : Nat) : Int), .int ((j.toNat : Nat) : Int)]
        rw [ei, ej]
        exact hT
      · show j.toNat ≤ 3
        omega
    | _ => cases r3
  | _ => cases r2
theorem runs_at {K : PySem.W.Frag} {H : Hp} : ∀ {ds : List PyData} {xs : List V}, DvAll K H xs ds → ds.all isRunD = true → Paired (RunAt K H) xs (ds.map runD) ∧ ∀ r ∈ ds.map runD, GoodR r
  | [], _, h, _ => by cases h; exact ⟨.nil, fun r hr => by cases hr⟩
  | d :: ds, _, h, a => by
    cases h with
    | cons h1 h2 =>
      rw [List.all_cons, Bool.and_eq_true] at a
      obtain ⟨i1, i2⟩ := runs_at h2 a.2
      obtain ⟨j1, j2⟩ := run_at h1 a.1
      refine ⟨.cons j1 i1, fun r hr => ?_⟩
      rcases List.mem_cons.mp hr with rfl | hr
      · exact j2
      · exact i2 r hr
theorem hole_good {ds : List PyData} {K : PySem.W.Frag} {H : Hp} {xs : List V} (h : DvAll K H xs ds) (o : holeD ds = true) : Good (ds.map runD) := by
  unfold holeD at o
  rw [Bool.and_eq_true, Bool.and_eq_true, decide_eq_true_iff, decide_eq_true_iff] at o
  exact ⟨by rw [List.length_map]; exact o.1.2, (runs_at h o.2).2⟩
theorem ReaderAt.keep {H H' : Hp} {t : Addr} {rs : List RunD} (h : ReaderAt H t rs) (k : ∀ y o, H y = some o → ((∃ xs, o = .tup xs) ∨ ∃ kvs, o = .dK kvs) → H' y = some o) : ReaderAt H' t rs := by
  obtain ⟨tw, tm, sts, ra, h1, h2, h3, h4, h5⟩ := h
  exact ⟨tw, tm, sts, ra, k _ _ h1 (.inl ⟨_, rfl⟩), k _ _ h2 (.inl ⟨_, rfl⟩), k _ _ h3 (.inl ⟨_, rfl⟩), pairedI h4 fun _ _ z => k _ _ z (.inr ⟨_, rfl⟩), h5⟩
theorem sqT_put {K : PySem.W.Frag} {H : Hp} {x C dx a : Addr} {fs : List (Str × V)} {xs : List V} {o : HO} (e : H x = some (.ins C dx fs)) (h : SqT K H a xs) : SqT K (upd H x o) a xs := by
  rcases h with (h | ⟨ob, h⟩) | h
  · exact .inl (.inl (by rw [upd_ne (ne_of h e (fun z => nomatch z))]; exact h))
  · exact .inl (.inr ⟨ob, by rw [upd_ne (ne_of h e (fun z => nomatch z))]; exact h⟩)
  · exact .inr h
theorem RunAt.put {K : PySem.W.Frag} {H : Hp} {x C dx : Addr} {fs : List (Str × V)} {o : HO} {v : V} {r : RunD} (e : H x = some (.ins C dx fs)) (h : RunAt K H v r) : RunAt K (upd H x o) v r := by
  obtain ⟨a, b, e1, h1, h2⟩ := h
  exact ⟨a, b, e1, sqT_put e h1, sqT_put e h2⟩
theorem RunsAt.put {K : PySem.W.Frag} {H : Hp} {x C dx a : Addr} {fs : List (Str × V)} {o : HO} {rs : List RunD} (e : H x = some (.ins C dx fs)) (h : RunsAt K H a rs) : RunsAt K (upd H x o) a rs := by
  obtain ⟨vs, h1, h2⟩ := h
  exact ⟨vs, sqT_put e h1, pairedI h2 fun _ _ z => z.put e⟩
theorem len_false {n : Nat} {ds : List PyData} (h : ¬ (1 ≤ ds.length ∧ ds.length ≤ 4)) : holeD ds = false := by
  cases z : holeD ds with
  | false => rfl
  | true =>
    unfold holeD at z
    rw [Bool.and_eq_true, Bool.and_eq_true, decide_eq_true_iff, decide_eq_true_iff] at z
    exact absurd z.1 h
def spInit (K : PySem.W.Frag) (CH CE : Addr) : Sp := fun vs H Q E => ∃ (x dx p : Addr) (xs : List V) (ds : List PyData), vs = [.ref x, .ref p] ∧ H x = some (.ins CH dx []) ∧ SqT K H p xs ∧ DvAll K H xs ds ∧ PyData.bulkAll ds ≤ 100000 ∧
  (holeD ds = true → ∀ H' t, Same H H' → H t = none → ReaderAt H' t (ds.map runD) → Q .non (upd H' x (.ins CH dx [("_runs", .ref p), ("_reader", .ref t)]))) ∧ (holeD ds = false → ∀ H', Same H H' → E (.ref CE) none H')
section
variable {P : Program} {w : World} {K : PySem.W.Frag} {mg : Str → Option Value} {base : Heap} {f fR fI CH CE : Addr} {fd fdR fdI : FuncData}
theorem ok_hinit {k : Nat} (F : HrP K "__init__" "Hole.__init__" 0 f fd) (T : HoleK K CH CE) (mlen : mg "len" = none) (mall : mg "all" = none) (gE : mg "InvalidHole" = some (.ref CE)) (mM : ∃ t, mg "MAX_RUNS" = some (.int 4 t))
    (FI : FnOk P w K mg base CX0 (k + 3) fI fdI ["value"] (spD K isRunD)) (gI : mg "is_run" = some (.ref fI)) (kI : PySem.W.keepIn K (.ref fI) = true) (bI : Binds K fdI ["value"] [])
    (FR : FnOk P w K mg base CX0 (k + 3) fR fdR ["runs"] (spReader K)) (gR : mg "reader_of" = some (.ref fR)) (kR : PySem.W.keepIn K (.ref fR) = true) (bR : Binds K fdR ["runs"] []) :
    FnR P w K mg base (L2.CX P w) (k + 4) f (fun vs H Q E => ∃ ws rest, vs = ws ++ rest ∧ ws.length = 1 ∧ rest.length ≤ sizeLine ∧ ∀ p, H p = Option.none → spInit K CH CE (ws ++ [V.ref p]) (upd H p (.tup rest)) Q E) := by
  obtain ⟨oc, od, dV, kV, doc, pm, an, cdv, ct, osl, rfl, lk, hcd, hD, _⟩ := F.ex
  obtain rfl : dV = .none := by
    rcases hD with ⟨_, e⟩ | ⟨e, _⟩
    · exact e
    · exact absurd rfl e
  obtain ⟨tM, mM⟩ := mM
  refine StX.fn_star (ps := ["self"]) (pv := "runs") (N := ["self", "runs", "run"]) (sp := spInit K CH CE) lk hcd scHInit StX.cxUp (fun us rest hl => match us, rest, hl with
    | [_], [], _ => rfl
    | [_], _ :: _, _ => rfl) (fun A outer s H vs Q E hr h => ?_)
  obtain ⟨x, dx, p, xs, ds, rfl, hx, hT, hA, sz, good, bad⟩ := h
  refine ⟨_, pss_cons (ps_if (PW.pt (pw_or (pt_not (pt_chain op_le op_le pe_int (pe_callB call_len_seq (by rfl) mlen PySem.boot_len (pa_cons (pv 1) pa_nil)) (pe_glob (v := .int 4) (by rfl) mM ⟨tM, rfl⟩)))
      (pw_or1 (pt_not (pt_val (pe_callB (cr_all rfl) (by rfl) mall (by decide +kernel) (pa_cons (pe_lc (own := [("run", 2)]) (g := gName 2) (tt := tYes) rfl scHInit.nd (pi_tup (pv 1)) (blkOk_by (N := ["self", "runs", "run"]) (sc := defScope (hrow 0)) (by decide +kernel)) (fun _ _ _ _ _ => pg_name (i := 2) scHInit.nd rfl (Or.inl rfl))
        (fun _ _ _ _ _ => pts_nil) (fun _ _ _ _ _ => pe_call FI hr (by rfl) gI kI bI .nil pass0 (pa_cons (pv 2) pa_nil))) pa_nil)))))))
      (pss_one (ps_raise rfl (takes_of rfl rfl rfl rfl) (pmk_ownA PySem.F.excBase_ValueError T.exc gE T.kp (raises_own T.sub T.ty) (by rfl) (pa_cons pe_str pa_nil)))) pss_nil)
    (pss_cons (ps_fld (pv 0) (pv 1) rfl) (pss_one (ps_fld (pv 0) (pe_call FR hr (by rfl) gR kR bR .nil pass0 (pa_cons (pv 1) pa_nil)) rfl))), ?_⟩
  have dl : xs.length = ds.length := hA.length
  have sl : sizeLine = 16777216 := sizeLine_eq
  refine ⟨_, rfl, p, xs, rfl, .inr hT, _, _, rfl, rfl, _, rfl, ite2 (fun h1 => ⟨_, _, rfl, rfl, _, rfl, ite2 (fun h2 => ?_) (fun h2 => ?_)⟩) (fun h1 => ⟨_, rfl, ?_⟩)⟩
  · refine ⟨by show 1 ≤ sizeLine; omega, bad (len_false (n := 0) fun z => ?_) H (Same.refl H)⟩
    have y : decide (((xs.length : Nat) : Int) ≤ 4) = false := by
      cases y : decide (((xs.length : Nat) : Int) ≤ 4) with
      | false => rfl
      | true => rw [y] at h2; cases h2
    have y := of_decide_eq_false y
    omega
  · have h1 : 1 ≤ ds.length := by
      have y : (1 : Int) ≤ ((xs.length : Nat) : Int) := of_decide_eq_true h1
      omega
    have h2 : ds.length ≤ 4 := by
      cases y : decide (((xs.length : Nat) : Int) ≤ 4) with
      | false => rw [y] at h2; exact absurd rfl h2
      | true =>
        have y := of_decide_eq_true y
        omega
    refine ⟨_, rfl, p, rfl, ⟨xs, hT⟩, fun D nD => lc_it (walk_tup (xs := xs)) (fun m H' => Same H H' ∧ H' D = some (.lst (((ds.map isRunD).take m).map V.bl))) ⟨same_upd nD, upd_same⟩ (fun _ H' _ hP => same_tup hP.1 hT) (fun m y H' H'' hm hP hY => ?_) (fun H' hP => ?_)⟩
    · obtain ⟨s1, hD⟩ := hP
      obtain ⟨eH, hy⟩ := hY
      subst H''
      obtain ⟨d1, g1, v1⟩ := hA.get hy
      refine ⟨rfl, _, rfl, y, d1, rfl, v1.same s1, Nat.le_trans (bulk_mem (List.mem_of_getElem? g1)) sz, fun H3 s3 => ⟨_, s3 _ _ hD, by rw [List.length_map, List.length_take]; omega, fun z o u => by rw [upd_ne (ne_of_none u nD)]; exact s3 _ _ (s1 _ _ u), ?_⟩⟩
      rw [upd_same, bl_take (by rw [List.getElem?_map, g1]; rfl)]
    · obtain ⟨s1, hD⟩ := hP
      have tk : (ds.map isRunD).take xs.length = ds.map isRunD := by rw [dl]; exact List.take_of_length_le (by rw [List.length_map]; exact Nat.le_refl _)
      rw [tk] at hD
      have ea : (ds.map isRunD).all id = ds.all isRunD := by rw [List.all_map]; rfl
      refine ⟨D, _, rfl, .of hD, _, rfl, ite2 (fun e3 => ?_) (fun e3 => ?_)⟩
      · refine ⟨by show 1 ≤ sizeLine; omega, bad ?_ H' s1⟩
        have z : (ds.map isRunD).all id = false := by
          cases y : (ds.map isRunD).all id with
          | false => rfl
          | true => rw [y] at e3; cases e3
        unfold holeD
        rw [← ea, z, Bool.and_false]
      · have z : ds.all isRunD = true := by
          rw [← ea]
          cases y : (ds.map isRunD).all id with
          | true => rfl
          | false => rw [y] at e3; exact absurd rfl e3
        have ok : holeD ds = true := by
          unfold holeD
          rw [z, decide_eq_true h1, decide_eq_true h2]
          rfl
        have hx1 := s1 _ _ hx
        refine ⟨_, rfl, _, rfl, x, CH, dx, [], rfl, hx1, T.cls, T.nr, by decide, ?_⟩
        have hR : RunsAt K H' p (ds.map runD) := ⟨xs, same_tup s1 hT, pairedI (runs_at hA z).1 fun _ _ y => y.same s1⟩
        refine ⟨_, rfl, p, ds.map runD, rfl, hR.put hx1, hole_good hA ok, fun H2 t s2 nt rd => ?_⟩
        have hx2 : H2 x = some (.ins CH dx (putF "_runs" (.ref p) [])) := s2 _ _ upd_same
        refine ⟨_, rfl, x, CH, dx, _, rfl, hx2, T.cls, T.nd, by show 1 < 1000; decide, ?_⟩
        have q2 := good ok (upd H2 x (.ins CH dx [])) t (fun y o u => ?_) ?_ (rd.keep fun y o u ho => ?_)
        · rw [upd_upd] at q2
          exact q2
        · by_cases e : y = x
          · subst e
            rw [upd_same, ← hx]
            exact u
          · rw [upd_ne e]
            exact s2 _ _ (by rw [upd_ne e]; exact s1 _ _ u)
        · cases y : H t with
          | none => rfl
          | some o =>
            by_cases e : t = x
            · rw [e, upd_same] at nt
              cases nt
            · rw [upd_ne e, s1 _ _ y] at nt
              cases nt
        · rw [upd_ne (fun e => by
            rw [e, hx2] at u
            rcases ho with ⟨_, rfl⟩ | ⟨_, rfl⟩
            · cases u
            · cases u)]
          exact u
  · refine ⟨by show 1 ≤ sizeLine; omega, bad (len_false (n := 0) fun z => ?_) H (Same.refl H)⟩
    have y : ¬ (1 : Int) ≤ ((xs.length : Nat) : Int) := fun q => h1 (decide_eq_true q)
    omega
end
end K0
end
/-! ### HO1 -/
section
set_option Elab.async false
set_option linter.all false
set_option maxRecDepth 100000
set_option maxHeartbeats 4000000
/-! Hole.of: cls(*runs). -/
namespace K0
open PySem PySem.Spec PyProof.Rows L2 Rd DN StX
/-- f(*y), f an expression that gives the class at C -/
def tMakeLS (K : PySem.W.Frag) (C : Addr) (sp : Sp) (E : XK) (tf te : TE) : TE := fun σ H Q => tf σ H fun y H1 => y = V.ref C ∧ te σ H1 fun z H2 => ∃ a xs, z = V.ref a ∧ (SqT K H2 a xs ∨ SqL K H2 a xs) ∧
  ∀ x dx, H2 x = Option.none → H2 dx = Option.none → dx ≠ x → sp (V.ref x :: xs) (upd (upd H2 dx (.own x)) x (.ins C dx [])) (fun v H3 => v = .non ∧ Q (.ref x) H3) E
theorem pe_makeLS {X : Cx} {CX : CXT} {k : Nat} {f C : Addr} {sp : Sp} {E : XK} {e fe : Expr} {te tf : TE} {p pos : Pos} (hf : PE X fe tf) (M : Mk X.K C f) (F : FnR X.prog X.w X.K X.mg X.base CX k f sp) (hr : Room (k + 1) X.A) (hx : Passes CX X E) (he : PE X e te)
    (ht : eval (.Call fe [.Starred e p] [] pos) X.env = (do callWith pos (← eval fe X.env) [] (backTo pos (starEach [.Starred e p] X.env)) (backToKw pos (keywordEach [] X.env))) := by rfl)
    (hst : starEach [.Starred e p] X.env = [(true, eval e X.env)] := by rfl) : PE X (.Call fe [.Starred e p] [] pos) (tMakeLS X.K C sp E tf te) := by
  refine ⟨fun pins s σ H Q I h => ?_⟩
  refine Call_ (thn (hf.run pins s σ H _ I h) fun u s1 ⟨y, H1, I1, ry, ey, q⟩ => ?_) ht
  subst ey
  obtain rfl : u = Value.ref C := ry
  refine PySem.W.callWith_S (h₀ := X.base) I1.ok.mod.kin M.kp (thn (he.run pins s1 σ H1 _ I1 q) fun v s2 ⟨z, H2, I2, rz, a, xs, ez, hxs, q2⟩ => ?_) hst
  subst ez
  obtain rfl : v = Value.ref a := rz
  exact star_any I2 hxs fun us s3 I3 rv => ⟨I3.kIn, run_makeR M F hr hx I3 rv q2⟩
theorem scHOf : FnScope ["cls", "runs"] ["cls", "runs"] (defScope (hrow 1)) := ⟨rfl, rfl, rfl, by decide +kernel, rfl, by decide +kernel, by decide +kernel⟩
/-- a hole: an instance with its runs and its reader -/
def HoleAt (K : PySem.W.Frag) (CH : Addr) (H : Hp) (x : Addr) (ds : List PyData) : Prop := ∃ (dx p t : Addr) (xs : List V), H x = some (.ins CH dx [("_runs", .ref p), ("_reader", .ref t)]) ∧ SqT K H p xs ∧ DvAll K H xs ds ∧ ReaderAt H t (ds.map runD) ∧ holeD ds = true
def isHoleD : PyData → Bool
  | .tuple ds => holeD ds
  | _ => false
def itemsD : PyData → List PyData
  | .tuple ds => ds
  | _ => []
def spOf (K : PySem.W.Frag) (CH CE : Addr) : Sp := fun vs H Q E => ∃ (v : V) (d : PyData), vs = [.ref CH, v] ∧ Dv K H v d ∧ d.bulk ≤ 100000 ∧ (isHoleD d = true → ∀ H' x, Same H H' → H x = none → HoleAt K CH H' x (itemsD d) → Q (.ref x) H') ∧
  (isHoleD d = false → ∀ H', Same H H' → E (.ref CE) none H')
section
variable {P : Program} {w : World} {K : PySem.W.Frag} {mg : Str → Option Value} {base : Heap} {f fN CH CE : Addr} {fd : FuncData}
theorem ok_hof {k : Nat} (F : HrP K "of" "Hole.of" 1 f fd) (T : HoleK K CH CE) (M : Mk K CH fN) (misi : mg "isinstance" = none) (mtup : mg "tuple" = none) (gE : mg "InvalidHole" = some (.ref CE))
    (FN : FnR P w K mg base (L2.CX P w) (k + 4) fN (fun vs H Q E => ∃ ws rest, vs = ws ++ rest ∧ ws.length = 1 ∧ rest.length ≤ sizeLine ∧ ∀ p, H p = Option.none → spInit K CH CE (ws ++ [V.ref p]) (upd H p (.tup rest)) Q E)) :
    FnOk P w K mg base (L2.CX P w) (k + 6) f fd ["cls", "runs"] (spOf K CH CE) := by
  refine F.ok scHOf (fun vs H Q E h => ?_) (fun cdv A outer s H vs Q E hr h => ?_)
  · obtain ⟨v, d, rfl, _⟩ := h
    rfl
  · obtain ⟨v, d, rfl, hd, sz, good, bad⟩ := h
    refine ⟨_, pss_cons (ps_if (pt_not (pt_val (pe_callB call_isi (by rfl) misi boot_isinstance (pa_cons (pv 1) (pa_cons (pe_bltn (v := .ty "tuple") (by rfl) mtup (by decide +kernel) rfl) pa_nil)))))
        (pss_one (ps_raise rfl (takes_of rfl rfl rfl rfl) (pmk_ownA PySem.F.excBase_ValueError T.exc gE T.kp (raises_own T.sub T.ty) (by rfl) (pa_cons pe_str pa_nil)))) pss_nil)
      (pss_one (ps_ret (pe_makeLS (E := E) (pv 0) M FN hr (passes_call (takes_of rfl rfl rfl rfl) (fun _ _ _ _ z => z)) (pv 1)))), ?_⟩
    have sl : sizeLine = 16777216 := sizeLine_eq
    refine ⟨_, rfl, v, _, _, _, _, rfl, .ty _, hd.ty, kit_tup d, _, rfl, ite2 (fun e => ?_) (fun e => ?_)⟩
    · refine ⟨by show 1 ≤ sizeLine; omega, bad ?_ H (Same.refl H)⟩
      cases d <;> first | rfl | cases e
    have e2 : isTupD d = true := by
      cases z : isTupD d with
      | true => rfl
      | false => rw [z] at e; exact absurd rfl e
    obtain ⟨a, xs, ds, rfl, rfl, hT, hA⟩ := is_tup hd e2
    have sz2 : PyData.bulkAll ds ≤ 100000 := sz
    have dl := bulk_len ds
    have xl := hA.length
    refine ⟨_, rfl, rfl, _, rfl, a, xs, rfl, .inl hT, fun x dx nx ndx ne => ⟨[.ref x], xs, rfl, rfl, by omega, fun p np => ?_⟩⟩
    have s0 : Same H (upd (upd H dx (.own x)) x (.ins CH dx [])) := fun y o u => by
      rw [upd_ne (ne_of_none u nx), upd_ne (ne_of_none u ndx)]
      exact u
    have s1 := s0.trans (same_upd np (o := .tup xs))
    have xp : x ≠ p := ne_of_none upd_same np
    refine ⟨x, dx, p, xs, ds, rfl, by rw [upd_ne xp, upd_same], .of upd_same, DvAll.same s1 ds _ hA, sz2, fun ok H' t s2 nt rd => ⟨rfl, ?_⟩, fun no H' s2 => bad no H' (s1.trans s2)⟩
    have hx' : H' x = some (.ins CH dx []) := s2 _ _ (by rw [upd_ne xp, upd_same])
    have s3 : Same H (upd H' x (.ins CH dx [("_runs", .ref p), ("_reader", .ref t)])) := fun y o u => by
      rw [upd_ne (ne_of_none u nx)]
      exact s2 _ _ (s1 _ _ u)
    refine good ok _ x s3 nx ⟨dx, p, t, xs, upd_same, .of ?_, DvAll.same s3 ds _ hA, rd.keep fun y o u ho => ?_, ok⟩
    · rw [upd_ne xp.symm]
      exact s2 _ _ upd_same
    · rw [upd_ne (fun e => by
        rw [e, hx'] at u
        rcases ho with ⟨_, rfl⟩ | ⟨_, rfl⟩
        · cases u
        · cases u)]
      exact u
end
end K0
end
/-! ### EQ -/
section
set_option Elab.async false
set_option linter.all false
set_option maxRecDepth 100000
set_option maxHeartbeats 4000000
/-! == and != of an instance whose class has an __eq__ of its own and no __ne__, with any value. -/
namespace OE
open PySem PySem.Spec PyProof.Rows L2
section
variable {M : Model} {prog : Program} {w : World} {A : Around} {E : Value → Shared → Prop} {s : Shared} {K : PySem.W.Frag} {x C f : Addr} {ox : Obj} {od : Option Obj} {b tb : Value}
theorem ifBound_objNe {args : List Value} {Q : Option Value → Shared → Prop} (X : K.In s.heap) (I : PySem.W.InstAt s.heap x ox C od) (hs : PySem.W.findIn K (.ref C) "__ne__" = some (some (.builtin "object.__ne__")))
    (h : wpAny M A (call (.builtin "object.__ne__") (.ref x :: args)) (fun v => Q (some v)) E s) : wpAny M A (callSpecialIfBound? (.ref x) "__ne__" args) Q E s := by
  simp only [callSpecialIfBound?, bindSpecialIfBound?]
  refine wpAny_holding (wpAny_bind (wpAny_bind (wpAny_bind (I.type.here ((PySem.W.looks_findIn X hs).here ?_)))))
  refine wpAny_bind (wpAny_askSetting (wpAny_ite ?_))
  have fin : wpAny M A (call (.builtin "object.__ne__") ([.ref x] ++ args) >>= fun v => pure (some v)) Q E s := wpAny_bind (wpAny_mono h (fun v s' h' => wpAny_pure h') fun _ _ h' => h')
  split
  · exact wpAny_bind (wpAny_of_eq (F.cmp_object.ne.bind _) (wpAny_pure (by exact fin)))
  · exact wpAny_tryCatch (wpAny_bind (wpAny_of_eq (F.cmp_object.ne.bind _) (wpAny_pure (by exact fin))))
theorem entry_ne {Q : Fin → Shared → Prop} (hu : A.units < cLine) (X : K.In s.heap) (I : PySem.W.InstAt s.heap x ox C od) (he : PySem.W.findIn K (.ref C) "__eq__" = some (some (.ref f))) (hf : PySem.W.isFn K (.ref f) = true)
    (h : wpAny (model prog w) A (call (.ref f) [.ref x, b]) (fun v s' => ∃ c, v = .bool c ∧ Q (.done (.ret (.bool (!c)))) s') E s) : wpAny (model prog w) A (Builtin.«object.__ne__» ⟨[.ref x, b], []⟩) Q E s := by
  unfold Builtin.«object.__ne__»
  show wpAny _ _ (cRoomFor "comparison" [.ref x, b] >>= _) _ _ _
  refine wpAny_bind (wpAny_cRoomFor hu (wpAny_bind (PySem.W.ifBound_K X I he hf (wpAny_mono h (fun v s' z => ?_) fun _ _ e => e))))
  obtain ⟨c, rfl, q⟩ := z
  exact wpAny_bind (wpAny_truthy_bool (wpAny_pure q))
theorem ne_K {Q : Value → Shared → Prop} (hu : A.units + 1 < cLine) (X : K.In s.heap) (I : PySem.W.InstAt s.heap x ox C od) (hb : PySem.W.Looks (model prog w) s.heap (typeOf b) tb) (hn : PySem.W.notFirst K C tb = true)
    (hs : PySem.W.findIn K (.ref C) "__ne__" = some (some (.builtin "object.__ne__"))) (he : PySem.W.findIn K (.ref C) "__eq__" = some (some (.ref f))) (hf : PySem.W.isFn K (.ref f) = true) (hm : PySem.W.mroIn K C (.type "object") = some true)
    (h : wpAny (model prog w) A.in1 (call (.ref f) [.ref x, b]) (fun v s' => ∃ c, v = .bool c ∧ Q (.bool (!c)) s') E s) : wpAny (model prog w) A (richCompare .NotEq (.ref x) b) Q E s := by
  have one : wpAny (model prog w) A (tryCompare (.ref x) "__ne__" b) (fun r s' => ∃ v, r = some v ∧ Q v s') E s := by
    unfold tryCompare
    refine wpAny_bind (ifBound_objNe X I hs (wpAny_call (codeAny_call_builtin F.cmp_object.ne.plain F.cmpEntry_ne (PySem.W.check_slot F.cmpKind_ne F.cmpSplit_ne (I.type.andThen (PySem.W.looks_mroIn X hm)) (F.cmpArgs_ne _ _)
      (entry_ne (A := A.in1) hu X I he hf (wpAny_mono h (fun v s' z => ?_) fun _ _ e => e))))))
    obtain ⟨c, rfl, q⟩ := z
    exact ⟨c, rfl, wpAny_pure ⟨_, rfl, q⟩⟩
  unfold richCompare
  simp only [oneThing_ref, cmpInfo_NotEq]
  refine wpAny_holding (wpAny_bind (wpAny_cRoomFor (Nat.lt_of_succ_lt hu) ?_))
  refine wpAny_bind (I.type.here (wpAny_bind (hb.here ?_)))
  split
  · rename_i q
    have e : PySem.W.subIn K tb (.ref C) = some false := by
      rcases Bool.or_eq_true_iff.mp hn with e | e
      · rw [beq_iff_eq.mp e] at q; simp at q
      · exact beq_iff_eq.mp e
    refine wpAny_bind ((PySem.W.looks_subIn X e).here ?_)
    simp only [Bool.false_eq_true, if_false]
    refine wpAny_bind (wpAny_mono one (fun r s' z => ?_) fun _ _ e => e)
    obtain ⟨v, rfl, hq⟩ := z
    exact wpAny_pure hq
  · refine wpAny_bind (wpAny_pure ?_)
    simp only [Bool.false_eq_true, if_false]
    refine wpAny_bind (wpAny_mono one (fun r s' z => ?_) fun _ _ e => e)
    obtain ⟨v, rfl, hq⟩ := z
    exact wpAny_pure hq
end
/-- x == y, x != y: x an instance of the class at C, whose __eq__ gives a bool -/
def rOE (K : PySem.W.Frag) (C : Addr) (sp : Sp) (E : XK) (neg : Bool) : R2 := fun x y H Q => ∃ (a dx : Addr) (fs : List (Str × V)) (t : Value), x = .ref a ∧ H a = some (.ins C dx fs) ∧ TyX K H y t ∧ PySem.W.notFirst K C t = true ∧
  sp [x, y] H (fun v H' => ∃ c, v = .bl c ∧ Q (.bl (if neg then !c else c)) H') E
structure OEq (K : PySem.W.Frag) (C g : Addr) : Prop where
  eq : PySem.W.findIn K (.ref C) "__eq__" = some (some (.ref g))
  fn : PySem.W.isFn K (.ref g) = true
  ne : PySem.W.findIn K (.ref C) "__ne__" = some (some (.builtin "object.__ne__"))
  ob : PySem.W.mroIn K C (.type "object") = some true
section
variable {X : Cx} {CX : CXT} {n : Nat} {C g : Addr} {sp : Sp} {E : XK}
theorem op_oeq (T : OEq X.K C g) (F : FnR X.prog X.w X.K X.mg X.base CX n g sp) (hr : Room n X.A) (hx : Passes CX X E) : OpR X (compareOp .Eq) (rOE X.K C sp E false) := by
  intro pins s σ H x y v u Q I rx ry h
  obtain ⟨a, dx, fs, t, rfl, ha, hy, hn, q⟩ := h
  cases (show v = Value.ref a from rx)
  obtain ⟨mA, O, _⟩ := ins_get I.hok ha
  obtain ⟨od, J, _⟩ := O.look
  obtain ⟨Pk, kt, hp, _⟩ := kit_of I ry hy
  obtain ⟨m, hF⟩ := I.fr
  show wpAny (model X.prog X.w) X.A (richCompare .Eq (.ref a) u) (EP X pins σ Q) X.xe s
  refine PySem.W.cmp_K (op := .Eq) (tb := t) hr.units0 hF I.ok.mod.kin J (kt.ty _ _ I.kIn hp) hn T.eq T.fn ?_
  refine wpAny_mono (wpAny_call (run_fnR (us := [.ref a, u]) (vs := [.ref a, y]) F hr hx I (.cons rfl (.cons ry .nil)) q)) (fun w' s' z => ?_) fun _ _ x => x
  obtain ⟨z', H', I', rz, c, rfl, qz⟩ := z
  exact SlX.cmpback rz ⟨.bl c, H', I', rz, qz⟩
theorem op_one (T : OEq X.K C g) (F : FnR X.prog X.w X.K X.mg X.base CX n g sp) (hr : Room (n + 1) X.A) (hx : Passes CX X E) : OpR X (compareOp .NotEq) (rOE X.K C sp E true) := by
  intro pins s σ H x y v u Q I rx ry h
  obtain ⟨a, dx, fs, t, rfl, ha, hy, hn, q⟩ := h
  cases (show v = Value.ref a from rx)
  obtain ⟨mA, O, _⟩ := ins_get I.hok ha
  obtain ⟨od, J, _⟩ := O.look
  obtain ⟨Pk, kt, hp, _⟩ := kit_of I ry hy
  show wpAny (model X.prog X.w) X.A (richCompare .NotEq (.ref a) u) (EP X pins σ Q) X.xe s
  refine ne_K (by have := hr.units; omega) I.kIn J (kt.ty _ _ I.kIn hp) hn T.ne T.eq T.fn T.ob ?_
  refine wpAny_mono (wpAny_call (codeAny_mono (F X.A.in1 X.stack s H [.ref a, u] [.ref a, y] _ E hr.in1 I.env0.in1 (.cons rfl (.cons ry .nil)) q) fun r s' hq => ?_)) (fun w' s' z => z) fun _ _ x => x
  cases r with
  | error e => exact hx pins σ H s e s' I hq
  | ok fl =>
    cases fl with
    | ret u2 =>
      obtain ⟨v2, H', I2, rv, c, rfl, qz⟩ := I.after hq
      cases (show u2 = Value.bool c from rv)
      exact ⟨c, rfl, .bl (!c), H', I2, rfl, qz⟩
    | next => exact False.elim hq
    | brk => exact False.elim hq
    | cont => exact False.elim hq
end
end OE
end
/-! ### HM -/
section
set_option Elab.async false
set_option linter.all false
set_option maxRecDepth 100000
set_option maxHeartbeats 4000000
/-! Hole's runs and ==. -/
namespace K0
open PySem PySem.Spec PyProof.Rows L2 Rd DN StX OE
/-! ### runs as data -/
theorem dp_signs {K : PySem.W.Frag} {H : Hp} : ∀ {ds : List PyData} {xs : List V}, DvAll K H xs ds → ds.all isSignD = true → DpAll K H xs ds
  | [], _, h, _ => by cases h; exact .nil
  | d :: ds, _, h, a => by
    cases h with
    | cons h1 h2 =>
      rw [List.all_cons, Bool.and_eq_true] at a
      refine .cons ?_ (dp_signs h2 a.2)
      obtain ⟨z, rfl⟩ := sign_str a.1
      cases h1
      exact .str z
theorem run_parts {d : PyData} (h : isRunD d = true) : ∃ es l e, d = .tuple [.tuple es, l, e] ∧ es.all isSignD = true ∧ (∃ i, l = .int i) ∧ (e = .none ∨ ∃ j, e = .int j) := by
  have t : isTupD d = true := by
    cases d <;> first | rfl | cases h
  cases d with
  | tuple ds =>
    have l3 : ds.length = 3 := by
      by_cases z : ds.length = 3
      · exact z
      · rw [not_three z] at h; cases h
    obtain ⟨s, l, e, rfl⟩ := three l3
    have r : (areSignsD s && !noneIn s && isNumD 0 3 l && isHighD (lowOf l) e) = true := h
    rw [Bool.and_eq_true, Bool.and_eq_true, Bool.and_eq_true] at r
    obtain ⟨⟨⟨r1, _⟩, r2⟩, r3⟩ := r
    cases s with
    | tuple es =>
      refine ⟨es, l, e, rfl, (Bool.and_eq_true_iff.mp (show (es.all isSignD && (ltP es).all id) = true from r1)).1, ?_, ?_⟩
      · cases l <;> first | exact ⟨_, rfl⟩ | cases r2
      · cases e <;> first | exact .inl rfl | exact .inr ⟨_, rfl⟩ | cases r3
    | _ => cases r1
  | _ => cases t
theorem dp_run {K : PySem.W.Frag} {H : Hp} {v : V} {d : PyData} (h : Dv K H v d) (r : isRunD d = true) : Dp K H v d := by
  obtain ⟨es, l, e, rfl, h1, ⟨i, rfl⟩, h3⟩ := run_parts r
  cases h with
  | tup hT hA =>
    refine .tup hT ?_
    cases hA with
    | cons a1 hA =>
    cases hA with
    | cons a2 hA =>
    cases hA with
    | cons a3 hA =>
    cases hA
    cases a1 with
    | tup hT1 hA1 =>
      refine .cons (.tup hT1 (dp_signs hA1 h1)) (.cons ?_ (.cons ?_ .nil))
      · cases a2
        exact .int i
      · rcases h3 with rfl | ⟨j, rfl⟩
        · cases a3
          exact .non
        · cases a3
          exact .int j
theorem dp_runs {K : PySem.W.Frag} {H : Hp} : ∀ {ds : List PyData} {xs : List V}, DvAll K H xs ds → ds.all isRunD = true → DpAll K H xs ds
  | [], _, h, _ => by cases h; exact .nil
  | d :: ds, _, h, a => by
    cases h with
    | cons h1 h2 =>
      rw [List.all_cons, Bool.and_eq_true] at a
      exact .cons (dp_run h1 a.1) (dp_runs h2 a.2)
theorem ok_codes : (sgs.all fun c => SeqAt.shaped (.str (oneS c))) = true := by decide +kernel
theorem sign_shape {d : PyData} (h : isSignD d = true) : d.canLay0 = true ∧ d.depth = 0 := by
  obtain ⟨z, rfl⟩ := sign_str h
  obtain ⟨h1, h2⟩ := Bool.and_eq_true_iff.mp (show (decide (z.length = 1) && sgAll z) = true from h)
  obtain ⟨c, rfl⟩ := one_cp (of_decide_eq_true h1)
  have h2 : ([c].all fun c => allSigns.cps.contains c) = true := h2
  rw [List.all_cons, sg_mem] at h2
  have hc : c ∈ sgs := of_decide_eq_true (Bool.and_eq_true_iff.mp h2).1
  exact ⟨SeqAt.canLay_of_shaped (List.all_eq_true.mp ok_codes c hc), rfl⟩
theorem signs_shape : ∀ {es : List PyData}, es.all isSignD = true → PyData.canLayAll0 es = true ∧ PyData.depthAll es ≤ 0
  | [], _ => ⟨rfl, Nat.le_refl _⟩
  | d :: es, a => by
    rw [List.all_cons, Bool.and_eq_true] at a
    obtain ⟨h1, h2⟩ := signs_shape a.2
    obtain ⟨g1, g2⟩ := sign_shape a.1
    rw [PyData.canLayAll0, PyData.depthAll, h1, g1, g2]
    exact ⟨rfl, by omega⟩
theorem run_shape {d : PyData} (h : isRunD d = true) : d.canLay0 = true ∧ d.depth ≤ 2 := by
  obtain ⟨es, l, e, rfl, h1, ⟨i, rfl⟩, h3⟩ := run_parts h
  obtain ⟨g1, g2⟩ := signs_shape h1
  have e1 : e.canLay0 = true ∧ e.depth = 0 := by
    rcases h3 with rfl | ⟨j, rfl⟩ <;> exact ⟨rfl, rfl⟩
  simp only [PyData.canLay0, PyData.canLayAll0, PyData.depth, PyData.depthAll, g1, e1.1, e1.2]
  exact ⟨rfl, by omega⟩
theorem runs_shape : ∀ {ds : List PyData}, ds.all isRunD = true → PyData.canLayAll0 ds = true ∧ PyData.depthAll ds ≤ 2
  | [], _ => ⟨rfl, Nat.zero_le _⟩
  | d :: ds, a => by
    rw [List.all_cons, Bool.and_eq_true] at a
    obtain ⟨h1, h2⟩ := runs_shape a.2
    obtain ⟨g1, g2⟩ := run_shape a.1
    rw [PyData.canLayAll0, PyData.depthAll, h1, g1]
    exact ⟨rfl, by omega⟩
theorem hole_runs {ds : List PyData} (h : holeD ds = true) : ds.all isRunD = true := by
  unfold holeD at h
  exact (Bool.and_eq_true_iff.mp h).2
theorem hole_shape {ds : List PyData} (h : holeD ds = true) : SeqAt.shaped (.tuple ds) = true := by
  obtain ⟨h1, h2⟩ := runs_shape (hole_runs h)
  unfold SeqAt.shaped
  rw [Bool.and_eq_true]
  refine ⟨?_, decide_eq_true ?_⟩
  · rw [PyData.canLay0]
    exact h1
  · rw [PyData.depth]
    omega
theorem HoleAt.same {K : PySem.W.Frag} {CH x : Addr} {H H' : Hp} {ds : List PyData} (h : HoleAt K CH H x ds) (s : Same H H') : HoleAt K CH H' x ds := by
  obtain ⟨dx, p, t, xs, h1, h2, h3, h4, h5⟩ := h
  exact ⟨dx, p, t, xs, s _ _ h1, same_tup s h2, DvAll.same s ds _ h3, h4.same s, h5⟩
/-! ### the methods -/
/-- more of what the written part says of Hole -/
structure HoleM (K : PySem.W.Frag) (CH : Addr) : Prop where
  cl : Cls K CH
  nr : NoAttr K CH "_runs"
  ca : PySem.W.findIn K (.ref CH) "__class__" = some (some (.builtin "object.__class__"))
  cg : PySem.W.specialIn K (.builtin "object.__class__") "__get__" = some (some (.builtin "getset_descriptor.__get__"))
  ct : PySem.W.takesIn K (.builtin "object.__class__") = some true
  ob : PySem.W.mroIn K CH (.type "object") = some true
  me : PySem.W.kitOne K (.ref CH) (.ref CH) = some true
  no : ∀ d : PyData, PySem.W.kitOne K (.type (dty d)) (.ref CH) = some false
  kp : PySem.W.keepIn K (.ref CH) = true
theorem HoleAt.ty {K : PySem.W.Frag} {CH x : Addr} {H : Hp} {ds : List PyData} (M : HoleM K CH) (h : HoleAt K CH H x ds) : TyX K H (.ref x) (.ref CH) := by
  obtain ⟨dx, p, t, xs, h1, _⟩ := h
  exact .base (.ins h1 M.cl M.ca M.cg M.ct M.ob)
theorem scHRuns : FnScope ["self"] ["self"] (defScope (hrow 2)) := ⟨rfl, rfl, rfl, by decide +kernel, rfl, by decide +kernel, by decide +kernel⟩
theorem scHEq : FnScope ["self", "other"] ["self", "other"] (defScope (hrow 8)) := ⟨rfl, rfl, rfl, by decide +kernel, rfl, by decide +kernel, by decide +kernel⟩
def spHRuns (K : PySem.W.Frag) (CH : Addr) : Sp := fun vs H Q _ => ∃ (x : Addr) (ds : List PyData), vs = [.ref x] ∧ HoleAt K CH H x ds ∧ ∀ p xs, SqT K H p xs → DvAll K H xs ds → Q (.ref p) H
/-- the other is a hole, or data -/
inductive OtherV (K : PySem.W.Frag) (CH : Addr) (H : Hp) : V → Option (List PyData) → Prop
  | hole {x : Addr} {ds : List PyData} (h : HoleAt K CH H x ds) : OtherV K CH H (.ref x) (some ds)
  | data {v : V} {d : PyData} (h : Dv K H v d) : OtherV K CH H v none
def eqH (ds : List PyData) : Option (List PyData) → Bool
  | some es => PyData.eqv (.tuple ds) (.tuple es)
  | none => false
def spHEq (K : PySem.W.Frag) (CH : Addr) : Sp := fun vs H Q _ => ∃ (x : Addr) (y : V) (ds : List PyData) (o : Option (List PyData)), vs = [.ref x, y] ∧ HoleAt K CH H x ds ∧ OtherV K CH H y o ∧ Q (.bl (eqH ds o)) H
section
variable {P : Program} {w : World} {K : PySem.W.Frag} {mg : Str → Option Value} {base : Heap} {f CH : Addr} {fd : FuncData}
theorem ok_hruns {k : Nat} (F : HrP K "runs" "Hole.runs" 2 f fd) (T : HoleM K CH) : FnOk P w K mg base CX0 (k + 1) f fd ["self"] (spHRuns K CH) := by
  refine F.ok scHRuns (fun vs H Q E h => ?_) (fun cdv A outer s H vs Q E hr h => ?_)
  · obtain ⟨x, ds, rfl, _⟩ := h
    rfl
  · obtain ⟨x, ds, rfl, ⟨dx, p, t, xs, h1, h2, h3, h4, h5⟩, q⟩ := h
    refine ⟨_, PSs.nox (pss_one (ps_ret (pe_fld (pv 0) rfl))), ?_⟩
    exact ⟨_, rfl, x, CH, dx, _, _, rfl, h1, T.cl, T.nr, rfl, q p xs h2 h3⟩
theorem ok_heq {k : Nat} (F : HrP K "__eq__" "Hole.__eq__" 8 f fd) (T : HoleM K CH) (misi : mg "isinstance" = none) (gH : mg "Hole" = some (.ref CH)) : FnOk P w K mg base CX0 (k + 1) f fd ["self", "other"] (spHEq K CH) := by
  refine F.ok scHEq (fun vs H Q E h => ?_) (fun cdv A outer s H vs Q E hr h => ?_)
  · obtain ⟨x, y, ds, o, rfl, _⟩ := h
    rfl
  · obtain ⟨x, y, ds, o, rfl, hx, hy, q⟩ := h
    refine ⟨_, PSs.nox (pss_one (ps_ret (pe_and (pe_callB call_isi (by rfl) misi boot_isinstance (pa_cons (pv 1) (pa_cons (pe_glob (v := .ref CH) (by rfl) gH rfl) pa_nil)))
      (pe_one (pe_cmpR (op_eqD hr.units) (pe_fld (pv 0) rfl) (pe_fld (pv 1) rfl) (nomark _)))))), ?_⟩
    cases hy with
    | data hd =>
      rename_i d
      exact ⟨_, rfl, y, .ref CH, _, _, false, rfl, .own CH, hd.ty, T.no d, _, rfl, q⟩
    | hole hy =>
      rename_i x2 es
      refine ⟨_, rfl, _, .ref CH, _, _, true, rfl, .own CH, hy.ty T, T.me, _, rfl, ?_⟩
      obtain ⟨dx, p, t, xs, h1, h2, h3, h4, h5⟩ := hx
      obtain ⟨dy, p2, t2, ys, g1, g2, g3, g4, g5⟩ := hy
      exact ⟨_, rfl, x, CH, dx, _, _, rfl, h1, T.cl, T.nr, rfl, _, rfl, x2, CH, dy, _, _, rfl, g1, T.cl, T.nr, rfl, .tuple ds, .tuple es, .tup h2 (dp_runs h3 (hole_runs h5)), .tup g2 (dp_runs g3 (hole_runs g5)), hole_shape h5, hole_shape g5, q⟩
end
end K0
end
/-! ### LS -/
section
set_option Elab.async false
set_option linter.all false
set_option maxRecDepth 100000
set_option maxHeartbeats 4000000
/-! len(x), str(x) of an instance whose class has a __len__, a __str__ of its own. -/
namespace OE
open PySem PySem.Spec PyProof.Rows L2 PySem.Builtin
section
variable {prog : Program} {w : World} {A : Around} {E : Value → Shared → Prop} {s : Shared} {K : PySem.W.Frag} {x C f : Addr} {ox : Obj} {od : Option Obj}
theorem len_K {Q : Value → Shared → Prop} (X : K.In s.heap) (I : PySem.W.InstAt s.heap x ox C od) (hs : PySem.W.findIn K (.ref C) "__len__" = some (some (.ref f))) (hf : PySem.W.isFn K (.ref f) = true)
    (hcall : wpAny (model prog w) A.in1 (call (.ref f) [.ref x]) (fun r s' => ∃ n u, r = .int n u ∧ 0 ≤ n ∧ n < 2 ^ 63 ∧ Q (.int n s'.toks) { s' with toks := s'.toks + 1 }) E s) :
    wpAny (model prog w) A (call (.builtin "len") [.ref x]) Q E s := by
  refine Calls.call_function_entry kind_len plain_len entry_len (args_len1 _) ?_
  unfold Builtin.«len»
  refine wpAny_bind (m := oneArg "len" _) (wpAny_pure ?_)
  refine wpAny_bind (m := callSpecial? (.ref x) (Str.ofString "__len__")) (PySem.W.special_fn X I hs (beq_iff_eq.mp hf) (wpAny_mono hcall (fun r s' hr => ?_) fun _ _ y => y))
  obtain ⟨n, u, rfl, h0, h1, hq⟩ := hr
  refine wpAny_bind (wpAny_holding (wpAny_pure ?_))
  refine wpAny_bind (wpAny_letGo ?_)
  show wpAny _ _ (if n < 0 then _ else _) _ _ _
  rw [if_neg (by omega)]
  show wpAny _ _ (if n ≥ 2 ^ 63 then _ else _) _ _ _
  rw [if_neg (by omega)]
  exact wpAny_bind (wpAny_mkInt (wpAny_pure ⟨_, rfl, hq⟩))
theorem str_K {Q : Value → Shared → Prop} (hu : A.in1.in1.units < cLine) (X : K.In s.heap) (I : PySem.W.InstAt s.heap x ox C od) (hs : PySem.W.findIn K (.ref C) "__str__" = some (some (.ref f))) (hf : PySem.W.isFn K (.ref f) = true)
    (h : wpAny (model prog w) A.in1.in1 (call (.ref f) [.ref x]) (fun r s' => ∃ y u, r = .str y u ∧ Q r s') E s) : wpAny (model prog w) A (call (.type "str") [.ref x]) Q E s := by
  refine callType_codes (T := "str") (Bi := Builtin.«object.__init__») (Q₁ := fun r s₁ => ∃ y u, r = .str y u ∧ Q r s₁) PySem.F.called_str (PySem.F.typeCall_str_1 _) PySem.F.entry_object_init ?_ ?_
  · refine codeAny_of_tree ?_
    show wpAny _ A.in1.in1 (do checkBuiltinCall "str.__new__" ⟨[.type "str", .ref x], []⟩; again (.builtin "str.__new__" ⟨[.type "str", .ref x], []⟩)) _ _ s
    refine wpAny_bind (wpAny_of_eq (PySem.F.newCall_str_1 _) (wpAny_pure ⟨plainId_quiet (by decide +kernel) _, codeAny_builtin PySem.F.entry_str_new ?_⟩))
    rw [Around.under_plainId (by decide +kernel) _]
    rw [str_new_tree]
    refine wpAny_bind (wpAny_pure ?_)
    refine wpAny_bind (wpAny_of_eq isSubtype_str_str ?_)
    have key : wpAny (model prog w) A.in1.in1 (PySem.Builtin.Str.strOf (.ref x)) (fun r s₁ => ∃ y u, r = .str y u ∧ Q r s₁) E s := by
      unfold PySem.Builtin.Str.strOf
      rw [show PySem.Builtin.Str.isExactStr (.ref x) = false from rfl]
      refine wpAny_bind (m := cRoomFor _ _) (wpAny_cRoomFor hu ?_)
      refine wpAny_bind (m := callSpecial? (.ref x) (Str.ofString "__str__")) (PySem.W.special_fn X I hs (beq_iff_eq.mp hf) (wpAny_mono h (fun r s' z => ?_) fun _ _ y => y))
      obtain ⟨y, u, rfl, z⟩ := z
      exact wpAny_pure ⟨_, _, rfl, z⟩
    exact wpAny_bind (wpAny_mono key (fun r s₁ hr => wpAny_pure hr) fun _ _ y => y)
  · rintro obj s₁ ⟨y, u, rfl, hq⟩
    exact ⟨typeIs_str _ _ _, PySem.F.args_object_init_2 _ _, object_init_meets PySem.F.called_str.init.lookup PySem.F.called_str.made (by decide) prog w A.in1 _ s₁ ⟨typeIs_str _ _ _, rfl, hq⟩⟩
end
def rLenO (C : Addr) (sp : Sp) (E : XK) : List V → Hp → VK → Prop := fun xs H Q => ∃ (a dx : Addr) (fs : List (Str × V)), xs = [.ref a] ∧ H a = some (.ins C dx fs) ∧ sp [.ref a] H (fun v H' => ∃ n : Int, v = .int n ∧ 0 ≤ n ∧ n < 2 ^ 63 ∧ Q (.int n) H') E
def rStrO (C : Addr) (sp : Sp) (E : XK) : List V → Hp → VK → Prop := fun xs H Q => ∃ (a dx : Addr) (fs : List (Str × V)), xs = [.ref a] ∧ H a = some (.ins C dx fs) ∧ sp [.ref a] H (fun v H' => ∃ z : Str, v = .str z ∧ Q (.str z) H') E
section
variable {X : Cx} {CX : CXT} {n : Nat} {C g : Addr} {sp : Sp} {E : XK}
theorem call_lenO (hs : PySem.W.findIn X.K (.ref C) "__len__" = some (some (.ref g))) (hf : PySem.W.isFn X.K (.ref g) = true) (F : FnR X.prog X.w X.K X.mg X.base CX n g sp) (hr : Room (n + 2) X.A) (hx : Passes CX X E) : CallR X (.builtin "len") (rLenO C sp E) := by
  intro pins s σ H xs us Q I r h
  obtain ⟨a, dx, fs, rfl, ha, q⟩ := h
  obtain ⟨u, rfl, ru⟩ := r.one
  cases (show u = Value.ref a from ru)
  obtain ⟨mA, O, _⟩ := ins_get I.hok ha
  obtain ⟨od, J, _⟩ := O.look
  refine len_K I.kIn J hs hf (wpAny_mono (wpAny_call (SlX.run_at (us := [.ref a]) (ws := [.ref a]) F (hr.in1.mono (Nat.le_succ _)) I.env0.in1 hx I (.cons rfl .nil) q)) (fun w' s' z => ?_) fun _ _ x => x)
  obtain ⟨z', H', I', rz, i, ei, h0, h1, qz⟩ := z
  subst ei
  obtain ⟨t, e⟩ := (show ∃ t, w' = Value.int i t from rz)
  cases e
  exact ⟨i, t, rfl, h0, h1, .int i, H', I'.tok _, ⟨_, rfl⟩, qz⟩
theorem call_strO (hs : PySem.W.findIn X.K (.ref C) "__str__" = some (some (.ref g))) (hf : PySem.W.isFn X.K (.ref g) = true) (F : FnR X.prog X.w X.K X.mg X.base CX n g sp) (hr : Room (n + 2) X.A) (hx : Passes CX X E) : CallR X (.type "str") (rStrO C sp E) := by
  intro pins s σ H xs us Q I r h
  obtain ⟨a, dx, fs, rfl, ha, q⟩ := h
  obtain ⟨u, rfl, ru⟩ := r.one
  cases (show u = Value.ref a from ru)
  obtain ⟨mA, O, _⟩ := ins_get I.hok ha
  obtain ⟨od, J, _⟩ := O.look
  have hr2 : Room n X.A.in1.in1 := (show Room (n + 1) X.A.in1 from Room.in1 hr).in1
  refine str_K hr2.units0 I.kIn J hs hf (wpAny_mono (wpAny_call (SlX.run_at (us := [.ref a]) (ws := [.ref a]) F hr2 I.env0.in1.in1 hx I (.cons rfl .nil) q)) (fun w' s' z => ?_) fun _ _ x => x)
  obtain ⟨z', H', I', rz, i, ei, qz⟩ := z
  subst ei
  obtain ⟨t, e⟩ := (show ∃ t, w' = Value.str i t from rz)
  cases e
  exact ⟨i, t, rfl, .str i, H', I', ⟨t, rfl⟩, qz⟩
end
end OE
end
/-! ### HM2 -/
section
set_option Elab.async false
set_option linter.all false
set_option maxRecDepth 100000
set_option maxHeartbeats 4000000
/-! Hole's len and str. -/
namespace K0
open PySem PySem.Spec PyProof.Rows L2 Rd DN StX OE
theorem scHLen : FnScope ["self"] ["self"] (defScope (hrow 9)) := ⟨rfl, rfl, rfl, by decide +kernel, rfl, by decide +kernel, by decide +kernel⟩
theorem scHStr : FnScope ["self"] ["self"] (defScope (hrow 11)) := ⟨rfl, rfl, rfl, by decide +kernel, rfl, by decide +kernel, by decide +kernel⟩
def spHLen (K : PySem.W.Frag) (CH : Addr) : Sp := fun vs H Q _ => ∃ (x : Addr) (ds : List PyData), vs = [.ref x] ∧ HoleAt K CH H x ds ∧ Q (.int (ds.length : Nat)) H
def strH (n : Nat) : Str := Str.empty ++ ("hole of " : Str) ++ (toString ((n : Nat) : Int) : Str) ++ (" runs" : Str)
def spHStr (K : PySem.W.Frag) (CH : Addr) : Sp := fun vs H Q _ => ∃ (x : Addr) (ds : List PyData), vs = [.ref x] ∧ HoleAt K CH H x ds ∧ Q (.str (strH ds.length)) H
theorem hole_len {ds : List PyData} (h : holeD ds = true) : 1 ≤ ds.length ∧ ds.length ≤ 4 := by
  unfold holeD at h
  rw [Bool.and_eq_true, Bool.and_eq_true, decide_eq_true_iff, decide_eq_true_iff] at h
  exact h.1
theorem small_n {n : Nat} (h : 1 ≤ n ∧ n ≤ 4) : (((n : Nat) : Int)).natAbs.log2 < 1920 ∧ (Str.empty ++ ("hole of " : Str) ++ (toString ((n : Nat) : Int) : Str)).length ≤ sizeLine ∧ (strH n).length ≤ sizeLine := by
  have : n = 1 ∨ n = 2 ∨ n = 3 ∨ n = 4 := by omega
  rcases this with rfl | rfl | rfl | rfl <;> exact ⟨by decide +kernel, by decide +kernel, by decide +kernel⟩
section
variable {P : Program} {w : World} {K : PySem.W.Frag} {mg : Str → Option Value} {base : Heap} {f CH : Addr} {fd : FuncData}
theorem ok_hlen {k : Nat} (F : HrP K "__len__" "Hole.__len__" 9 f fd) (T : HoleM K CH) (mlen : mg "len" = none) : FnOk P w K mg base CX0 (k + 1) f fd ["self"] (spHLen K CH) := by
  refine F.ok scHLen (fun vs H Q E h => ?_) (fun cdv A outer s H vs Q E hr h => ?_)
  · obtain ⟨x, ds, rfl, _⟩ := h
    rfl
  · obtain ⟨x, ds, rfl, ⟨dx, p, t, xs, h1, h2, h3, h4, h5⟩, q⟩ := h
    refine ⟨_, PSs.nox (pss_one (ps_ret (pe_callB call_len_seq (by rfl) mlen PySem.boot_len (pa_cons (pe_fld (pv 0) rfl) pa_nil)))), ?_⟩
    rw [← h3.length] at q
    exact ⟨_, rfl, x, CH, dx, _, _, rfl, h1, T.cl, T.nr, rfl, p, xs, rfl, .inr h2, q⟩
theorem ok_hstr {k : Nat} (F : HrP K "__str__" "Hole.__str__" 11 f fd) (T : HoleM K CH) (mlen : mg "len" = none) : FnOk P w K mg base CX0 (k + 1) f fd ["self"] (spHStr K CH) := by
  refine F.ok scHStr (fun vs H Q E h => ?_) (fun cdv A outer s H vs Q E hr h => ?_)
  · obtain ⟨x, ds, rfl, _⟩ := h
    rfl
  · obtain ⟨x, ds, rfl, ⟨dx, p, t, xs, h1, h2, h3, h4, h5⟩, q⟩ := h
    refine ⟨_, PSs.nox (pss_one (ps_ret (pe_joined (.cons pe_str (.cons (pe_fmt (pe_callB call_len_seq (by rfl) mlen PySem.boot_len (pa_cons (pe_fld (pv 0) rfl) pa_nil))) (.cons pe_str .nil)))))), ?_⟩
    have l := hole_len h5
    have xl := h3.length
    refine ⟨_, rfl, by decide +kernel, _, rfl, x, CH, dx, _, _, rfl, h1, T.cl, T.nr, rfl, p, xs, rfl, .inr h2, .inr ⟨_, rfl, ?_, _, rfl, ?_, _, rfl, ?_, ?_⟩⟩
    · rw [xl]
      exact (small_n l).1
    · rw [xl]
      exact (small_n l).2.1
    · rw [xl]
      exact (small_n l).2.2
    · rw [xl]
      exact q
end
end K0
end
/-! ### E0 -/
section
set_option Elab.async false
set_option linter.all false
set_option maxRecDepth 100000
set_option maxHeartbeats 4000000
/-! except (A, B, ..): how a tuple of any length is matched. -/
namespace K0
open PySem PySem.Spec PyProof.Rows PySem.W
section
variable {M : Model} {A : Around} {E : Value → Shared → Prop} {s : Shared}
theorem loopY {β : Type} {f : Value → β → Sem (ForInStep β)} {b : β} {Q : β → Shared → Prop} : ∀ (cs : List Value), (∀ c ∈ cs, ∀ Q' : ForInStep β → Shared → Prop, Q' (.yield b) s → wpAny M A (f c b) Q' E s) → Q b s → wpAny M A (forIn cs b f) Q E s
  | [], _, q => by
    rw [List.forIn_nil]
    exact wpAny_pure q
  | c :: cs, h, q => by
    rw [List.forIn_cons]
    exact wpAny_bind (h c List.mem_cons_self _ (loopY cs (fun d hd => h d (List.mem_cons_of_mem _ hd)) q))
theorem loopR {β : Type} {f : Value → β → Sem (ForInStep β)} {b dv : β} {Q : β → Shared → Prop} : ∀ (cs : List Value) (bs : List Bool), Paired (fun c i => ∀ Q' : ForInStep β → Shared → Prop, Q' (if i = true then .done dv else .yield b) s → wpAny M A (f c b) Q' E s) cs bs →
    Q (if bs.any id = true then dv else b) s → wpAny M A (forIn cs b f) Q E s
  | [], _, h, q => by
    cases h
    rw [List.forIn_nil]
    exact wpAny_pure q
  | c :: cs, i :: bs, .cons h t, q => by
    rw [List.forIn_cons]
    refine wpAny_bind (h _ ?_)
    cases i with
    | true =>
      rw [if_pos rfl]
      exact wpAny_pure (by simpa using q)
    | false =>
      rw [if_neg Bool.false_ne_true]
      exact loopR cs bs t (by simpa using q)
end
def anyB : List (Option Bool) → Option Bool
  | [] => some false
  | some b :: r => (anyB r).map (b || ·)
  | none :: _ => none
theorem exmAny_bs {K : Frag} {cls : Value} : ∀ {cs : List Value} {b : Bool}, exmAny K cls cs = some b → ∃ bs : List Bool, Paired (fun c i => exmOne K cls c = some i) cs bs ∧ bs.any id = b
  | [], b, h => ⟨[], .nil, by cases h; rfl⟩
  | c :: cs, b, h => by
    obtain ⟨b1, d1, h1, h2, rfl⟩ := exmAny_cons h
    obtain ⟨bs, p, q⟩ := exmAny_bs h2
    exact ⟨b1 :: bs, .cons h1 p, by rw [List.any_cons, q]; rfl⟩
theorem paired_mem {α β : Type} {F : α → β → Prop} : ∀ {l : List α} {m : List β}, Paired F l m → ∀ x ∈ l, ∃ y, F x y
  | _, _, .nil, _, h => nomatch h
  | _, _, .cons r t, x, h => by
    rcases List.mem_cons.mp h with rfl | h
    · exact ⟨_, r⟩
    · exact paired_mem t x h
theorem paired_map {α β : Type} {F G : α → β → Prop} : ∀ {l : List α} {m : List β}, Paired F l m → (∀ a b, F a b → G a b) → Paired G l m
  | _, _, .nil, _ => .nil
  | _, _, .cons r t, f => .cons (f _ _ r) (paired_map t f)
theorem exm_any {M : Model} {K : Frag} {cs : List Value} {cls : Value} {tp e : Addr} {b : Bool} {h : Heap} (X : K.In h) (LT : Looks M h (typeOf (.ref e)) cls) (hp : h.get? tp = some { cls := .type "tuple", data := .seq cs.toArray }) (hx : exmAny K cls cs = some b) :
    Looks M h (excMatches (.ref e) (.ref tp)) b := by
  intro A Q E s k₀ q
  obtain ⟨hh, g, d, tk, os⟩ := s
  have k : ∀ b o, h.get? b = some o → hh.get? b = some o := k₀
  have LT0 : Looks M h (isInstance (.ref tp) (.type "tuple")) true := ((Looks.ld hp).andThen .now).andThen (Looks.of_pure isSubtype_tuple_tuple)
  obtain ⟨bs, pr, eb⟩ := exmAny_bs hx
  have hp' := k _ _ hp
  unfold excMatches
  refine wpAny_bind ((LT0.keeps k).at ?_)
  dsimp only
  rw [if_pos rfl]
  first
    | refine wpAny_bind (wpAny_seqItems hp' rfl ?_)
    | refine wpAny_bind (wpAny_bind (wpAny_seqItems hp' rfl (wpAny_pure ?_)))
  dsimp only [Option.getD_some, Option.getD]
  refine wpAny_bind (wpAny_pure ?_)
  refine wpAny_bind (loopY _ (fun c hc Q' q' => ?_) ?_)
  · obtain ⟨i, hi⟩ := paired_mem pr c hc
    obtain ⟨e1, _⟩ := exm_cls (M := M) X hi
    refine wpAny_bind ((e1.keeps k).at ?_)
    simp only [Bool.not_true, Bool.false_eq_true, if_false]
    exact wpAny_pure q'
  · refine wpAny_bind ((LT.keeps k).at ?_)
    refine wpAny_bind (loopR (dv := (some true, ())) cs bs (paired_map pr fun c i hi Q' q' => ?_) ?_)
    · obtain ⟨_, e2⟩ := exm_cls (M := M) X hi
      refine wpAny_bind ((e2.keeps k).at ?_)
      cases i with
      | true => simp only [if_true] at q' ⊢; exact wpAny_pure q'
      | false => simp only [Bool.false_eq_true, if_false] at q' ⊢; exact wpAny_pure q'
    · rw [eb]
      cases b with
      | true => simp only [if_true]; exact wpAny_pure q
      | false => simp only [Bool.false_eq_true, if_false]; exact wpAny_pure q
end K0
end
/-! ### E1 -/
section
set_option Elab.async false
set_option linter.all false
set_option maxRecDepth 100000
set_option maxHeartbeats 4000000
/-! try with several clauses; a clause names a class or a tuple of classes, and may name the exception. -/
namespace K0
open PySem PySem.Spec PyProof.Rows L2
theorem flying_push {B h : Heap} {l : List Env} {a : Addr} {Z : Obj → Prop} {o : Obj} (x : HandSPX.FlyingZ B l a Z h) : HandSPX.FlyingZ B l a Z (h.push o) := by
  have k : ∀ b u, h.get? b = some u → (h.push o).get? b = some u := fun b u e => Heap.get?_push_of_some _ e
  obtain ⟨x1, x2, x3, oe, vs, T, oT, ts, y1, y2, y3, y4, y5, y6, y7, y8, y9⟩ := x
  exact ⟨fun b u e => k b u (x1 b u e), x2, Heap.FunFrames.of_keeps (fun b u e _ => ⟨u, k b u e, rfl⟩) x3, oe, vs, T, oT, ts, k _ _ y1, y2, y3, y4, y5, y6, k _ _ y7, y8, y9⟩
inductive NamesAll (X : Cx) : List Expr → List Value → Prop
  | nil : NamesAll X [] []
  | cons {x : Str} {np : Pos} {c : Value} {es : List Expr} {cs : List Value} : Names X x c → NamesAll X es cs → NamesAll X (.Name x np :: es) (c :: cs)
/-- the test of a clause -/
inductive Cls (X : Cx) : Expr → List Value → Prop
  | one {x : Str} {np : Pos} {c : Value} : Names X x c → Cls X (.Name x np) [c]
  | tup {es : List Expr} {cs : List Value} {k : Nat} {pos : Pos} : NamesAll X es cs → cs.length ≤ 1000 → Cls X (.Tuple es k pos) cs
structure HC where
  cs : List Value
  slot : Option Nat
  ts : Addr → Value → Option Addr → TS
def endsW (D : Ends) : Option Nat → Ends
  | none => D
  | some i => { nx := fun σ' H' => D.nx (σ'.set i none) H', rt := D.rt, bk := fun σ' H' => D.bk (σ'.set i none) H', ct := fun σ' H' => D.ct (σ'.set i none) H' }
def slotW (σ : L2.St) (a : Addr) : Option Nat → L2.St
  | none => σ
  | some i => σ.set i (some (.ref a))
def wAny (K : PySem.W.Frag) (Wout : WX) (D : Ends) : List HC → WX
  | [] => Wout
  | c :: r => fun cls d σ H => ∃ b, PySem.W.exmAny K cls c.cs = some b ∧ (b = true → ∀ a, H a = none → c.ts a cls d (endsW D c.slot) (slotW σ a c.slot) H) ∧ (b = false → wAny K Wout D r cls d σ H)
inductive Hds (X : Cx) : List ExceptHandler → List HC → Prop
  | nil : Hds X [] []
  | cons {t : Expr} {cs : List Value} {nm : Option Str} {sl : Option Nat} {ts : Addr → Value → Option Addr → TS} {b₀ : Stmt} {suite : List Stmt} {pos' : Pos} {hds : List ExceptHandler} {l : List HC} (ht : Cls X t cs)
      (hn : (nm = none ∧ sl = none) ∨ ∃ n i, nm = some n ∧ sl = some i ∧ X.N[i]? = some n ∧ X.env.kindOf n = some .local)
      (hs : ∀ (a : Addr) (oe : Obj) (cls : Value) (d : Option Addr) (pn : List (Addr × Obj)), Zc cls d oe → (∃ vs, oe.data = .fields vs) → PSs (X.suite a ((a, oe) :: pn)) (b₀ :: suite) (ts a cls d)) (r : Hds X hds l) :
      Hds X (.ExceptHandler (some t) nm (b₀ :: suite) pos' :: hds) (⟨cs, sl, ts⟩ :: l)
section
variable {X : Cx}
theorem names_run {pins : List (Addr × Obj)} {σ : L2.St} {H : Hp} {s : Shared} (I : Inv X pins σ H s) {pos : Pos} {E : Value → Shared → Prop} : ∀ {es : List Expr} {cs : List Value} {Q : List Value → Shared → Prop}, NamesAll X es cs → Q cs s → wpAny (model X.prog X.w) X.A (spliced (backTo pos (starEach es X.env))) Q E s
  | _, _, _, .nil, q => Calls.spliced_nil q
  | _, _, _, .cons (x := x) (np := np) (es := es) nm r, q => by
    show wpAny _ _ (spliced ((false, eval (.Name x np) X.env) :: backTo pos (starEach es X.env))) _ _ s
    refine Calls.spliced_cons ?_
    obtain ⟨g, db, z | ⟨z, bv, nn⟩⟩ := nm
    · exact ld_glob I g z (names_run I r q) db
    · exact ld_blt I g z bv (names_run I r q) nn db
/-- a clause's test: it leaves the heap but for a tuple -/
theorem cls_run {pins : List (Addr × Obj)} {σ : L2.St} {H : Hp} {s : Shared} (I : Inv X pins σ H s) {cls : Value} {e : Addr} {cs : List Value} {t : Expr} {b : Bool} {Q : Bool → Shared → Prop} {E1 E2 : Value → Shared → Prop} (LT : PySem.W.Looks (model X.prog X.w) s.heap (typeOf (.ref e)) cls)
    (c : Cls X t cs) (hb : PySem.W.exmAny X.K cls cs = some b) (q1 : Q b s) (q2 : ∀ o, Q b { s with heap := s.heap.push o }) : wpAny (model X.prog X.w) X.A (eval t X.env) (fun v s₁ => wpAny (model X.prog X.w) X.A (excMatches (.ref e) v) Q E2 s₁) E1 s := by
  cases c with
  | one nm =>
    obtain ⟨b1, d1, h1, h2, rfl⟩ := PySem.W.exmAny_cons hb
    have h3 : some false = some d1 := h2
    cases h3
    have L := PySem.W.exm_one (M := model X.prog X.w) I.kIn LT h1
    rw [Bool.or_false] at q1
    obtain ⟨g, db, z | ⟨z, bv, nn⟩⟩ := nm
    · exact ld_glob I g z (L.here q1) db
    · exact ld_blt I g z bv (L.here q1) nn db
  | tup nms hl =>
    refine wpAny_Tuple_spliced (names_run I nms ⟨Nat.le_of_lt (small1000 hl), ?_⟩)
    obtain ⟨hp, g, d, tk, os⟩ := s
    have k : ∀ b u, hp.get? b = some u → (hp.push { cls := .type "tuple", data := .seq cs.toArray }).get? b = some u := fun b u z => Heap.get?_push_of_some _ z
    have L := exm_any (M := model X.prog X.w) (I.kIn.keeps k) (LT.keeps k) (Heap.get?_push_size hp rfl) hb
    exact L.here (q2 _)
variable {body : List Stmt} {h₀ : ExceptHandler} {hds : List ExceptHandler} {l : List HC} {pos : Pos} {tb : WX → TS} {Wout : WX}
theorem ps_tryA (hs : X.stack = X.env :: X.outer) (hf : X.env.frame = some X.env.locals) (hN : X.N.Nodup) (tk : Takes X Wout)
    (hb : ∀ (W : WX) (pn : List (Addr × Obj)) (xe : Value → Shared → Prop), Takes (X.tr pn xe) W → PassesOwn (model X.prog X.w) X.A X.env xe → PSs (X.tr pn xe) body (tb W)) (hh : Hds X (h₀ :: hds) l) : PS X (.Try body (h₀ :: hds) [] [] pos) (fun D σ H => tb (wAny X.K Wout D l) D σ H) := by
  refine ⟨fun pins s σ H D I h => wpAny_Try_except ?_⟩
  have ok := I.ok
  have frames : X.A.frames = some (X.env :: X.outer) := by rw [ok.frames, hs]
  refine wpAny_mono ((hb (wAny X.K Wout D l) (X.pn ++ pins) _ (fun u s' air => ?_) PassesOwn.looking).run [] s σ H D (I.toTry _) h) (fun f s1 z => ?_) (fun e s1 z => z)
  · obtain ⟨a, B, sI, pins', σ', H', cls, d, rfl, J', gr, up, sky, na, os, ag, w⟩ := air
    have J : Inv X pins σ' H' sI := J'.ofTry ok
    have sky2 : Sky B (X.env :: X.outer) a (Zc cls d) X.env.locals s'.heap := by rw [← hs]; exact sky
    show wpAny _ _ (noteFrame (.ref a) X.env) _ _ _
    refine Sky.land Zc.steady frames hf sky2 fun h3 fl3 up3 => ?_
    have suiteAt : ∀ {h : Heap} {tk' : Nat}, HandSPX.FlyingZ B (X.env :: X.outer) a (Zc cls d) h → sI.heap.UpToSlots h → ∃ oe, (∃ vs, oe.data = .fields vs) ∧ Zc cls d oe ∧ h.get? a = some oe ∧ Inv (X.suite a ((a, oe) :: (X.pn ++ pins))) [] σ' H' { s' with heap := h } := by
      intro h tk' fl upS
      obtain ⟨oe, vs, e1, e2, e3⟩ := fl.there
      have nfr : a ∉ frs (X.env :: X.outer) := fun m => by
        obtain ⟨_, o, e4, nf⟩ := fl.2.2.1.mem m
        rw [e1] at e4
        cases e4
        exact nf vs e3
      have nL : a ≠ X.env.locals := fun z => nfr (List.mem_filterMap.mpr ⟨X.env, List.mem_cons_self, by rw [hf, z]⟩)
      have nF : a ∉ X.fs := fun m => (List.mem_filterMap.mp m).elim fun e z => nfr (List.mem_filterMap.mpr ⟨e, List.mem_cons_of_mem _ z.1, z.2⟩)
      exact ⟨oe, ⟨vs, e3⟩, e2, e1, (J.landed (s' := { s' with heap := h }) gr fl.1 upS os ag).suite e1 e3 na nL nF⟩
    have go : ∀ {hs2 : List ExceptHandler} {l2 : List HC}, Hds X hs2 l2 → wAny X.K Wout D l2 cls d σ' H' → ∀ h, HandSPX.FlyingZ B (X.env :: X.outer) a (Zc cls d) h → sI.heap.UpToSlots h → wpAny (model X.prog X.w) X.A (handleBy (.ref a) X.env hs2) (SP X pins D) X.xe { s' with heap := h } := by
      intro hs2 l2 hk
      induction hk with
      | nil =>
        intro w h fl upS
        refine wpAny_handleBy_nil ?_
        obtain ⟨k1, k2, k3, oe, vs, T, oT, ts', he, hz, hd, h1, hr⟩ := id fl
        unfold PySem.passOn
        refine wpAny_bind (wpAny_field he hd h1 ?_)
        rw [if_neg (show ¬ ((Value.ref T == Value.none) = true) by simp)]
        have out : wpAny (model X.prog X.w) X.A (setFlight (.ref a) X.env.frame) (fun _ s4 => wpAny (model X.prog X.w) X.A (throw (.ref a) : Sem Flow) (SP X pins D) X.xe s4) X.xe { s' with heap := h } := by
          rw [hf]
          exact HandSPX.setFlight_upZ fl fun h4 hh4 up4 => wpAny_throw (tk _ _ ⟨a, B, sI, pins, σ', H', cls, d, rfl, J, gr, upS.trans up4, .inr (.inr (by rw [hs]; exact hh4)), na, os, ag, w⟩)
        first
          | exact wpAny_bind (wpAny_pure (wpAny_bind out))
          | exact wpAny_bind out
      | @cons t cs nm sl ts b₀ suite pos' hds2 l3 ht hn hsu r ih =>
        intro w h fl upS
        obtain ⟨b, hb1, yes, no⟩ := w
        obtain ⟨oe, hfl, hz, he, S⟩ := suiteAt (tk' := 0) fl upS
        have LT : PySem.W.Looks (model X.prog X.w) h (typeOf (.ref a)) cls := fun A Q E s k q => wpAny_typeOf_ref (k _ _ he) (by rw [hz.1]; exact q)
        have htS : Cls (X.suite a ((a, oe) :: (X.pn ++ pins))) t cs := by
          have nmS : ∀ {es : List Expr} {cs : List Value}, NamesAll X es cs → NamesAll (X.suite a ((a, oe) :: (X.pn ++ pins))) es cs := by
            intro es cs z
            induction z with
            | nil => exact .nil
            | cons n r ih => exact .cons n ih
          cases ht with
          | one n => exact .one n
          | tup n z => exact .tup (nmS n) z
        refine wpAny_handleBy_cons (codeAny_handlers_test ?_) (by intro q; cases q)
        have next : ∀ h2, HandSPX.FlyingZ B (X.env :: X.outer) a (Zc cls d) h2 → sI.heap.UpToSlots h2 →
            (match (Except.ok (if b then Flow.brk else Flow.next) : Result) with
              | .ok .brk => codeAny (model X.prog X.w) (X.A.mark (some (.ref a))) (.handlers (.ref a) [.ExceptHandler none nm (b₀ :: suite) pos'] X.env) (fun r s₂ => match (generalizing := false) r with
                  | .ok f => (match (generalizing := false) nm with
                    | none => SP X pins D f s₂
                    | some n => wpAny (model X.prog X.w) X.A (do bindName X.env n .none; unbindBehindTheSuite X.env n pos') (fun _ s₃ => SP X pins D f s₃) X.xe s₂)
                  | .error x => cameBackBy (model X.prog X.w) X.A X.env X.xe x s₂) { s' with heap := h2 }
              | .ok _ => wpAny (model X.prog X.w) X.A (handleBy (.ref a) X.env hds2) (SP X pins D) X.xe { s' with heap := h2 }
              | .error x => cameBackBy (model X.prog X.w) X.A X.env X.xe x { s' with heap := h2 }) := by
          intro h2 fl2 up2
          cases b with
          | false => exact ih (no rfl) h2 fl2 up2
          | true =>
            rcases hn with ⟨rfl, rfl⟩ | ⟨n, i, rfl, rfl, hi, hl⟩
            · refine codeAny_handlers_suite (HandSPX.lands_againZ fl2 fun h4 fl4 up4 => ?_)
              obtain ⟨oe4, f4, z4, e4, S4⟩ := suiteAt (tk' := 0) fl4 (up2.trans up4)
              refine wpAny_mono ((hsu a oe4 cls d (X.pn ++ pins) z4 f4).run [] _ _ H' _ S4 (yes rfl a na)) (fun f s6 z => ?_) (fun _ _ z => z.elim)
              cases f with
              | next => exact z.elim fun σ6 z => z.elim fun H6 z => ⟨σ6, H6, z.1.unsuite ok, z.2⟩
              | brk => exact z.elim fun σ6 z => z.elim fun H6 z => ⟨σ6, H6, z.1.unsuite ok, z.2⟩
              | cont => exact z.elim fun σ6 z => z.elim fun H6 z => ⟨σ6, H6, z.1.unsuite ok, z.2⟩
              | ret u => obtain ⟨v6, σ6, H6, S6, r6, q6⟩ := z; exact ⟨v6, σ6, H6, S6.unsuite ok, r6, q6⟩
            · refine codeAny_handlers_suite_as (HandSPX.lands_againZ fl2 fun h4 fl4 up4 => ?_)
              obtain ⟨oe4, f4, z4, e4, S4⟩ := suiteAt (tk' := 0) fl4 (up2.trans up4)
              refine store_ok (X := X.suite a ((a, oe4) :: (X.pn ++ pins))) (v := .ref a) S4 hN hi (.inl hl) rfl (fun s5 S5 => ?_) (.inr hl)
              refine wpAny_mono ((hsu a oe4 cls d (X.pn ++ pins) z4 f4).run [] s5 _ H' _ S5 (yes rfl a na)) (fun f s6 z => ?_) (fun _ _ z => z.elim)
              cases f with
              | next => obtain ⟨σ6, H6, S6, q6⟩ := z; exact gone_ok (S6.unsuite ok) hN hi hl fun s7 J7 => ⟨_, _, J7, q6⟩
              | brk => obtain ⟨σ6, H6, S6, q6⟩ := z; exact gone_ok (S6.unsuite ok) hN hi hl fun s7 J7 => ⟨_, _, J7, q6⟩
              | cont => obtain ⟨σ6, H6, S6, q6⟩ := z; exact gone_ok (S6.unsuite ok) hN hi hl fun s7 J7 => ⟨_, _, J7, q6⟩
              | ret u => obtain ⟨v6, σ6, H6, S6, r6, q6⟩ := z; exact gone_ok (S6.unsuite ok) hN hi hl fun s7 J7 => ⟨_, _, _, J7, r6, q6⟩
        exact cls_run S LT htS hb1 (next h fl upS) fun o => next _ (flying_push fl) (upS.trans (Heap.UpToSlots.of_keeps fun b u z => Heap.get?_push_of_some _ z))
    exact go hh w h3 fl3 (up.trans up3)
  · cases f with
    | next => exact z.elim fun σ' z => z.elim fun H' z => wpAny_execs_nil ⟨σ', H', z.1.ofTry ok, z.2⟩
    | brk => exact z.elim fun σ' z => z.elim fun H' z => ⟨σ', H', z.1.ofTry ok, z.2⟩
    | cont => exact z.elim fun σ' z => z.elim fun H' z => ⟨σ', H', z.1.ofTry ok, z.2⟩
    | ret u => obtain ⟨v, σ', H', J', r, q⟩ := z; exact ⟨v, σ', H', J'.ofTry ok, r, q⟩
end
end K0
end
/-! ### LT1 -/
section
set_option Elab.async false
set_option linter.all false
set_option maxRecDepth 100000
set_option maxHeartbeats 4000000
/-! _law_told. -/
namespace K0
open PySem PySem.Spec PyProof.Rows L2 Rd DN StX OE
theorem scTold : FnScope ["runs"] ["runs"] (defScope (top iTold)) := ⟨rfl, rfl, rfl, by decide +kernel, rfl, by decide +kernel, by decide +kernel⟩
/-- what every exception is let to say in a try's body -/
def WAll (W : WX) : XK := fun cls d H => ∀ σ, W cls d σ H
def tsStr (z : Str) : Addr → Value → Option Addr → TS := fun _ _ _ D σ H => D.rt (.str z) H
abbrev spOf2 (K : PySem.W.Frag) (CH CE : Addr) : Sp := fun vs H Q E => spOf K CH CE (vs ++ []) H Q E
def spTold (K : PySem.W.Frag) (CH : Addr) : Sp := fun vs H Q _ => ∃ (v : V) (d : PyData), vs = [v] ∧ Dv K H v d ∧ d.bulk ≤ 100000 ∧ (isHoleD d = true → ∀ H' x, Same H H' → H x = none → HoleAt K CH H' x (itemsD d) → Q (.ref x) H') ∧
  (isHoleD d = false → ∀ H', Same H H' → Q (.str "no hole") H')
section
variable {P : Program} {w : World} {K : PySem.W.Frag} {mg : Str → Option Value} {base : Heap} {f CH CE pO gO : Addr} {mc : Value} {fd fdO : FuncData}
theorem ok_told {k : Nat} (F : FnP K "_law_told" iTold f fd) (gH : mg "Hole" = some (.ref CH)) (gE : mg "InvalidHole" = some (.ref CE)) (hm : PySem.W.exmOne K (.ref CE) (.ref CE) = some true) (kH : PySem.W.keepIn K (.ref CH) = true)
    (rd : ClX.CRead K CH mc) (cm : ClX.CMet K CH mc "of" pO gO) (FO : FnOk P w K mg base (L2.CX P w) (k + 6) gO fdO ["cls", "runs"] (spOf K CH CE)) (bO : Binds K fdO ["cls", "runs"] []) :
    FnOk P w K mg base CX0 (k + 7) f fd ["runs"] (spTold K CH) := by
  refine F.ok scTold (fun vs H Q E h => ?_) (fun cdv A outer s H vs Q E hr h => ?_)
  · obtain ⟨v, d, rfl, _⟩ := h
    rfl
  · obtain ⟨v, d, rfl, hd, sz, good, bad⟩ := h
    refine ⟨_, PSs.nox (pss_one (ps_tryA (Wout := fun _ _ _ _ => False) (tb := fun W => tRet (ClX.tCMeth CH (spOf2 K CH CE) (WAll W) (tC (.ref CH)) (tCons (tVar 0) tNil))) (l := [⟨[.ref CE], none, tsStr "no hole"⟩]) rfl rfl scTold.nd takes0
        (fun W pn xe tk _ => pss_one (ps_ret (ClX.pe_cmeth (pe_glob (v := .ref CH) (by rfl) gH rfl) rd cm (FO.raw bO .nil) hr (passes_call tk fun cls d σ H z => z σ) (pa_cons (pv 0) pa_nil))))
        (.cons (.one ⟨by rfl, by decide, .inl gE⟩) (.inl ⟨rfl, rfl⟩) (fun a oe cls d pn hz hf => pss_one (ps_ret pe_str)) .nil))), ?_⟩
    refine ⟨rfl, _, rfl, v, d, rfl, hd, sz, fun ok H' x s' nx ha => good ok H' x s' nx ha, fun no H' s' σ => ⟨true, ?_, fun _ a na => bad no H' s', fun e => by cases e⟩⟩
    show (match PySem.W.exmOne K (.ref CE) (.ref CE), (some false : Option Bool) with | some b, some d => some (b || d) | _, _ => none) = some true
    rw [hm]
    rfl
end
end K0
end
/-! ### LT2 -/
section
set_option Elab.async false
set_option linter.all false
set_option maxRecDepth 100000
set_option maxHeartbeats 4000000
/-! Hole(..) with runs one by one; _law_told_alone. -/
namespace K0
open PySem PySem.Spec PyProof.Rows L2 Rd DN StX OE
abbrev spInit2 (K : PySem.W.Frag) (CH CE : Addr) : Sp := fun vs H Q E => ∃ ws rest, vs = ws ++ rest ∧ ws.length = 1 ∧ rest.length ≤ sizeLine ∧ ∀ p, H p = Option.none → spInit K CH CE (ws ++ [V.ref p]) (upd H p (.tup rest)) Q E
theorem make_hole {K : PySem.W.Frag} {CH CE : Addr} {H : Hp} {xs : List V} {ds : List PyData} {Q : VK} {E : XK} (hA : DvAll K H xs ds) (sz2 : PyData.bulkAll ds ≤ 100000) (good : holeD ds = true → ∀ H' x, Same H H' → H x = none → HoleAt K CH H' x ds → Q (.ref x) H')
    (bad : holeD ds = false → ∀ H', Same H H' → E (.ref CE) none H') : ∀ x dx, H x = Option.none → H dx = Option.none → dx ≠ x → spInit2 K CH CE (V.ref x :: xs) (upd (upd H dx (.own x)) x (.ins CH dx [])) (fun v H2 => v = .non ∧ Q (.ref x) H2) E := by
  intro x dx nx ndx ne
  have sl : sizeLine = 16777216 := sizeLine_eq
  have dl := bulk_len ds
  have xl := hA.length
  refine ⟨[.ref x], xs, rfl, rfl, by omega, fun p np => ?_⟩
  have s0 : Same H (upd (upd H dx (.own x)) x (.ins CH dx [])) := fun y o u => by
    rw [upd_ne (ne_of_none u nx), upd_ne (ne_of_none u ndx)]
    exact u
  have s1 := s0.trans (same_upd np (o := .tup xs))
  have xp : x ≠ p := ne_of_none upd_same np
  refine ⟨x, dx, p, xs, ds, rfl, by rw [upd_ne xp, upd_same], .of upd_same, DvAll.same s1 ds _ hA, sz2, fun ok H' t s2 nt rd => ⟨rfl, ?_⟩, fun no H' s2 => bad no H' (s1.trans s2)⟩
  have hx' : H' x = some (.ins CH dx []) := s2 _ _ (by rw [upd_ne xp, upd_same])
  have s3 : Same H (upd H' x (.ins CH dx [("_runs", .ref p), ("_reader", .ref t)])) := fun y o u => by
    rw [upd_ne (ne_of_none u nx)]
    exact s2 _ _ (s1 _ _ u)
  refine good ok _ x s3 nx ⟨dx, p, t, xs, upd_same, .of ?_, DvAll.same s3 ds _ hA, rd.keep fun y o u ho => ?_, ok⟩
  · rw [upd_ne xp.symm]
    exact s2 _ _ upd_same
  · rw [upd_ne (fun e => by
      rw [e, hx'] at u
      rcases ho with ⟨_, rfl⟩ | ⟨_, rfl⟩
      · cases u
      · cases u)]
    exact u
section
variable {X : Cx} {CX : CXT} {k : Nat} {f C : Addr} {sp : Sp} {E : XK} {x : Str} {p pos : Pos}
/-- C() by a positional promise of its __init__ -/
theorem pe_makeR0 (M : Mk X.K C f) (F : FnR X.prog X.w X.K X.mg X.base CX k f sp) (hr : Room (k + 1) X.A) (hg : Gl X x) (hm : X.mg x = some (.ref C)) (hx : Passes CX X E) (hdb : (x == ("__debug__" : Str)) = false := by decide) : PE X (.Call (.Name x p) [] [] pos) (tMakeR C sp E tNil) := by
  refine ⟨fun pins s σ H Q I h => ?_⟩
  refine wpAny_Call_Name_kw (ld_glob I hg hm ?_ hdb)
  exact PySem.W.callWith_K0 I.kIn M.kp (run_makeR (us := []) M F hr hx I .nil h)
end
theorem scAlone : FnScope ["way", "one", "two"] ["way", "one", "two"] (defScope (top iAlone)) := ⟨rfl, rfl, rfl, by decide +kernel, rfl, by decide +kernel, by decide +kernel⟩
def aloneD (way : Nat) (d e : PyData) : List PyData := if way = 0 then [d] else if way = 1 then [d, e] else if way = 2 then [] else [d, e, d, e, d]
def spAlone (K : PySem.W.Frag) (CH : Addr) : Sp := fun vs H Q _ => ∃ (way : Nat) (v u : V) (d e : PyData), vs = [.int (way : Nat), v, u] ∧ Dv K H v d ∧ Dv K H u e ∧ d.bulk ≤ 19000 ∧ e.bulk ≤ 19000 ∧
  (holeD (aloneD way d e) = true → ∀ H' x, Same H H' → H x = none → HoleAt K CH H' x (aloneD way d e) → Q (.ref x) H') ∧ (holeD (aloneD way d e) = false → ∀ H', Same H H' → Q (.str "no hole") H')
section
variable {P : Program} {w : World} {K : PySem.W.Frag} {mg : Str → Option Value} {base : Heap} {f CH CE fN : Addr} {fd : FuncData}
theorem ok_alone {k : Nat} (F : FnP K "_law_told_alone" iAlone f fd) (gH : mg "Hole" = some (.ref CH)) (gE : mg "InvalidHole" = some (.ref CE)) (hm : PySem.W.exmOne K (.ref CE) (.ref CE) = some true) (M : Mk K CH fN)
    (FN : FnR P w K mg base (L2.CX P w) (k + 4) fN (spInit2 K CH CE)) : FnOk P w K mg base CX0 (k + 6) f fd ["way", "one", "two"] (spAlone K CH) := by
  refine F.ok scAlone (fun vs H Q E h => ?_) (fun cdv A outer s H vs Q E hr h => ?_)
  · obtain ⟨way, v, u, d, e, rfl, _⟩ := h
    rfl
  · obtain ⟨way, v, u, d, e, rfl, hd, he, sz1, sz2, good, bad⟩ := h
    refine ⟨_, PSs.nox (pss_one (ps_tryA (Wout := fun _ _ _ _ => False) (tb := fun W => tSeq (tIfS (tTest (tOp rEq (tVar 0) (tC (.int 0)))) (tRet (tMakeR CH (spInit2 K CH CE) (WAll W) (tCons (tVar 1) tNil))) tNext)
          (tSeq (tIfS (tTest (tOp rEq (tVar 0) (tC (.int 1)))) (tRet (tMakeR CH (spInit2 K CH CE) (WAll W) (tCons (tVar 1) (tCons (tVar 2) tNil)))) tNext)
          (tRet (tIf (tTest (tOp rEq (tVar 0) (tC (.int 2)))) (tMakeR CH (spInit2 K CH CE) (WAll W) tNil) (tMakeR CH (spInit2 K CH CE) (WAll W) (tCons (tVar 1) (tCons (tVar 2) (tCons (tVar 1) (tCons (tVar 2) (tCons (tVar 1) tNil))))))))))
        (l := [⟨[.ref CE], none, tsStr "no hole"⟩]) rfl rfl scAlone.nd takes0
        (fun W pn xe tk _ => pss_cons (ps_if (pt_cmpR op_eq (pv 0) pe_int (nomark _)) (pss_one (ps_ret (pe_makeR M FN hr (by rfl) gH (passes_call tk fun cls d σ H z => z σ) (pa_cons (pv 1) pa_nil)))) pss_nil)
          (pss_cons (ps_if (pt_cmpR op_eq (pv 0) pe_int (nomark _)) (pss_one (ps_ret (pe_makeR M FN hr (by rfl) gH (passes_call tk fun cls d σ H z => z σ) (pa_cons (pv 1) (pa_cons (pv 2) pa_nil))))) pss_nil)
          (pss_one (ps_ret (pe_ifExp (pt_cmpR op_eq (pv 0) pe_int (nomark _)) (pe_makeR0 M FN hr (by rfl) gH (passes_call tk fun cls d σ H z => z σ))
            (pe_makeR M FN hr (by rfl) gH (passes_call tk fun cls d σ H z => z σ) (pa_cons (pv 1) (pa_cons (pv 2) (pa_cons (pv 1) (pa_cons (pv 2) (pa_cons (pv 1) pa_nil))))))))))) 
        (.cons (.one ⟨by rfl, by decide, .inl gE⟩) (.inl ⟨rfl, rfl⟩) (fun a oe cls d pn hz hf => pss_one (ps_ret pe_str)) .nil))), ?_⟩
    have fly : ∀ (xs : List V) (ds : List PyData), aloneD way d e = ds → DvAll K H xs ds → PyData.bulkAll ds ≤ 100000 → ∀ x dx, H x = Option.none → H dx = Option.none → dx ≠ x →
        spInit2 K CH CE (V.ref x :: xs) (upd (upd H dx (.own x)) x (.ins CH dx [])) (fun v H2 => v = .non ∧ Q (.ref x) H2) (WAll (wAny K (fun _ _ _ _ => False) { nx := fun _ H' => Q .non H', rt := Q } [⟨[.ref CE], none, tsStr "no hole"⟩])) := fun xs ds eds hA sz => by
      refine make_hole hA sz (fun ok H' x s nx ha => ?_) (fun no H' s' σ => ⟨true, ?_, fun _ a na => ?_, fun e => by cases e⟩)
      · rw [eds] at good
        exact good ok H' x s nx ha
      · show (match PySem.W.exmOne K (.ref CE) (.ref CE), (some false : Option Bool) with | some b, some d => some (b || d) | _, _ => none) = some true
        rw [hm]
        rfl
      · rw [eds] at bad
        exact bad no H' s'
    have ne : ∀ m : Nat, way ≠ m → ¬ (!decide (V.int ((way : Nat) : Int) = V.int ((m : Nat) : Int))) = false := fun m h => by
      have z : ¬ (V.int ((way : Nat) : Int) = V.int ((m : Nat) : Int)) := fun q => by
        injection q with q
        omega
      rw [decide_eq_false z]
      decide
    have eq : ∀ m : Nat, V.int ((way : Nat) : Int) = V.int ((m : Nat) : Int) → way = m := fun m q => by
      injection q with q
      omega
    refine ⟨_, rfl, rfl, _, rfl, ite2 (fun e0 => ?_) (fun e0 => ?_)⟩
    · have e0 : way = 0 := eq 0 (of_decide_eq_true e0)
      exact ⟨_, rfl, fly [v] [d] (by rw [e0]; rfl) (.cons hd .nil) (by simp only [PyData.bulkAll]; omega)⟩
    have n0 : way ≠ 0 := fun q => e0 (decide_eq_true (by rw [q]; rfl))
    refine ⟨_, rfl, rfl, _, rfl, ite2 (fun e1 => ?_) (fun e1 => ?_)⟩
    · have e1 : way = 1 := eq 1 (of_decide_eq_true e1)
      exact ⟨_, rfl, _, rfl, fly [v, u] [d, e] (by rw [e1]; rfl) (.cons hd (.cons he .nil)) (by simp only [PyData.bulkAll]; omega)⟩
    have n1 : way ≠ 1 := fun q => e1 (decide_eq_true (by rw [q]; rfl))
    refine ⟨_, rfl, rfl, _, rfl, ite2 (fun e2 => ?_) (fun e2 => ?_)⟩
    · have e2 : way = 2 := eq 2 (of_decide_eq_true e2)
      exact fly [] [] (by rw [e2]; rfl) .nil (by simp only [PyData.bulkAll]; omega)
    have n2 : way ≠ 2 := fun q => e2 (decide_eq_true (by rw [q]; rfl))
    exact ⟨_, rfl, _, rfl, _, rfl, _, rfl, _, rfl, fly [v, u, v, u, v] [d, e, d, e, d] (by unfold aloneD; rw [if_neg n0, if_neg n1, if_neg n2]) (.cons hd (.cons he (.cons hd (.cons he (.cons hd .nil))))) (by simp only [PyData.bulkAll]; omega)⟩
end
end K0
end
/-! ### O1 -/
section
set_option Elab.async false
set_option linter.all false
set_option maxRecDepth 100000
set_option maxHeartbeats 4000000
namespace K0
open PySem PySem.Spec PyProof.Rows L2
def odd1 : List PyData := [.none, .bool true, .bool false, .int (-1), .int (10 ^ Int.toNat 39), .int (10 ^ Int.toNat 40), .int 3, .tuple [], .list [], .dict [], .str "A", .str "a b", .str "\n", .str "z", .tuple [.str "a"], .list [.str "a"], .dict [(.str "a", .int 1)]]
def odd2 : List PyData := [.tuple [.str "b", .str "a"], .tuple [.str "a", .str "a"], .tuple [.str ""], .tuple [.str "ab"], .tuple [.str "a", .int 1], .tuple [.str "a", .none], .str (rep "a" 2001), .tuple [.tuple []], .str "4", .str "!", .str "~"]
def fitB (d : PyData) : Bool := d.showable && (d.leavesShort 60 && (decide (d.bulk ≤ 10000) && decide (d.depth ≤ 7)))
structure Fit7 (d : PyData) : Prop where
  fit : Fit d
  bulk : d.bulk ≤ 10000
  depth : d.depth ≤ 7
theorem fitB_ok {d : PyData} (h : fitB d = true) : Fit7 d := by
  obtain ⟨h1, h⟩ := Bool.and_eq_true_iff.mp h
  obtain ⟨h2, h⟩ := Bool.and_eq_true_iff.mp h
  obtain ⟨h3, h4⟩ := Bool.and_eq_true_iff.mp h
  have h3 := of_decide_eq_true h3
  have h4 := of_decide_eq_true h4
  exact ⟨⟨h1, h2, by omega, by omega⟩, h3, h4⟩
theorem odd_fits {d : PyData} (h : (odd1 ++ odd2).all fitB = true) (m : d ∈ odd1 ++ odd2) : Fit7 d := fitB_ok (List.all_eq_true.mp h d m)
theorem odd_fit : (odd1 ++ odd2).all fitB = true := by decide +kernel
theorem scOdd : FnScope ["dice", "some"] ["dice"] (defScope (top iOdd)) := ⟨rfl, rfl, rfl, by decide +kernel, rfl, by decide +kernel, by decide +kernel⟩
def spOdd (K : PySem.W.Frag) : Sp := fun vs H Q _ => ∃ (p : Addr) (a b c : Int), vs = [.ref p] ∧ H p = some (dk a b c) ∧ ∀ H' x d, Keep p H H' → Dv K (hid p H') x d → d ∈ odd1 ++ odd2 → Q x H'
theorem keep_of {p : Addr} {H H' : Hp} (e : Same H H') (a b c : Int) : Keep p H (upd H' p (dk a b c)) := ⟨fun d o n z => by rw [upd_ne n]; exact e _ _ z, a, b, c, upd_same⟩
theorem rd_lst {K : PySem.W.Frag} {p : Addr} {σ : L2.St} {H : Hp} {Q : VK} {ta : TA} {ds : List PyData} (ev : EvN K p σ ta ds) (D0 : Dice p H) (hl : ds.length ≤ 1000) (k : ∀ xs H1 l, Same H H1 → DvAll K (hid p H1) xs ds → H1 l = none → Q (.ref l) (upd H1 l (.lst xs))) : tLst ta σ H Q :=
  ev H _ D0 fun xs H1 e1 v1 => ⟨by rw [v1.length]; exact Nat.le_of_lt (small1000 hl), fun l n => k xs H1 l e1 v1 n⟩
theorem sq_asg {te : TE} {i : Nat} {u : TS} {D : Ends} {σ : L2.St} {H : Hp} (h : te σ H fun x H1 => u D (σ.set i (some x)) H1) : tSeq (tAsg te (gName i)) u D σ H := h
section
variable {P : Program} {w : World} {K : PySem.W.Frag} {mg : Str → Option Value} {base : Heap} {f fO : Addr} {fd fdO : FuncData}
theorem ev_odd1 {p : Addr} {σ : L2.St} : ∃ t, EvN K p σ t odd1 := ⟨_, (ev_cons ev_non (ev_cons ev_bl (ev_cons ev_bl (ev_cons ev_neg (ev_cons (ev_pow ⟨by decide, by decide +kernel⟩) (ev_cons (ev_pow ⟨by decide, by decide +kernel⟩) (ev_cons ev_int (ev_cons (ev_tup ev_nil (by decide)) (ev_cons (ev_lst ev_nil (by decide)) (ev_cons ev_dict0 (ev_cons ev_str (ev_cons ev_str (ev_cons ev_str (ev_cons ev_str (ev_cons (ev_tup (ev_cons ev_str ev_nil) (by decide)) (ev_cons (ev_lst (ev_cons ev_str ev_nil) (by decide)) (ev_cons ev_dict1 ev_nil)))))))))))))))))⟩
theorem ok_odd {k : Nat} (F : FnP K "_law_odd" iOdd f fd) (FO : FnOk P w K mg base CX0 (k + 2) fO fdO ["dice", "items"] (spOne K)) (gO : mg "_law_one_of" = some (.ref fO)) (kO : PySem.W.keepIn K (.ref fO) = true) (bO : Binds K fdO ["dice", "items"] []) :
    FnOk P w K mg base CX0 (k + 3) f fd ["dice"] (spOdd K) := by
  refine F.ok scOdd (fun vs H Q E h => ?_) (fun cdv A outer s H vs Q E hr h => ?_)
  · obtain ⟨p, a, b, c, rfl, _⟩ := h
    rfl
  · obtain ⟨p, a, b, c, rfl, hp, q⟩ := h
    refine ⟨_, PSs.nox (pss_cons (ps_set (i := 1) scOdd.nd rfl (.inl rfl) (pe_lst (pa_cons pe_non (pa_cons pe_bl (pa_cons pe_bl (pa_cons (pe_un un_neg pe_int) (pa_cons (pe_op op_powBits pe_int pe_int) (pa_cons (pe_op op_powBits pe_int pe_int) (pa_cons pe_int (pa_cons (pe_tup pa_nil) (pa_cons (pe_lst pa_nil) (pa_cons pe_dnewK (pa_cons pe_str (pa_cons pe_str (pa_cons pe_str (pa_cons pe_str (pa_cons (pe_tup (pa_cons pe_str pa_nil)) (pa_cons (pe_lst (pa_cons pe_str pa_nil)) (pa_cons (pe_disp (pps_cons pe_str pe_int pps_nil) rfl rfl (by simp) (by decide)) pa_nil)))))))))))))))))))
      (pss_cons (ps_set (i := 1) scOdd.nd rfl (.inl rfl) (pe_op op_cat (pv 1) (pe_lst (pa_cons (pe_tup (pa_cons pe_str (pa_cons pe_str pa_nil))) (pa_cons (pe_tup (pa_cons pe_str (pa_cons pe_str pa_nil))) (pa_cons (pe_tup (pa_cons pe_str pa_nil)) (pa_cons (pe_tup (pa_cons pe_str pa_nil)) (pa_cons (pe_tup (pa_cons pe_str (pa_cons pe_int pa_nil))) (pa_cons (pe_tup (pa_cons pe_str (pa_cons pe_non pa_nil))) (pa_cons (pe_op op_strMul pe_str pe_int) (pa_cons (pe_tup (pa_cons (pe_tup pa_nil) pa_nil)) (pa_cons pe_str (pa_cons pe_str (pa_cons pe_str pa_nil))))))))))))))
      (pss_one (ps_ret (pe_call FO hr (by rfl) gO kO bO .nil pass0 (pa_cons (pv 0) (pa_cons (pv 1) pa_nil))))))), ?_⟩
    have D0 : Dice p H := ⟨a, b, c, hp⟩
    refine sq_asg (rd_lst (ds := odd1) (p := p) (K := K) (ev_cons ev_non (ev_cons ev_bl (ev_cons ev_bl (ev_cons ev_neg (ev_cons (ev_pow ⟨by decide, by decide +kernel⟩) (ev_cons (ev_pow ⟨by decide, by decide +kernel⟩) (ev_cons ev_int (ev_cons (ev_tup ev_nil (by decide)) (ev_cons (ev_lst ev_nil (by decide)) (ev_cons ev_dict0 (ev_cons ev_str (ev_cons ev_str (ev_cons ev_str (ev_cons ev_str (ev_cons (ev_tup (ev_cons ev_str ev_nil) (by decide)) (ev_cons (ev_lst (ev_cons ev_str ev_nil) (by decide)) (ev_cons ev_dict1 ev_nil))))))))))))))))) D0 (by decide) fun xs1 H1 l1 e1 v1 n1 => ?_)
    have s1 : Same H (upd H1 l1 (.lst xs1)) := e1.trans (same_upd n1)
    refine sq_asg ⟨_, rfl, rd_lst (ds := odd2) (p := p) (K := K) (ev_cons (ev_tup (ev_cons ev_str (ev_cons ev_str ev_nil)) (by decide)) (ev_cons (ev_tup (ev_cons ev_str (ev_cons ev_str ev_nil)) (by decide)) (ev_cons (ev_tup (ev_cons ev_str ev_nil) (by decide)) (ev_cons (ev_tup (ev_cons ev_str ev_nil) (by decide)) (ev_cons (ev_tup (ev_cons ev_str (ev_cons ev_int ev_nil)) (by decide)) (ev_cons (ev_tup (ev_cons ev_str (ev_cons ev_non ev_nil)) (by decide)) (ev_cons (ev_rep (by decide +kernel)) (ev_cons (ev_tup (ev_cons (ev_tup ev_nil (by decide)) ev_nil) (by decide)) (ev_cons ev_str (ev_cons ev_str (ev_cons ev_str ev_nil))))))))))) (D0.same s1) (by decide) fun xs2 H2 l2 e2 v2 n2 => ?_⟩
    have s2 : Same (upd H1 l1 (.lst xs1)) (upd H2 l2 (.lst xs2)) := e2.trans (same_upd n2)
    have hlen : (xs1 ++ xs2).length = 28 := by rw [List.length_append, v1.length, v2.length]; rfl
    refine ⟨l1, l2, xs1, xs2, rfl, rfl, s2 _ _ upd_same, upd_same, by rw [← List.length_append, hlen]; decide, fun l3 n3 => ?_⟩
    have s3 : Same (upd H2 l2 (.lst xs2)) (upd (upd H2 l2 (.lst xs2)) l3 (.lst (xs1 ++ xs2))) := same_upd n3
    obtain ⟨a3, b3, c3, hp3⟩ := D0.same ((s1.trans s2).trans s3)
    have nl : l3 ≠ p := (D0.same (s1.trans s2)).ne n3
    refine ⟨_, rfl, _, rfl, p, a3, b3, c3, _, xs1 ++ xs2, rfl, hp3, .inl ⟨l3, rfl, .inl (.of upd_same)⟩, (fun z => by rw [z] at hlen; cases hlen), (by rw [hlen]; decide), fun a' b' c' => .inl ⟨l3, rfl, .inl (.of (by rw [upd_ne nl, upd_same]))⟩, fun a' b' c' i x hx => ?_⟩
    have V1 : DvAll K (hid p (upd (upd (upd H2 l2 (.lst xs2)) l3 (.lst (xs1 ++ xs2))) p (dk a' b' c'))) xs1 odd1 := v1.same (hid_same fun d o n z => by rw [upd_ne n]; exact s3 _ _ (s2 _ _ (same_upd n1 _ _ z)))
    have V2 : DvAll K (hid p (upd (upd (upd H2 l2 (.lst xs2)) l3 (.lst (xs1 ++ xs2))) p (dk a' b' c'))) xs2 odd2 := v2.same (hid_same fun d o n z => by rw [upd_ne n]; exact s3 _ _ (same_upd n2 _ _ z))
    obtain ⟨d, hd, hv⟩ := (V1.append V2).get hx
    exact q _ x d (keep_of ((s1.trans s2).trans s3) a' b' c') hv (List.mem_of_getElem? hd)
end
end K0
end
/-! ### A3 -/
section
set_option Elab.async false
set_option linter.all false
set_option maxRecDepth 100000
set_option maxHeartbeats 4000000
/-! A list of anything, held against the empty one; a text told sign by sign. -/
namespace K0
open PySem PySem.Spec PyProof.Rows L2
section
variable {X : Cx}
def rNil (K : PySem.W.Frag) (f : Bool → Bool) : R2 := fun x y H Q => ∃ a b xs, x = .ref a ∧ y = .ref b ∧ SqL K H a xs ∧ SqL K H b [] ∧ Q (.bl (f xs.isEmpty)) H
theorem op_eqNil (hu : X.A.units + 64 < cLine) : OpR X (compareOp .Eq) (rNil X.K id) := by
  intro pins s σ H x y v u Q I rx ry h
  obtain ⟨a, b, xs, rfl, rfl, h1, h2, q⟩ := h
  cases rx
  cases ry
  obtain ⟨its, r1, p1, _⟩ := I.list h1
  obtain ⟨its2, r2, p2, _⟩ := I.list h2
  cases r2
  show wpAny _ _ (richCompare .Eq (.ref a) (.ref b)) _ _ s
  cases r1 with
  | nil => exact SeqAt.RcAt.lists (e := fun _ => true) p1.isList p2.isList rfl (by omega) (fun j h1 _ => absurd h1 (Nat.not_lt_zero _)) X.prog X.w _ _ ⟨.bl true, H, I, rfl, q⟩
  | cons r rr => exact SeqAt.RcAt.lists_lengths p1.isList p2.isList (by simp) (by omega) X.prog X.w _ _ ⟨.bl false, H, I, rfl, q⟩
theorem op_neNil (hu : X.A.units + 64 < cLine) : OpR X (compareOp .NotEq) (rNil X.K not) := by
  intro pins s σ H x y v u Q I rx ry h
  obtain ⟨a, b, xs, rfl, rfl, h1, h2, q⟩ := h
  cases rx
  cases ry
  obtain ⟨its, r1, p1, _⟩ := I.list h1
  obtain ⟨its2, r2, p2, _⟩ := I.list h2
  cases r2
  show wpAny _ _ (richCompare .NotEq (.ref a) (.ref b)) _ _ s
  cases r1 with
  | nil => exact SeqAt.RcNeAt.lists (e := fun _ => true) p1.isList p2.isList rfl (by omega) (fun j h1 _ => absurd h1 (Nat.not_lt_zero _)) X.prog X.w _ _ ⟨.bl false, H, I, rfl, q⟩
  | cons r rr => exact SeqAt.RcNeAt.lists_lengths p1.isList p2.isList (by simp) (by omega) X.prog X.w _ _ ⟨.bl true, H, I, rfl, q⟩
end
/-- what of a text's first m signs is none of the signs -/
def badP (l : List Nat) (m : Nat) : List V := ((l.take m).filter fun c => !decide (c ∈ allSigns.cps.toList)).map fun c => V.str ⟨#[c]⟩
theorem badP_succ {l : List Nat} {m c : Nat} (h : l[m]? = some c) : badP l (m + 1) = badP l m ++ if (!decide (c ∈ allSigns.cps.toList)) = true then [V.str ⟨#[c]⟩] else [] := by
  unfold badP
  rw [List.take_add_one, h, List.filter_append, List.map_append]
  congr 1
  rw [show (some c).toList = [c] from rfl, List.filter_cons, List.filter_nil]
  split <;> rfl
theorem badP_len (l : List Nat) (m : Nat) : (badP l m).length ≤ l.length := by
  unfold badP
  rw [List.length_map]
  exact Nat.le_trans (List.length_filter_le _ _) (by rw [List.length_take]; omega)
theorem badP_end (z : Str) : (badP z.cps.toList z.cps.size).isEmpty = isTextD (.str z) := by
  unfold badP
  rw [show z.cps.size = z.cps.toList.length by simp, List.take_length]
  show _ = z.cps.toList.all fun c => allSigns.cps.contains c
  induction z.cps.toList with
  | nil => rfl
  | cons c l ih =>
    rw [List.all_cons, sg_mem, List.filter_cons]
    cases decide (c ∈ allSigns.cps.toList) with
    | true => rw [Bool.true_and, ← ih]; rfl
    | false => rfl
theorem scLText : FnScope ["value", "sign"] ["value"] (defScope (top iLText)) := ⟨rfl, rfl, rfl, by decide +kernel, rfl, by decide +kernel, by decide +kernel⟩
section
variable {P : Program} {w : World} {K : PySem.W.Frag} {mg : Str → Option Value} {base : Heap} {f : Addr} {fd : FuncData}
theorem ok_ltext {k : Nat} (F : FnP K "_law_is_text" iLText f fd) (misi : mg "isinstance" = none) (mstr : mg "str" = none) : FnOk P w K mg base CX0 (k + 1) f fd ["value"] (spD K isTextD) := by
  refine F.ok scLText (fun vs H Q E h => ?_) (fun cdv A outer s H vs Q E hr h => ?_)
  · obtain ⟨v, d, rfl, _⟩ := h
    rfl
  · obtain ⟨v, d, rfl, hd, sz, q⟩ := h
    refine ⟨_, PSs.nox (pss_one (ps_ret (pe_and (pe_callB call_isi (by rfl) misi boot_isinstance (pa_cons (pv 0) (pa_cons (pe_bltn (v := .ty "str") (by rfl) mstr (by decide +kernel) rfl) pa_nil)))
      (pe_one (pe_cmpR (op_eqNil hr.units) (pe_lc (own := [("sign", 1)]) (g := gName 1) rfl scLText.nd (pi_str (pv 0)) (blkOk_by (N := ["value", "sign"]) (sc := defScope (top iLText)) (by decide +kernel)) (fun _ _ _ _ _ => pg_name (i := 1) scLText.nd rfl (Or.inl rfl))
        (fun _ _ _ _ _ => pts_one (pt_cmpR op_notInS (pv 1) pe_str (by rfl))) (fun _ _ _ _ _ => pv 1)) (pe_lst pa_nil) (nomark _)))))), ?_⟩
    refine ⟨_, rfl, v, _, _, _, _, rfl, .ty _, hd.ty, kit_str d, _, rfl, ite2 (fun e => ?_) (fun e => ?_)⟩
    · obtain ⟨z, rfl, rfl⟩ := is_str hd e
      refine ⟨_, rfl, z, rfl, fun D nD => lc_it (walk_str (z := z)) (fun m H' => Same H H' ∧ H' D = some (.lst (badP z.cps.toList m))) ⟨same_upd nD, upd_same⟩ (fun _ _ _ _ => trivial) (fun m x H' H'' hm hP hY => ?_) (fun H' hP => ?_)⟩
      · obtain ⟨s1, hD⟩ := hP
        obtain ⟨rfl, c, hc, rfl⟩ := hY
        have hc2 : z.cps.toList[m]? = some c := by rw [← hc]; simp
        have hlen : (badP z.cps.toList m).length < sizeLine := Nat.lt_of_le_of_lt (badP_len _ m) (by rw [show z.cps.toList.length = z.cps.size by simp]; exact small5 sz)
        refine ⟨rfl, _, rfl, c, _, rfl, rfl, _, rfl, ite2 (fun b => ?_) (fun b => ?_)⟩
        · refine ⟨_, rfl, badP z.cps.toList m, hD, hlen, fun y o u => by rw [upd_ne (ne_of_none u nD)]; exact s1 _ _ u, ?_⟩
          rw [upd_same, badP_succ hc2, if_pos (show (!decide (c ∈ allSigns.cps.toList)) = true from b)]
        · refine ⟨s1, ?_⟩
          rw [badP_succ hc2, if_neg (show ¬ (!decide (c ∈ allSigns.cps.toList)) = true from b), List.append_nil]
          exact hD
      · obtain ⟨s1, hD⟩ := hP
        refine ⟨by decide, fun l nl => ⟨D, l, _, rfl, rfl, .of (same_upd nl _ _ hD), .of upd_same, ?_⟩⟩
        rw [badP_end]
        exact q _ (s1.trans (same_upd nl))
    · have q2 := q H (Same.refl H)
      rw [(not_str e).1] at q2
      exact q2
end
end K0
end
/-! ### SetTx -/
section
set_option Elab.async false
set_option linter.all false
set_option maxRecDepth 100000
set_option maxHeartbeats 4000000
/-! Sets of texts that can be walked: what they hold, in no order; one more text, new or not. -/
namespace SetTx
open PySem PySem.Spec PyProof.Rows L2 PySem.Froz
/-- the set at a holds the texts l, each once; its table can be walked -/
def Holds (P : Program) (w : World) (h : Heap) (a : Addr) (l : List Str) : Prop := ∃ D : SD, h.get? a = some (sObj "set" D) ∧ TxOk P w D l ∧ Ris D.2.2.place.toList ∧ (w.params.followText "set-order" = true ∨ D.2.2.led = true)
theorem tail_walk {ep : Nat} {es : Array (Int × Value)} {t : SetTable} {b : Bool} (r : Ris t.place.toList) : Ris (tailTx ep es t b).2.2.place.toList ∧ (tailTx ep es t b).2.2.led = t.led := by
  unfold tailTx
  by_cases c : (!b && t.tooFull) = true
  · rw [if_pos c]
    exact ⟨relayAll_ris _ _ _, relayAll_led _ _ _⟩
  · rw [if_neg c]
    exact ⟨r, rfl⟩
theorem add_walk {h : Int} {v : Value} {D : SD} (r : Ris D.2.2.place.toList) : Ris (addTx h v D).2.2.place.toList ∧ (addTx h v D).2.2.led = D.2.2.led := by
  have r1 := layNew_ris D.2.2 D.1 h v r
  have e1 := layNew_led D.2.2 D.1 h v
  unfold addTx
  generalize layNew D.2.2 D.1 h v = L at r1 e1 ⊢
  by_cases c : L.2.1.plain = true
  · rw [if_pos c]
    obtain ⟨z1, z2⟩ := tail_walk (ep := D.2.1) (es := L.1) (t := { L.2.1 with plain := false }) (b := L.2.2.1) r1
    exact ⟨z1, z2.trans e1⟩
  · rw [if_neg c]
    obtain ⟨z1, z2⟩ := tail_walk (ep := D.2.1) (es := L.1) (t := L.2.1) (b := L.2.2.1) r1
    exact ⟨z1, z2.trans e1⟩
section
variable {P : Program} {w : World} {A : Around} {E : Value → Shared → Prop} {s : Shared}
theorem Holds.new {h : Heap} {a : Addr} (ho : h.get? a = some { cls := .type "set", dict := none, data := .set #[] 0 (.fresh 0 0 (!w.params.followText "set-order")) }) : Holds P w h a [] := by
  refine ⟨(#[], 0, .fresh 0 0 (!w.params.followText "set-order")), ho, .nil rfl, List.Pairwise.nil, ?_⟩
  show _ ∨ (!w.params.followText "set-order") = true
  cases w.params.followText "set-order" with
  | true => exact .inl rfl
  | false => exact .inr rfl
/-- a text that is there is not put in again -/
theorem add_old {a : Addr} {D : SD} {l : List Str} {k : Str} {u : Tok} {Q : Bool → Shared → Prop} (ho : s.heap.get? a = some (sObj "set" D)) (F : TxOk P w D l) (old : k ∈ l) (room : l.length + 1 < scanBound) (q : Q false s) :
    wpAny (model P w) A (setAddHashed a (.str k u) (hashStr w k)) Q E s := by
  obtain ⟨es, ep, t⟩ := D
  have few : es.size < scanBound := by
    have := F.sz
    show es.size < _
    have e : es.size = l.length := F.sz
    omega
  obtain ⟨e, he, ek⟩ := (F.mem k).mp old
  unfold setAddHashed setAddHashedIn
  refine wpAny_holding (wpAny_bind (wpAny_setState_of ho rfl F.fit ?_))
  dsimp only
  rw [byScan_of rfl few F.el]
  simp only [↓reduceIte]
  unfold setAddByScan
  refine wpAny_bind (wpAny_bind (wpAny_rule (wpAny_bind (wpAny_setScan_of (knd := strKind P w) (k := k) (is_str k u) ho rfl F.fit F.el ?_))))
  cases f : List.findIdx? (fun e => (strKind P w).is k e.2) es.toList with
  | none =>
    have z := List.findIdx?_eq_none_iff.mp f e he
    rw [ek] at z
    cases z
  | some j => exact wpAny_pure (wpAny_pure q)
theorem Holds.add {a : Addr} {l : List Str} {k : Str} {u : Tok} {Q : Bool → Shared → Prop} (R : Holds P w s.heap a l) (room : l.length + 1 < scanBound)
    (q : ∀ (b : Bool) (h' : Heap), (∀ x o, x ≠ a → s.heap.get? x = some o → h'.get? x = some o) → Holds P w h' a (if k ∈ l then l else k :: l) → Q b { s with heap := h' }) : wpAny (model P w) A (setAddHashed a (.str k u) (hashStr w k)) Q E s := by
  obtain ⟨D, ho, F, r, d⟩ := R
  by_cases old : k ∈ l
  · exact add_old ho F old room (q false s.heap (fun _ _ _ z => z) (by rw [if_pos old]; exact ⟨D, ho, F, r, d⟩))
  · refine add_x ho F old room (q true _ (fun x o n z => (Heap.get?_update_other _ _ (Ne.symm n)).trans z) ?_)
    rw [if_neg old]
    refine ⟨_, get_upd _ ho rfl, add_ok u F, (add_walk r).1, ?_⟩
    rw [(add_walk r).2]
    exact d
end
end SetTx
end
/-! ### SetTx2 -/
section
set_option Elab.async false
set_option linter.all false
set_option maxRecDepth 100000
set_option maxHeartbeats 4000000
/-! set(t) of a tuple of texts. -/
namespace SetTx
open PySem PySem.Spec PyProof.Rows L2 PySem.Froz
section
variable {P : Program} {w : World} {A : Around} {E : Value → Shared → Prop} {s : Shared}
theorem Holds.stay {h h' : Heap} {a : Addr} {l : List Str} (R : Holds P w h a l) (k : ∀ o, h.get? a = some o → h'.get? a = some o) : Holds P w h' a l := let ⟨D, ho, z⟩ := R; ⟨D, k _ ho, z⟩
theorem fill {I S : Addr} {fp wr : List Addr} {G : Array GenState → Array GenState → Prop} {n : Nat} {Pv : Nat → Value → Prop} {St : Nat → Shared → Prop} {R : Result → Shared → Prop} (W : WalksS P w A.in1 I fp wr G n Pv St) (far : S ∉ fp) {zs : List Str} (size : n = zs.length) (room : zs.length + 1 < scanBound)
    (val : ∀ i v, Pv i v → ∃ z t, zs[i]? = some z ∧ v = .str z t) (i : Nat) (s : Shared) (l : List Str) (le : i ≤ n) (st : St i s) (few : l.length ≤ i) (nd : l.Nodup) (mem : ∀ z, z ∈ l ↔ z ∈ zs.take i) (H : Holds P w s.heap S l)
    (fin : ∀ s' l', Moved (S :: wr) G s s' → l'.length ≤ n → l'.Nodup → (∀ z, z ∈ l' ↔ z ∈ zs) → Holds P w s'.heap S l' → R (.ok (.ret .none)) s') : codeAny (model P w) A (.builtin "set.update.loop" ⟨[.ref S, .ref I], []⟩) R s := by
  have out : S ∉ wr := fun z => far (W.sub _ z)
  have more : ∀ b ∈ wr, b ∈ S :: wr := fun b z => List.mem_cons_of_mem _ z
  refine codeAny_builtin F.entry_set_update_loop ?_
  rw [Around.under_plainId F.plain_set_update_loop _]
  show wpAny _ A.in1 (pyNext (.ref I) >>= _) _ _ s
  by_cases lt : i < n
  · refine wpAny_bind (W.item i s _ _ lt st fun v s1 hv st1 mv => ?_)
    obtain ⟨z, t, hz, rfl⟩ := val i v hv
    show wpAny _ A.in1 (holding [Value.str z t] (setAdd S (.str z t)) >>= _) _ _ s1
    refine wpAny_bind (wpAny_holding ?_)
    unfold setAdd
    refine wpAny_holding (wpAny_bind ((strKind P w).pyHash (k := z) (is_str z t) ?_))
    refine Holds.add (s := { s1 with toks := s1.toks + 1 }) (H.stay fun o e => mv.heap S o out e) (by omega) fun b h2 kp H2 => ?_
    have mem2 : ∀ y, y ∈ (if z ∈ l then l else z :: l) ↔ y ∈ zs.take (i + 1) := fun y => by
      rw [List.take_add_one, hz]
      split
      · rename_i old
        rw [mem y, List.mem_append]
        exact ⟨.inl, fun q => q.elim id fun q => by rw [List.mem_singleton.mp q]; exact (mem z).mp old⟩
      · rw [List.mem_cons, List.mem_append, mem y]
        exact ⟨fun q => q.elim (fun q => .inr (List.mem_singleton.mpr q)) .inl, fun q => q.elim .inr fun q => .inl (List.mem_singleton.mp q)⟩
    have nd2 : (if z ∈ l then l else z :: l).Nodup := by
      split
      · exact nd
      · rename_i new
        exact List.nodup_cons.mpr ⟨new, nd⟩
    have few2 : (if z ∈ l then l else z :: l).length ≤ i + 1 := by
      split
      · omega
      · rw [List.length_cons]
        omega
    refine wpAny_pure ⟨plainId_quiet F.plain_set_update_loop _, fill W far size room val (i + 1) _ _ lt (W.frame _ s1 _ _ st1 (Nat.le_succ _) fun b hb o e => kp b o (fun z => far (z ▸ hb)) e) few2 nd2 mem2 H2 fun s3 l3 mv3 a1 a2 a3 a4 => fin s3 l3 (Moved.trans W.gtrans ((mv.mono more).then_heap (Nat.le_succ _) fun b o hb e => kp b o (fun z => hb (z ▸ List.mem_cons_self)) e) mv3) a1 a2 a3 a4⟩
  · refine wpAny_bind (m := pyNext (.ref I)) ?_
    have e : i = n := by omega
    subst e
    refine W.done s _ _ st fun s1 mv => ?_
    show wpAny _ A.in1 (ret Value.none) _ _ s1
    rw [List.take_of_length_le (by omega)] at mem
    exact wpAny_pure (fin s1 l (mv.mono more) few nd mem (H.stay fun o e => mv.heap S o out e))
  termination_by n - i
theorem L2S.strs_get : ∀ {us : List Value} {zs : List Str}, StrsAre us zs → ∀ (i : Nat) (v : Value), us[i]? = some v → ∃ t, ∀ lt : i < zs.length, v = .str zs[i] t
  | _, _, .nil, i, v, h => by cases h
  | _, _, .cons z t r, 0, v, h => ⟨t, fun _ => (Option.some.inj h).symm⟩
  | _, _, .cons z t r, i + 1, v, h => by
    obtain ⟨t', e⟩ := L2S.strs_get r i v (by simpa using h)
    exact ⟨t', fun lt => e (Nat.lt_of_succ_lt_succ lt)⟩
abbrev freshSet (w : World) : Obj := { cls := .type "set", dict := none, data := .set #[] 0 (.fresh 0 0 (!w.params.followText "set-order")) }
theorem call_set_txt {a : Addr} {items : Array Value} {zs : List Str} {Q : Value → Shared → Prop} (hh : A.handled = none) (ht : s.heap.IsTuple a items) (its : StrsAre items.toList zs) (room : zs.length + 1 < scanBound)
    (q : ∀ (h' : Heap) (tk : Nat) (l : List Str), (∀ b o, s.heap.get? b = some o → h'.get? b = some o) → Holds P w h' s.heap.objs.size l → l.Nodup → (∀ z, z ∈ l ↔ z ∈ zs) → l.length ≤ zs.length → Q (.ref s.heap.objs.size) { s with heap := h', toks := tk }) :
    wpAny (model P w) A (call (.type "set") [.ref a]) Q E s := by
  have size : items.size = zs.length := by
    have z := StrsAre.length its
    rw [Array.length_toList] at z
    exact z
  obtain ⟨c0, tl0, mro0⟩ := F.called_set.mro
  have mk0 := F.called_set.made
  have sb0 := F.called_set.sub
  have nt0 := F.called_set.notType
  have cc0 := F.called_set.canCreate
  have tc0 := F.typeCall_set_1 (.ref a)
  refine wpAny_call (codeAny_of_tree (show wpAny _ _ (callAny (.type "set") _) _ _ _ from wpAny_pure ⟨Code.quiet_builtin _ (by decide +kernel), codeAny_builtin F.entry_type_call ?_⟩))
  rw [Around.under_plain (weight_type_call_type "set" [.ref a] []) rfl]
  repeat (any_goals (first | assumption | wp_step))
  refine codeAny_mono (code_set_led1 (.ref a) (E := E) (Q₁ := fun obj s₁ => obj = .ref s.heap.objs.size ∧ s₁ = { s with heap := s.heap.push (freshSet w) }) ⟨rfl, rfl⟩) fun r s₁ hr => ?_
  match r, hr with
  | .error e, hr => exact hr
  | .ok (.ret obj), hr =>
    obtain ⟨rfl, rfl⟩ := hr
    have hS : (s.heap.push (freshSet w)).get? s.heap.objs.size = some (freshSet w) := Heap.get?_push_size _ rfl
    have ty : Shared.TypeIs { s with heap := s.heap.push (freshSet w) } (.ref s.heap.objs.size) "set" := ⟨_, hS, rfl⟩
    have lk0 := F.called_set.init.lookup
    have bd0 := F.called_set.init.bind (.ref s.heap.objs.size)
    repeat (any_goals (first | assumption | wp_step))
    let Got : Shared → Prop := fun s₂ => ∃ (h' : Heap) (tk : Nat) (l : List Str), s₂ = { s with heap := h', toks := tk } ∧ (∀ b o, s.heap.get? b = some o → h'.get? b = some o) ∧ Holds P w h' s.heap.objs.size l ∧ l.Nodup ∧ (∀ z, z ∈ l ↔ z ∈ zs) ∧ l.length ≤ zs.length
    refine codeAny_mono (codeAny_call_builtin (R := wants (fun r s₂ => r = .none ∧ Got s₂) E) F.called_set.init.plain F.entry_set_init (check_set_init_1 ty ?_)) fun r₂ s₂ h₂ => ?_
    · obtain ⟨⟨oc, od, odt, osl⟩, hot, ct, nt, dt⟩ := ht
      simp only at ct dt
      subst ct dt
      have hot1 : (s.heap.push (freshSet w)).get? a = some { cls := .type "tuple", dict := od, data := .seq items nt, slots := osl } := Heap.get?_push_of_some _ hot
      have u1 := F.sub_tuple_set
      have u2 := F.sub_tuple_frozenset
      have u3 : (Value.type "tuple" == Value.type "dict") = false := by decide
      have isT : (s.heap.push (freshSet w)).IsTuple a items := ⟨_, hot1, rfl, nt, rfl⟩
      have aS : a < s.heap.objs.size := Heap.lt_size hot
      unfold Builtin.«set.__init__» noKeywords Builtin.Frozenset.updateFrom
      generalize held : pyIter = PI
      wp_walk
      subst held
      refine wpAny_pyIter_tuple isT (wpAny_bind (wpAny_runValue ?_))
      have sz1 : (s.heap.push (freshSet w)).objs.size = s.heap.objs.size + 1 := Heap.size_push ..
      have apart : a ≠ (s.heap.push (freshSet w)).objs.size := by
        rw [sz1]
        exact Nat.ne_of_lt (Nat.lt_succ_of_lt aS)
      have far : s.heap.objs.size ∉ [(s.heap.push (freshSet w)).objs.size, a] := fun z => by
        rw [sz1] at z
        rcases List.mem_cons.mp z with z | z
        · exact absurd z (Nat.ne_of_lt (Nat.lt_succ_self _))
        · exact absurd (List.mem_singleton.mp z) (Nat.ne_of_gt aS)
      have h3 : A.in1.in1.in1.handled = none := by simp [hh]
      refine fill (Walks.toS (Walks.tuple h3 (s.heap.push (freshSet w)).objs.size a apart items)) far size room (fun i v hv => ?_) 0 _ [] (Nat.zero_le _) ⟨⟨_, Heap.get?_push_size _ rfl, rfl, rfl⟩, isT.push _⟩ (Nat.le_refl _) List.nodup_nil (fun z => by simp) (Holds.new (Heap.get?_push_of_some _ hS)) fun s' l' mv a1 a2 a3 a4 => ?_
      · have lt : i < zs.length := by
          rw [← size]
          exact (Array.getElem?_eq_some_iff.mp hv).1
        obtain ⟨t, e⟩ := L2S.strs_get its i v (by rw [Array.getElem?_toList]; exact hv)
        exact ⟨_, t, List.getElem?_eq_getElem lt, e lt⟩
      · obtain ⟨h', g2, d', tk', os'⟩ := s'
        obtain rfl : g2 = s.gens := mv.gens
        obtain rfl : d' = s.drawn := mv.drawn
        obtain rfl : os' = s.os := mv.os
        show wpAny _ _ _ _ _ _
        refine wpAny_pure ?_
        show wpAny _ _ (ret Value.none) _ _ _
        refine wpAny_pure ⟨rfl, h', tk', l', rfl, fun b o e => ?_, a4, a2, a3, by rw [← size]; exact a1⟩
        have b1 : b < s.heap.objs.size := Heap.lt_size e
        refine mv.heap b o (fun z => ?_) (Heap.get?_push_of_some _ (Heap.get?_push_of_some _ e))
        rcases List.mem_cons.mp z with z | z
        · exact absurd z (Nat.ne_of_lt b1)
        · have z2 := List.mem_singleton.mp z
          rw [sz1] at z2
          exact absurd z2 (Nat.ne_of_lt (Nat.lt_succ_of_lt b1))
    · match r₂, h₂ with
      | .error e, h₂ => exact h₂
      | .ok (.ret r), h₂ =>
        obtain ⟨rfl, h', tk, l, rfl, k1, k2, k3, k4, k5⟩ := h₂
        repeat (any_goals (first | assumption | wp_step))
        exact q _ _ _ k1 k2 k3 k4 k5
end
end SetTx
end
/-! ### SetTx3 -/
section
set_option Elab.async false
set_option linter.all false
set_option maxRecDepth 100000
set_option maxHeartbeats 4000000
/-! sorted(s) of a set of texts. -/
namespace SetTx
open PySem PySem.Spec PyProof.Rows L2 PySem.Froz
section
variable {P : Program} {w : World} {A : Around} {E : Value → Shared → Prop} {s : Shared}
theorem perm_of_sub : ∀ (l ks : List Str), l.Nodup → l ⊆ ks → l.length = ks.length → l.Perm ks
  | [], ks, _, _, e => by
    have z : ks = [] := List.eq_nil_of_length_eq_zero e.symm
    rw [z]
  | a :: l, ks, nd, sub, e => by
    have m : a ∈ ks := sub (List.mem_cons_self ..)
    have n := List.nodup_cons.mp nd
    refine List.Perm.trans (List.Perm.cons a (perm_of_sub l (ks.erase a) n.2 (fun x hx => ?_) ?_)) (List.perm_cons_erase m).symm
    · have ne : x ≠ a := fun q => n.1 (q ▸ hx)
      exact (List.mem_erase_of_ne ne).mpr (sub (List.mem_cons_of_mem _ hx))
    · rw [List.length_erase_of_mem m, ← e]
      rfl
theorem elem_str {D : SD} {l : List Str} (F : TxOk P w D l) : ∀ e ∈ D.1.toList, ∃ k t, e.2 = .str k t := fun e he => by
  obtain ⟨⟨k, hk, _⟩, _⟩ := F.el e he
  have z : Value.isStrOf k e.2 = true := hk
  cases q : e.2 with
  | str y t => exact ⟨y, t, rfl⟩
  | _ => rw [q] at z; cases z
theorem keys_perm {D : SD} {l : List Str} (F : TxOk P w D l) (nd : l.Nodup) : (D.1.toList.map fun e => PyProof.Rows.strOf e.2).Perm l := by
  have sub : l ⊆ D.1.toList.map fun e => PyProof.Rows.strOf e.2 := fun k hk => by
    obtain ⟨e, he, ek⟩ := (F.mem k).mp hk
    obtain ⟨y, t, e2⟩ := elem_str F e he
    have z : Value.isStrOf k e.2 = true := ek
    rw [e2] at z
    refine List.mem_map.mpr ⟨e, he, ?_⟩
    rw [e2]
    show y = k
    simp [Value.isStrOf] at z
    exact z
  refine (perm_of_sub l _ nd sub ?_).symm
  rw [List.length_map]
  exact F.sz.symm
theorem sorted_txt {a : Addr} {l : List Str} {Q : Value → Shared → Prop} (R : Holds P w s.heap a l) (nd : l.Nodup) (hh : A.handled = none) (few : l.length < 1000)
    (q : ∀ s' p (out : Array Value) (c : Nat) (ys : List Str), (∀ b o, s.heap.get? b = some o → s'.heap.get? b = some o) → s'.gens = s.gens → s'.os = s.os → s.heap.objs.size ≤ p → s'.heap.get? p = some (seqObj "list" out c) → StrsAre out.toList ys → ys.Perm l → sortedS ys = true → Q (.ref p) s') :
    wpAny (model P w) A (call (.builtin "sorted") [.ref a]) Q E s := by
  obtain ⟨D, ho, F, r, d⟩ := R
  have big : D.1.size < scanBound := by
    rw [F.sz]
    exact Nat.lt_of_lt_of_le few (by decide)
  refine Calls.call_function_entry kind_sorted plain_sorted entry_sorted (args_sorted1 _) ?_
  unfold Builtin.«sorted»
  refine wpAny_bind (m := checkCount "sorted" 1 1 _) (wpAny_pure (wpAny_bind (collect_set (A := A.in1) (es := D.1) (ep := D.2.1) (t := D.2.2) hh ⟨_, ho, rfl, rfl⟩ F.fit big r d fun s1 vs k1 sz g1 o1 pm => ?_)))
  have vl : vs.length = l.length := by rw [pm.length_eq, List.length_map, Array.length_toList]; exact F.sz
  have all : ∀ v, v ∈ vs → ∃ x t, v = .str x t := fun v hv => by
    obtain ⟨e, he, e2⟩ := List.mem_map.mp (pm.mem_iff.mp hv)
    obtain ⟨y, t, e3⟩ := elem_str F e he
    exact ⟨y, t, by rw [← e2]; exact e3⟩
  have are := strsAre_map vs all
  have pk : (vs.map PyProof.Rows.strOf).Perm l := by
    have z := pm.map PyProof.Rows.strOf
    rw [List.map_map] at z
    exact z.trans (keys_perm F nd)
  have line : vs.length ≤ sizeLine := by rw [vl, sizeLine_eq]; omega
  refine wpAny_bind (wpAny_newList ?_ line)
  have hoL : (s1.heap.push (seqObj "list" vs.toArray 0)).get? s1.heap.objs.size = some (seqObj "list" vs.toArray 0) := Heap.get?_push_size _ rfl
  refine wpAny_bind (wpAny_holding (wpAny_call_entry slot_list_sort ⟨_, hoL, rfl⟩ entry_list_sort (list_sort_treeKAny strKind_oneLt hoL are.keysOf (fun v₁ v₂ rest e => keyKind_strs (by rw [← e]; exact are)) line fun st' hp hs => ⟨_, rfl, ?_⟩) (args_list_sort _)))
  obtain ⟨ys, b1, b2, b3⟩ := sorted_out_str are hp hs
  obtain ⟨c, hc⟩ := sortedHeap_at (vs := vs) (out := (arrOf st').map (·.2)) hoL
  refine wpAny_pure ⟨_, rfl, q _ s1.heap.objs.size _ c ys (fun b u e => ?_) g1 o1 sz hc b1 (b2.trans pk) b3⟩
  have z := k1 b u e
  have lt := Heap.lt_size z
  show (sortedHeap (s1.heap.push (seqObj "list" vs.toArray 0)) s1.heap.objs.size vs _).get? b = some u
  rw [sortedHeap_old (Nat.ne_of_lt lt) (by rw [size_push']; exact Nat.lt_succ_of_lt lt)]
  exact Heap.get?_push_of_some _ z
end
end SetTx
end
/-! ### SetTx4 -/
section
set_option Elab.async false
set_option linter.all false
set_option maxRecDepth 100000
set_option maxHeartbeats 4000000
/-! set(t), sorted(s) of texts as calls over the abstract heap. -/
namespace SetTx
open PySem PySem.Spec PyProof.Rows L2
def TxO (P : Program) (w : World) (a : Addr) (l : List Str) : HO := .ext fun h => Holds P w h a l
theorem txO_new {P : Program} {w : World} {H : Hp} {h : Heap} {a : Addr} {l : List Str} (R : Holds P w h a l) : ObjOk P w H h a (TxO P w a l) := by
  have ⟨D, ho, _⟩ := R
  exact ⟨R, ⟨_, ho⟩, fun h1 h2 p k => p.stay k⟩
section
variable {X : Cx}
def rSetTx (K : PySem.W.Frag) (P : Program) (w : World) : List V → Hp → VK → Prop := fun xs H Q => ∃ (t : Addr) (zs : List Str), xs = [V.ref t] ∧ SqT K H t (zs.map V.str) ∧ zs.length < 1000 ∧
  ∀ a l, H a = none → l.Nodup → (∀ z, z ∈ l ↔ z ∈ zs) → l.length ≤ zs.length → Q (.ref a) (upd H a (TxO P w a l))
theorem cr_setTx (hc : X.calm = true) : CallR X (.type "set") (rSetTx X.K X.prog X.w) := by
  intro pins s σ H xs us Q I r h
  obtain ⟨t, zs, rfl, ht, hl, q⟩ := h
  rw [Vals.ref1 r]
  obtain ⟨its, rv, pl, hz⟩ := I.tuple ht
  have hn : H s.heap.objs.size = none := I.hok.fresh (Nat.le_refl _)
  refine call_set_txt (P := X.prog) (w := X.w) (zs := zs) (I.ok.hd hc) pl (by simpa using rv.strs) (by show _ < 4096; omega) fun h' tk l k R nd mem le => ?_
  exact ⟨.ref s.heap.objs.size, upd H s.heap.objs.size (TxO X.prog X.w s.heap.objs.size l), I.laid (t' := tk) k (Nat.le_refl _) (txO_new R), rfl, q _ l hn nd mem le⟩
def rSortedTx (P : Program) (w : World) : List V → Hp → VK → Prop := fun vs H Q => ∃ (a : Addr) (l : List Str), vs = [V.ref a] ∧ H a = some (TxO P w a l) ∧ l.Nodup ∧ l.length < 1000 ∧
  ∀ (ys : List Str) (p : Addr), ys.Perm l → sortedS ys = true → H p = none → Q (.ref p) (upd H p (.lst (ys.map V.str)))
theorem cr_sortedTx (hc : X.calm = true) : CallR X (.builtin "sorted") (rSortedTx X.prog X.w) := by
  intro pins s σ H vs us Q I r h
  obtain ⟨a, l, rfl, ha, nd, few, q⟩ := h
  have R : Holds X.prog X.w s.heap a l := (I.hok a _ ha).1
  rw [Vals.ref1 r]
  refine sorted_txt R nd (I.ok.hd hc) few fun s' p out c ys k g o hp hg hs pm so => ?_
  have hlen : (ys.map V.str).length ≤ sizeLine := by rw [List.length_map, pm.length_eq, sizeLine_eq]; omega
  have hn : H p = none := I.hok.fresh hp
  have J : Inv X pins σ (upd H p (.lst (ys.map V.str))) { s with heap := s'.heap, gens := s'.gens, drawn := s'.drawn, toks := s'.toks } :=
    I.call (ch := []) (Un.laid k hp hn) (I.hok.laid k hp ⟨hlen, out.toList, c, vals_of_strs hs, hg⟩) (by rw [g]; exact I.bare) (fun _ z => nomatch z)
  have e : s' = { s with heap := s'.heap, gens := s'.gens, drawn := s'.drawn, toks := s'.toks } := by
    cases s'
    cases s
    cases o
    rfl
  rw [e]
  exact ⟨.ref p, _, J, rfl, q ys p pm so hn⟩
end
end SetTx
end
/-! ### LA1 -/
section
set_option Elab.async false
set_option linter.all false
set_option maxRecDepth 100000
set_option maxHeartbeats 4000000
/-! _law_is_integer, _law_are_signs. -/
namespace K0
open PySem PySem.Spec PyProof.Rows L2 SetTx
theorem scLInt : FnScope ["value"] ["value"] (defScope (top iLInt)) := ⟨rfl, rfl, rfl, by decide +kernel, rfl, by decide +kernel, by decide +kernel⟩
def isLIntD : PyData → Bool
  | .int i => decide (-(10 ^ Int.toNat 40) < i) && decide (i < 10 ^ Int.toNat 40)
  | _ => false
theorem scLAre : FnScope ["value", "one"] ["value"] (defScope (top iLAre)) := ⟨rfl, rfl, rfl, by decide +kernel, rfl, by decide +kernel, by decide +kernel⟩
section
variable {P : Program} {w : World} {K : PySem.W.Frag} {mg : Str → Option Value} {base : Heap} {f fT : Addr} {fd fdT : FuncData}
theorem ok_lint {k : Nat} (F : FnP K "_law_is_integer" iLInt f fd) (misi : mg "isinstance" = none) (mint : mg "int" = none) (mbool : mg "bool" = none) : FnOk P w K mg base CX0 (k + 1) f fd ["value"] (spD K isLIntD) := by
  refine F.ok scLInt (fun vs H Q E h => ?_) (fun cdv A outer s H vs Q E hr h => ?_)
  · obtain ⟨v, d, rfl, _⟩ := h
    rfl
  · obtain ⟨v, d, rfl, hd, sz, q⟩ := h
    refine ⟨_, PSs.nox (pss_one (ps_ret (pe_and (pe_callB call_isi (by rfl) misi boot_isinstance (pa_cons (pv 0) (pa_cons (pe_bltn (v := .ty "int") (by rfl) mint (by decide +kernel) rfl) pa_nil))) (pe_and (pe_not (pe_callB call_isi (by rfl) misi boot_isinstance (pa_cons (pv 0) (pa_cons (pe_bltn (v := .ty "bool") (by rfl) mbool (by decide +kernel) rfl) pa_nil))))
      (pe_one (pe_chain op_lt op_lt (pe_un un_neg (pe_op op_powBits pe_int pe_int)) (pv 0) (pe_op op_powBits pe_int pe_int))))))), ?_⟩
    refine ⟨_, rfl, v, _, _, _, _, rfl, .ty _, hd.ty, kit_int d, _, rfl, ite2 (fun e => ?_) (fun e => ?_)⟩
    · refine ⟨_, rfl, v, _, _, _, _, rfl, .ty _, hd.ty, kit_bool d, _, rfl, _, rfl, ite2 (fun e2 => ?_) (fun e2 => ?_)⟩
      · cases hd with
        | int i =>
          have pb : PowBits 10 40 := ⟨by decide, by decide +kernel⟩
          refine ⟨_, _, rfl, rfl, pb, _, rfl, _, rfl, _, _, rfl, rfl, _, rfl, ite2 (fun e3 => ?_) (fun e3 => ?_)⟩
          · refine ⟨_, _, rfl, rfl, pb, _, _, rfl, rfl, ?_⟩
            have y : isLIntD (.int i) = decide (i < 10 ^ Int.toNat 40) := by
              show (decide (-(10 ^ Int.toNat 40) < i) && _) = _
              rw [e3, Bool.true_and]
            have q2 := q H (Same.refl H)
            rw [y] at q2
            exact q2
          · have y : isLIntD (.int i) = false := by
              show (decide (-(10 ^ Int.toNat 40) < i) && _) = _
              rw [Bool.eq_false_iff.mpr e3, Bool.false_and]
            have q2 := q H (Same.refl H)
            rw [y] at q2
            exact q2
        | bl b => exact absurd (show (false = true) from e2) Bool.false_ne_true
        | _ => cases e
      · cases hd with
        | bl b => exact q H (Same.refl H)
        | _ => first | exact absurd rfl e2 | cases e
    · cases hd with
      | int i => exact absurd rfl e
      | _ => exact q H (Same.refl H)
end
end K0
end
/-! ### LA2 -/
section
set_option Elab.async false
set_option linter.all false
set_option maxRecDepth 100000
set_option maxHeartbeats 4000000
/-! _law_are_signs. -/
namespace K0
open PySem PySem.Spec PyProof.Rows L2 SetTx
theorem nat_ext : ∀ {l m : List Nat}, l.Pairwise (· < ·) → m.Pairwise (· < ·) → (∀ x, x ∈ l ↔ x ∈ m) → l = m
  | [], [], _, _, _ => rfl
  | [], y :: m, _, _, h => by have := (h y).mpr List.mem_cons_self; cases this
  | x :: l, [], _, _, h => by have := (h x).mp List.mem_cons_self; cases this
  | x :: l, y :: m, hl, hm, h => by
    obtain ⟨a1, a2⟩ := List.pairwise_cons.mp hl
    obtain ⟨b1, b2⟩ := List.pairwise_cons.mp hm
    have e : x = y := by
      rcases List.mem_cons.mp ((h x).mp List.mem_cons_self) with e | e
      · exact e
      · rcases List.mem_cons.mp ((h y).mpr List.mem_cons_self) with f | f
        · exact f.symm
        · have z1 := b1 x e
          have z2 := a1 y f
          omega
    subst e
    have t : l = m := nat_ext a2 b2 fun z => by
      constructor
      · intro hz
        rcases List.mem_cons.mp ((h z).mp (List.mem_cons_of_mem _ hz)) with e | e
        · subst e; have := a1 z hz; omega
        · exact e
      · intro hz
        rcases List.mem_cons.mp ((h z).mpr (List.mem_cons_of_mem _ hz)) with e | e
        · subst e; have := b1 z hz; omega
        · exact e
    rw [t]
theorem one_lt {c d : Nat} : decide ((oneS c).cps.toList < (oneS d).cps.toList) = decide (c < d) := by
  refine decide_eq_decide.mpr ?_
  show [c] < [d] ↔ c < d
  constructor
  · intro h
    cases h with
    | rel h => exact h
    | cons h => cases h
  · intro h
    exact List.Lex.rel h
theorem ltP_cons (d e : PyData) (ds : List PyData) : ltP (d :: e :: ds) = ltD d e :: ltP (e :: ds) := rfl
theorem ltP_asc : ∀ (cs : List Nat), (ltP (cs.map fun c => PyData.str (oneS c))).all id = decide (cs.Pairwise (· < ·))
  | [] => rfl
  | [c] => by simp [ltP]
  | c :: d :: cs => by
    have ih := ltP_asc (d :: cs)
    rw [List.map_cons, List.map_cons] at *
    rw [ltP_cons, List.all_cons, ih]
    show (decide ((oneS c).cps.toList < (oneS d).cps.toList) && _) = _
    rw [one_lt]
    by_cases h1 : c < d
    · by_cases h2 : (d :: cs).Pairwise (· < ·)
      · have h3 : (c :: d :: cs).Pairwise (· < ·) := List.pairwise_cons.mpr ⟨fun x hx => by
          rcases List.mem_cons.mp hx with rfl | hx
          · exact h1
          · exact Nat.lt_trans h1 ((List.pairwise_cons.mp h2).1 x hx), h2⟩
        rw [decide_eq_true h1, decide_eq_true h2, decide_eq_true h3]
        rfl
      · have h3 : ¬ (c :: d :: cs).Pairwise (· < ·) := fun z => h2 (List.pairwise_cons.mp z).2
        rw [decide_eq_true h1, decide_eq_false h2, decide_eq_false h3]
        rfl
    · have h3 : ¬ (c :: d :: cs).Pairwise (· < ·) := fun z => h1 ((List.pairwise_cons.mp z).1 d List.mem_cons_self)
      rw [decide_eq_false h1, decide_eq_false h3, Bool.false_and]
theorem strs_of {ds : List PyData} (h : ds.all isSignD = true) : ds = (ds.map sgD).map fun c => PyData.str (oneS c) := by
  induction ds with
  | nil => rfl
  | cons d ds ih =>
    rw [List.all_cons, Bool.and_eq_true] at h
    rw [List.map_cons, List.map_cons, ← ih h.2, ← sign_one h.1]
theorem are_asc {ds : List PyData} (h : ds.all isSignD = true) : areSignsD (.tuple ds) = decide ((ds.map sgD).Pairwise (· < ·)) := by
  show (ds.all isSignD && (ltP ds).all id) = _
  rw [h, Bool.true_and]
  conv => lhs; rw [strs_of h]
  exact ltP_asc _
theorem oneS_inj {c d : Nat} (h : oneS c = oneS d) : c = d := by
  injection h with h
  injection h with h
  injection h
theorem set_same {cs : List Nat} {l ys : List Str} (nd : l.Nodup) (mem : ∀ z, z ∈ l ↔ z ∈ cs.map oneS) (pm : ys.Perm l) (so : sortedS ys = true) : (cs.map oneS = ys) ↔ cs.Pairwise (· < ·) := by
  have ynd : ys.Nodup := pm.nodup_iff.mpr nd
  obtain ⟨cy, rfl⟩ : ∃ cy : List Nat, ys = cy.map oneS := by
    have all : ∀ z ∈ ys, ∃ c, z = oneS c := fun z hz => by
      obtain ⟨c, _, e⟩ := List.mem_map.mp ((mem z).mp (pm.mem_iff.mp hz))
      exact ⟨c, e.symm⟩
    clear pm so ynd
    induction ys with
    | nil => exact ⟨[], rfl⟩
    | cons y ys ih =>
      obtain ⟨c, e⟩ := all y List.mem_cons_self
      obtain ⟨cy, e2⟩ := ih fun z hz => all z (List.mem_cons_of_mem _ hz)
      exact ⟨c :: cy, by rw [e, e2]; rfl⟩
  have cnd : cy.Nodup := List.Pairwise.of_map oneS (fun a b hne e => hne (by rw [e])) ynd
  have casc := sorted_pw so cnd
  have cm : ∀ c, c ∈ cs ↔ c ∈ cy := fun c => by
    have e1 : c ∈ cy ↔ oneS c ∈ cy.map oneS := ⟨fun h => List.mem_map.mpr ⟨c, h, rfl⟩, fun h => by
      obtain ⟨d, hd, e⟩ := List.mem_map.mp h
      rw [← oneS_inj e]
      exact hd⟩
    have e2 : c ∈ cs ↔ oneS c ∈ cs.map oneS := ⟨fun h => List.mem_map.mpr ⟨c, h, rfl⟩, fun h => by
      obtain ⟨d, hd, e⟩ := List.mem_map.mp h
      rw [← oneS_inj e]
      exact hd⟩
    rw [e1, e2, ← mem, pm.mem_iff]
  constructor
  · intro h
    have e : cs = cy := by
      have inj : ∀ {a b : List Nat}, a.map oneS = b.map oneS → a = b := by
        intro a
        induction a with
        | nil => intro b h; cases b with
          | nil => rfl
          | cons _ _ => cases h
        | cons x a ih => intro b h; cases b with
          | nil => cases h
          | cons y b =>
            rw [List.map_cons, List.map_cons] at h
            injection h with h1 h2
            rw [oneS_inj h1, ih h2]
      exact inj h
    rw [e]
    exact casc
  · intro h
    rw [nat_ext h casc cm]
/-- tuples are short -/
def shortT : PyData → Bool
  | .tuple ds => decide (ds.length < 1000)
  | _ => true
def spDS (K : PySem.W.Frag) (f : PyData → Bool) : Sp := fun vs H Q _ => ∃ (v : V) (d : PyData), vs = [v] ∧ Dv K H v d ∧ d.bulk ≤ 100000 ∧ shortT d = true ∧ ∀ H', Same H H' → Q (.bl (f d)) H'
theorem eqv_strs : ∀ (a b : List Str), PyData.eqvAll (a.map .str) (b.map .str) = decide (a = b)
  | [], [] => rfl
  | [], _ :: _ => rfl
  | _ :: _, [] => rfl
  | x :: a, y :: b => by
    rw [List.map_cons, List.map_cons]
    show (PyData.eqv (.str x) (.str y) && PyData.eqvAll (a.map .str) (b.map .str)) = _
    rw [eqv_strs a b]
    show ((x == y) && _) = _
    by_cases h1 : x = y
    · subst h1
      simp
    · simp [h1]
end K0
end
/-! ### LA3 -/
section
set_option Elab.async false
set_option linter.all false
set_option maxRecDepth 100000
set_option maxHeartbeats 4000000
/-! _law_are_signs, the def. -/
namespace K0
open PySem PySem.Spec PyProof.Rows L2 SetTx
abbrev sgs' : List Nat := allSigns.cps.toList
theorem ok_codes' : (sgs'.all fun c => SeqAt.shaped (.str (oneS c))) = true := by decide +kernel
theorem sign_mem {d : PyData} (h : isSignD d = true) : sgD d ∈ sgs' := by
  obtain ⟨z, rfl⟩ := sign_str h
  obtain ⟨h1, h2⟩ := Bool.and_eq_true_iff.mp (show (decide (z.length = 1) && sgAll z) = true from h)
  obtain ⟨c, rfl⟩ := one_cp (of_decide_eq_true h1)
  have h2 : ([c].all fun c => allSigns.cps.contains c) = true := h2
  rw [List.all_cons, sg_mem] at h2
  exact of_decide_eq_true (Bool.and_eq_true_iff.mp h2).1
theorem dp_strs {K : PySem.W.Frag} {H : Hp} : ∀ l : List Str, DpAll K H (l.map V.str) (l.map .str)
  | [] => .nil
  | z :: l => .cons (.str z) (dp_strs l)
theorem ones_map (cs : List Nat) : cs.map oneV = (cs.map oneS).map V.str := by rw [List.map_map]; rfl
theorem ones_shape : ∀ {l : List Str}, (∀ z ∈ l, ∃ c ∈ sgs', z = oneS c) → PyData.canLayAll0 (l.map .str) = true ∧ PyData.depthAll (l.map .str) ≤ 0
  | [], _ => ⟨rfl, Nat.le_refl _⟩
  | z :: l, h => by
    obtain ⟨h1, h2⟩ := ones_shape fun y hy => h y (List.mem_cons_of_mem _ hy)
    obtain ⟨c, hc, rfl⟩ := h z List.mem_cons_self
    have g : (PyData.str (oneS c)).canLay0 = true := SeqAt.canLay_of_shaped (List.all_eq_true.mp ok_codes' c hc)
    rw [List.map_cons, PyData.canLayAll0, PyData.depthAll, h1, g]
    exact ⟨rfl, by show max 0 _ ≤ 0; omega⟩
theorem ones_shaped {l : List Str} (h : ∀ z ∈ l, ∃ c ∈ sgs', z = oneS c) : SeqAt.shaped (.list (l.map .str)) = true := by
  obtain ⟨h1, h2⟩ := ones_shape h
  unfold SeqAt.shaped
  rw [Bool.and_eq_true]
  refine ⟨?_, decide_eq_true ?_⟩
  · rw [PyData.canLay0]
    exact h1
  · rw [PyData.depth]
    omega
section
variable {P : Program} {w : World} {K : PySem.W.Frag} {mg : Str → Option Value} {base : Heap} {f fT : Addr} {fd fdT : FuncData}
theorem ok_lare {k : Nat} (F : FnP K "_law_are_signs" iLAre f fd) (misi : mg "isinstance" = none) (mtup : mg "tuple" = none) (mlen : mg "len" = none) (mlist : mg "list" = none) (msorted : mg "sorted" = none) (mset : mg "set" = none)
    (FT : FnOk P w K mg base CX0 (k + 1) fT fdT ["value"] (spD K isTextD)) (gT : mg "_law_is_text" = some (.ref fT)) (kT : PySem.W.keepIn K (.ref fT) = true) (bT : Binds K fdT ["value"] []) :
    FnOk P w K mg base CX0 (k + 2) f fd ["value"] (spDS K areSignsD) := by
  refine F.ok scLAre (fun vs H Q E h => ?_) (fun cdv A outer s H vs Q E hr h => ?_)
  · obtain ⟨v, d, rfl, _⟩ := h
    rfl
  · obtain ⟨v, d, rfl, hd, sz, sh, q⟩ := h
    refine ⟨_, PSs.nox (pss_cons (ps_if (PW.pt (pw_or (pt_not (pt_val (pe_callB call_isi (by rfl) misi boot_isinstance (pa_cons (pv 0) (pa_cons (pe_bltn (v := .ty "tuple") (by rfl) mtup (by decide +kernel) rfl) pa_nil)))))
        (pw_or1 (pt_cmpR (op_neNil hr.units) (pe_lc (own := [("one", 1)]) (g := gName 1) rfl scLAre.nd (pi_tup (pv 0)) (blkOk_by (N := ["value", "one"]) (sc := defScope (top iLAre)) (by decide +kernel)) (fun _ _ _ _ _ => pg_name (i := 1) scLAre.nd rfl (Or.inl rfl))
          (fun _ _ _ _ _ => pts_one (PW.pt (pw_or (pt_not (pt_val (pe_call FT hr (by rfl) gT kT bT .nil pass0 (pa_cons (pv 1) pa_nil)))) (pw_or1 (pt_cmpR op_ne (pe_callB call_len_str (by rfl) mlen PySem.boot_len (pa_cons (pv 1) pa_nil)) pe_int (nomark _)))))) (fun _ _ _ _ _ => pv 1)) (pe_lst pa_nil) (nomark _))))) (pss_one (ps_ret pe_bl)) pss_nil)
      (pss_one (ps_ret (pe_cmpR (op_eqD hr.units) (pe_callTy call_list_of (by rfl) mlist (by decide +kernel) (pa_cons (pv 0) pa_nil)) (pe_callB (cr_sortedTx rfl) (by rfl) msorted (by decide +kernel) (pa_cons (pe_callTy (cr_setTx rfl) (by rfl) mset (by decide +kernel) (pa_cons (pv 0) pa_nil)) pa_nil)) (nomark _))))), ?_⟩
    refine ⟨_, rfl, v, _, _, _, _, rfl, .ty _, hd.ty, kit_tup d, _, rfl, ite2 (fun e => ?_) (fun e => ?_)⟩
    · have q2 := q H (Same.refl H)
      rw [not_tup (fun z => by rw [z] at e; cases e)] at q2
      exact q2
    have e2 : isTupD d = true := by
      cases z : isTupD d with
      | true => rfl
      | false => rw [z] at e; exact absurd rfl e
    obtain ⟨a, xs, ds, rfl, rfl, hT, hA⟩ := is_tup hd e2
    have sz2 : PyData.bulkAll ds ≤ 100000 := sz
    have sh2 : ds.length < 1000 := of_decide_eq_true sh
    have xl := hA.length
    have sl : sizeLine = 16777216 := sizeLine_eq
    refine ⟨_, rfl, a, rfl, ⟨xs, hT⟩, fun D nD => lc_it (walk_tup (xs := xs)) (fun m H' => Same H H' ∧ ∃ acc, H' D = some (.lst acc) ∧ acc.length ≤ m ∧ acc.isEmpty = (ds.take m).all isSignD) ⟨same_upd nD, [], upd_same, Nat.le_refl _, rfl⟩ (fun _ H' _ hP => same_tup hP.1 hT) (fun m x H' H'' hm hP hY => ?_) (fun H' hP => ?_)⟩
    · obtain ⟨s1, acc, hD, al, ae⟩ := hP
      obtain ⟨eH, hx⟩ := hY
      subst H''
      obtain ⟨d1, g1, v1⟩ := hA.get hx
      have tk : (ds.take (m + 1)).all isSignD = ((ds.take m).all isSignD && isSignD d1) := by
        rw [List.take_succ, g1, List.all_append]
        simp
      have badly : ∀ H3, Same H' H3 → isSignD d1 = false → ∃ ac, H3 D = some (.lst ac) ∧ ac.length < sizeLine ∧ (Same H (upd H3 D (.lst (ac ++ [x]))) ∧ ∃ acc, upd H3 D (.lst (ac ++ [x])) D = some (.lst acc) ∧ acc.length ≤ m + 1 ∧ acc.isEmpty = (ds.take (m + 1)).all isSignD) := fun H3 s3 no => by
        refine ⟨acc, s3 _ _ hD, by omega, fun y o u => by rw [upd_ne (ne_of_none u nD)]; exact s3 _ _ (s1 _ _ u), _, upd_same, by rw [List.length_append]; exact Nat.succ_le_succ al, ?_⟩
        rw [tk, no, Bool.and_false]
        cases acc <;> rfl
      refine ⟨rfl, _, rfl, x, d1, rfl, v1.same s1, Nat.le_trans (bulk_mem (List.mem_of_getElem? g1)) sz2, fun H3 s3 => ⟨_, rfl, ite2 (fun nt => ?_) (fun nt => ?_)⟩⟩
      · have no : isTextD d1 = false := by
          cases y : isTextD d1 with
          | false => rfl
          | true => rw [y] at nt; cases nt
        refine ⟨_, rfl, badly H3 s3 ?_⟩
        cases d1 with
        | str z =>
          have no : sgAll z = false := no
          show (decide (z.length = 1) && sgAll z) = false
          rw [no, Bool.and_false]
        | _ => rfl
      · have yes : isTextD d1 = true := by
          cases y : isTextD d1 with
          | true => rfl
          | false => rw [y] at nt; exact absurd rfl nt
        cases v1 with
        | str z =>
          have zl : (PyData.str z).bulk ≤ 100000 := Nat.le_trans (bulk_mem (List.mem_of_getElem? g1)) sz2
          have yes : sgAll z = true := yes
          have es : isSignD (.str z) = decide (z.length = 1) := by
            show (decide (z.length = 1) && sgAll z) = _
            rw [yes, Bool.and_true]
          have zl : z.length ≤ 100000 := zl
          refine ⟨_, rfl, z, rfl, by omega, rfl, _, rfl, ite2 (fun ne => ?_) (fun ne => ?_)⟩
          · refine ⟨_, rfl, badly H3 s3 ?_⟩
            rw [es]
            exact decide_eq_false fun q => by
              rw [q] at ne
              exact absurd ne (by decide)
          · refine ⟨s1.trans s3, acc, s3 _ _ hD, Nat.le_succ_of_le al, ?_⟩
            have l1 : z.length = 1 := by
              by_cases q : z.length = 1
              · exact q
              · refine absurd ?_ ne
                have z2 : ¬ (V.int ((z.length : Nat) : Int) = V.int 1) := fun y => by
                  injection y with y
                  omega
                rw [decide_eq_false z2]
                rfl
            rw [tk, es, decide_eq_true l1, Bool.and_true]
            exact ae
        | _ => cases yes
    · obtain ⟨s1, acc, hD, al, ae⟩ := hP
      have tk : ds.take xs.length = ds := by rw [xl]; exact List.take_of_length_le (Nat.le_refl _)
      rw [tk] at ae
      refine ⟨Nat.zero_le _, fun l nl => ⟨D, l, acc, rfl, rfl, .of (same_upd nl _ _ hD), .of upd_same, _, rfl, ite2 (fun ne => ?_) (fun ne => ?_)⟩⟩
      · have no : ds.all isSignD = false := by
          rw [← ae]
          cases y : acc.isEmpty with
          | false => rfl
          | true => rw [y] at ne; cases ne
        have q2 := q _ (s1.trans (same_upd nl (o := .lst [])))
        rw [show areSignsD (.tuple ds) = false from by show (ds.all isSignD && _) = false; rw [no, Bool.false_and]] at q2
        exact q2
      · have yes : ds.all isSignD = true := by
          rw [← ae]
          cases y : acc.isEmpty with
          | true => rfl
          | false => rw [y] at ne; exact absurd rfl ne
        have s2 := s1.trans (same_upd nl (o := .lst []))
        have ex := signs_at hA yes
        have hT2 := same_tup s2 hT
        rw [ex, ones_map] at hT2
        refine ⟨_, rfl, a, _, rfl, .inr hT2, fun l1 n1 => ?_⟩
        have s3 := s2.trans (same_upd n1 (o := .lst (((ds.map sgD).map oneS).map V.str)))
        refine ⟨_, rfl, a, (ds.map sgD).map oneS, rfl, same_tup (same_upd n1) hT2, by rw [List.length_map, List.length_map]; exact sh2, fun S ls nS nd mem le => ?_⟩
        refine ⟨S, ls, rfl, upd_same, nd, by rw [List.length_map, List.length_map] at le; omega, fun ys p pm so np => ?_⟩
        have hl1 : upd (upd (upd (upd H' l (.lst [])) l1 (.lst (((ds.map sgD).map oneS).map V.str))) S (TxO P w S ls)) p (.lst (ys.map V.str)) l1 = some (.lst (((ds.map sgD).map oneS).map V.str)) := same_upd np _ _ (same_upd nS _ _ upd_same)
        have c1 : ∀ z ∈ (ds.map sgD).map oneS, ∃ c ∈ sgs', z = oneS c := fun z hz => by
          obtain ⟨c, hc, rfl⟩ := List.mem_map.mp hz
          obtain ⟨d1, hd1, rfl⟩ := List.mem_map.mp hc
          exact ⟨_, sign_mem (List.all_eq_true.mp yes d1 hd1), rfl⟩
        refine ⟨.list (((ds.map sgD).map oneS).map .str), .list (ys.map .str), .lst (.of hl1) (dp_strs _), .lst (.of upd_same) (dp_strs _), ones_shaped c1, ones_shaped fun z hz => c1 z ((mem z).mp (pm.mem_iff.mp hz)), ?_⟩
        have q2 := q (upd (upd (upd (upd H' l (.lst [])) l1 (.lst (((ds.map sgD).map oneS).map V.str))) S (TxO P w S ls)) p (.lst (ys.map V.str))) ((s3.trans (same_upd nS)).trans (same_upd np))
        rw [are_asc yes] at q2
        have e3 : PyData.eqv (.list (((ds.map sgD).map oneS).map .str)) (.list (ys.map .str)) = decide ((ds.map sgD).Pairwise (· < ·)) := by
          show PyData.eqvAll _ _ = _
          rw [eqv_strs]
          exact decide_eq_decide.mpr (set_same nd mem pm so)
        rw [e3]
        exact q2
end
end K0
end
/-! ### LR1 -/
section
set_option Elab.async false
set_option linter.all false
set_option maxRecDepth 100000
set_option maxHeartbeats 4000000
/-! _law_run. -/
namespace K0
open PySem PySem.Spec PyProof.Rows L2 Rd
theorem scLRun : FnScope ["dice", "signs", "some", "bounds", "low", "high"] ["dice", "signs"] (defScope (top iLRun)) := ⟨rfl, rfl, rfl, by decide +kernel, rfl, by decide +kernel, by decide +kernel⟩
def bnds : List PyData := [.tuple [.int 0, .none], .tuple [.int 0, .none], .tuple [.int 1, .int 1], .tuple [.int 0, .int 1], .tuple [.int 1, .int 2], .tuple [.int 1, .none], .tuple [.int 2, .int 3], .tuple [.int 0, .int 3], .tuple [.int 3, .none]]
def bndB : PyData → Bool
  | .tuple [l, h] => isNumD 0 3 l && isHighD (lowOf l) h
  | _ => false
theorem bnds_ok : (bnds.all bndB) = true := by decide +kernel
theorem bnd_parts {d : PyData} (h : bndB d = true) : ∃ l e, d = .tuple [l, e] ∧ isNumD 0 3 l = true ∧ isHighD (lowOf l) e = true := by
  match d, h with
  | .tuple [l, e], h => exact ⟨l, e, rfl, (Bool.and_eq_true_iff.mp h).1, (Bool.and_eq_true_iff.mp h).2⟩
/-- data of a drawn run -/
def runData (cs : List Nat) (l e : PyData) : PyData := .tuple [.tuple (cs.map fun c => .str (oneS c)), l, e]
theorem sign_of {c : Nat} (h : c ∈ sgs') : isSignD (.str (oneS c)) = true := by
  have : (sgs'.all fun c => isSignD (.str (oneS c))) = true := by decide +kernel
  exact List.all_eq_true.mp this c h
theorem signs_of {cs : List Nat} (h : ∀ c ∈ cs, c ∈ sgs') : (cs.map fun c => PyData.str (oneS c)).all isSignD = true := by
  rw [List.all_eq_true]
  intro d hd
  obtain ⟨c, hc, rfl⟩ := List.mem_map.mp hd
  exact sign_of (h c hc)
theorem runData_ok {cs : List Nat} {l e : PyData} (h : ∀ c ∈ cs, c ∈ sgs') (a : cs.Pairwise (· < ·)) (ne : cs ≠ []) (hl : isNumD 0 3 l = true) (he : isHighD (lowOf l) e = true) : isRunD (runData cs l e) = true := by
  have sg := signs_of h
  have ar : areSignsD (.tuple (cs.map fun c => .str (oneS c))) = true := by
    rw [are_asc sg, List.map_map, show ((sgD ∘ fun c => PyData.str (oneS c)) : Nat → Nat) = id from rfl, List.map_id]
    exact decide_eq_true a
  show (areSignsD (.tuple (cs.map fun c => .str (oneS c))) && !noneIn (.tuple (cs.map fun c => .str (oneS c))) && isNumD 0 3 l && isHighD (lowOf l) e) = true
  rw [ar, hl, he]
  cases cs with
  | nil => exact absurd rfl ne
  | cons _ _ => rfl
theorem dv_ones {K : PySem.W.Frag} {H : Hp} : ∀ cs : List Nat, DvAll K H (cs.map oneV) (cs.map fun c => .str (oneS c))
  | [] => .nil
  | c :: cs => .cons (.str _) (dv_ones cs)
theorem sq_hid {K : PySem.W.Frag} {H : Hp} {p t : Addr} {xs : List V} (h : SqT K (hid p H) t xs) : SqT K H t xs := same_tup hid_out h
theorem sq_keep {K : PySem.W.Frag} {H H' : Hp} {p t : Addr} {xs : List V} (h : SqT K (hid p H) t xs) (k : Keep p H H') : SqT K (hid p H') t xs := same_tup (hid_same k.1) h
def spLRun (K : PySem.W.Frag) : Sp := fun vs H Q _ => ∃ (p : Addr) (a b c : Int) (t : Addr) (cs : List Nat), vs = [.ref p, .ref t] ∧ H p = some (dk a b c) ∧ SqT K (hid p H) t (cs.map oneV) ∧ cs ≠ [] ∧ cs.length ≤ 15 ∧ cs.Nodup ∧ (∀ c ∈ cs, c ∈ sgs') ∧
  ∀ H' v d, Keep p H H' → Dv K (hid p H') v d → isRunD d = true → Q v H'
section
variable {P : Program} {w : World} {K : PySem.W.Frag} {mg : Str → Option Value} {base : Heap} {f fR fM fO : Addr} {fd fdR fdM fdO : FuncData}
theorem ok_lrun {k : Nat} (F : FnP K "_law_run" iLRun f fd) (mlist : mg "list" = none) (mtuple : mg "tuple" = none) (msorted : mg "sorted" = none) (mlen : mg "len" = none)
    (FR : FnOk P w K mg base CX0 (k + 2) fR fdR ["dice", "total"] spRoll) (gR : mg "_law_roll" = some (.ref fR)) (kR : PySem.W.keepIn K (.ref fR) = true) (bR : Binds K fdR ["dice", "total"] [])
    (FM : FnOk P w K mg base CX0 (k + 2) fM fdM ["dice", "items"] (spMixed K)) (gM : mg "_law_mixed" = some (.ref fM)) (kM : PySem.W.keepIn K (.ref fM) = true) (bM : Binds K fdM ["dice", "items"] [])
    (FO : FnOk P w K mg base CX0 (k + 2) fO fdO ["dice", "items"] (spOne K)) (gO : mg "_law_one_of" = some (.ref fO)) (kO : PySem.W.keepIn K (.ref fO) = true) (bO : Binds K fdO ["dice", "items"] []) :
    FnOk P w K mg base CX0 (k + 3) f fd ["dice", "signs"] (spLRun K) := by
  refine F.ok scLRun (fun vs H Q E h => ?_) (fun cdv A outer s H vs Q E hr h => ?_)
  · obtain ⟨p, a, b, c, t, cs, rfl, _⟩ := h
    rfl
  · obtain ⟨p, a, b, c, t, cs, rfl, hp, hT, cne, cl, cnd, cmem, q⟩ := h
    refine ⟨_, PSs.nox (C8.pss_cut (ps_set (i := 2) scLRun.nd rfl (.inl rfl) (pe_slice sl_list (pe_call FM hr (by rfl) gM kM bM .nil pass0 (pa_cons (pv 0) (pa_cons (pe_callTy call_list_of (by rfl) mlist (by decide +kernel) (pa_cons (pv 1) pa_nil)) pa_nil))) po_none
          (po_some (pe_op op_add pe_int (pe_call FR hr (by rfl) gR kR bR .nil pass0 (pa_cons (pv 0) (pa_cons (pe_callB call_len_seq (by rfl) mlen PySem.boot_len (pa_cons (pv 1) pa_nil)) pa_nil)))))))
      (C8.pss_cut (ps_set (i := 3) scLRun.nd rfl (.inl rfl) (pe_lst (pa_cons (pe_tup (pa_cons pe_int (pa_cons pe_non pa_nil))) (pa_cons (pe_tup (pa_cons pe_int (pa_cons pe_non pa_nil))) (pa_cons (pe_tup (pa_cons pe_int (pa_cons pe_int pa_nil))) (pa_cons (pe_tup (pa_cons pe_int (pa_cons pe_int pa_nil))) (pa_cons (pe_tup (pa_cons pe_int (pa_cons pe_int pa_nil)))
          (pa_cons (pe_tup (pa_cons pe_int (pa_cons pe_non pa_nil))) (pa_cons (pe_tup (pa_cons pe_int (pa_cons pe_int pa_nil))) (pa_cons (pe_tup (pa_cons pe_int (pa_cons pe_int pa_nil))) (pa_cons (pe_tup (pa_cons pe_int (pa_cons pe_non pa_nil))) pa_nil)))))))))))
      (pss_cons (ps_asg (pe_call FO hr (by rfl) gO kO bO .nil pass0 (pa_cons (pv 0) (pa_cons (pv 3) pa_nil))) (pg_tup rfl (pgs_cons (pg_name (i := 4) scLRun.nd rfl (.inl rfl)) (pgs_cons (pg_name (i := 5) scLRun.nd rfl (.inl rfl)) pgs_nil))))
      (pss_one (ps_ret (pe_tup (pa_cons (pe_callTy call_tuple_of (by rfl) mtuple (by decide +kernel) (pa_cons (pe_callB cr_sortedS (by rfl) msorted (by decide +kernel) (pa_cons (pv 2) pa_nil)) pa_nil)) (pa_cons (pv 4) (pa_cons (pv 5) pa_nil))))))))), ?_⟩
    have sl : sizeLine = 16777216 := sizeLine_eq
    refine ⟨fun σ' H' => ∃ (l : Addr) (ds : List Nat), σ' = [some (.ref p), some (.ref t), some (.ref l), none, none, none] ∧ Keep p H H' ∧ H' l = some (.lst (ds.map oneV)) ∧ ds ≠ [] ∧ ds.length ≤ 15 ∧ ds.Nodup ∧ (∀ c ∈ ds, c ∈ sgs'), ?_, ?_⟩
    · refine ⟨_, rfl, _, rfl, t, _, rfl, .inr (sq_hid hT), fun l nl => ?_⟩
      have kl : Keep p H (upd H l (.lst (cs.map oneV))) := .new hp nl
      obtain ⟨a1, b1, c1, hp1⟩ := kl.2
      refine ⟨p, a1, b1, c1, l, _, rfl, hp1, .of upd_same, by rw [List.length_map]; omega, fun H2 l2 ys k2 pm e2 ne => ?_⟩
      obtain ⟨ms, pc, rfl⟩ := perm_codes (f := oneV) (g := codeV) (fun c => rfl) (l := cs) pm
      have ml := pc.length_eq
      obtain ⟨a2, b2, c2, hp2⟩ := k2.2
      have kk := kl.trans k2
      have c0 : 0 < cs.length := List.length_pos_iff.mpr cne
      refine ⟨_, rfl, _, rfl, t, _, rfl, .inr (sq_hid (sq_keep hT kk)), p, a2, b2, c2, _, rfl, hp2, wide_div (b := 4) (by rw [List.length_map]; omega) (by rw [List.length_map]; omega) (by decide) (by decide), fun a' b' c' r r0 r1 => ⟨_, _, rfl, rfl, _, rfl, l2, _, rfl, .of (by rw [upd_ne ne]; exact e2), fun l3 n3 => ?_⟩⟩
      have kn : ∀ n : Nat, HT.sIx n n (some (1 + r)) = min (1 + r).toNat n := fun n => by
        show (if (1 + r) < 0 then ((1 + r) + (n : Int)).toNat else min (1 + r).toNat n) = min (1 + r).toNat n
        rw [if_neg (by omega)]
      refine ⟨l3, ms.take (min (1 + r).toNat ms.length), rfl, (kk.trans (.dice a' b' c')).new2 n3, ?_, fun e => ?_, ?_, ?_, fun c hc => cmem c (pc.mem_iff.mp (List.mem_of_mem_take hc))⟩
      · rw [upd_same, cutV_take, kn, List.length_map, ← List.map_take]
      · have z := congrArg List.length e
        rw [List.length_take, List.length_nil] at z
        omega
      · rw [List.length_take]; omega
      · exact (pc.nodup_iff.mpr cnd).sublist (List.take_sublist _ _)
    rintro σ1 H1 ⟨l, ds, rfl, k1, e1, dne, dl, dnd, dmem⟩
    obtain ⟨a1, b1, c1, hp1⟩ := k1.2
    have D1 : Dice p H1 := ⟨a1, b1, c1, hp1⟩
    refine ⟨fun σ' H' => ∃ lb xs, σ' = [some (.ref p), some (.ref t), some (.ref l), some (.ref lb), none, none] ∧ Same H1 H' ∧ H' lb = some (.lst xs) ∧ lb ≠ p ∧ DvAll K (hid p H') xs bnds, ?_, ?_⟩
    · refine rd_lst (ds := bnds) (p := p) (K := K) (ev_cons (ev_tup (ev_cons ev_int (ev_cons ev_non ev_nil)) (by decide)) (ev_cons (ev_tup (ev_cons ev_int (ev_cons ev_non ev_nil)) (by decide)) (ev_cons (ev_tup (ev_cons ev_int (ev_cons ev_int ev_nil)) (by decide)) (ev_cons (ev_tup (ev_cons ev_int (ev_cons ev_int ev_nil)) (by decide)) (ev_cons (ev_tup (ev_cons ev_int (ev_cons ev_int ev_nil)) (by decide))
        (ev_cons (ev_tup (ev_cons ev_int (ev_cons ev_non ev_nil)) (by decide)) (ev_cons (ev_tup (ev_cons ev_int (ev_cons ev_int ev_nil)) (by decide)) (ev_cons (ev_tup (ev_cons ev_int (ev_cons ev_int ev_nil)) (by decide)) (ev_cons (ev_tup (ev_cons ev_int (ev_cons ev_non ev_nil)) (by decide)) ev_nil))))))))) D1 (by decide) fun xs H2 lb s2 v2 n2 => ?_
      exact ⟨lb, xs, rfl, s2.trans (same_upd n2), upd_same, (D1.same s2).ne n2, v2.same (hid_same fun b o _ z => same_upd n2 b o z)⟩
    rintro σ2 H2 ⟨lb, xs, rfl, s2, e2, lbp, v2⟩
    have k2 : Keep p H1 H2 := ⟨fun b o _ z => s2 b o z, a1, b1, c1, s2 _ _ hp1⟩
    have hp2 := s2 _ _ hp1
    have xl := v2.length
    refine ⟨_, rfl, _, rfl, p, a1, b1, c1, _, xs, rfl, hp2, .inl ⟨lb, rfl, .inl (.of e2)⟩, (fun e => by rw [e] at xl; cases xl), (by rw [xl, sl]; decide), fun a' b' c' => .inl ⟨lb, rfl, .inl (.of (by rw [upd_ne lbp]; exact e2))⟩, fun a' b' c' i x hx => ?_⟩
    obtain ⟨d, hd, vd⟩ := v2.get hx
    have bd := List.all_eq_true.mp bnds_ok d (List.mem_of_getElem? hd)
    obtain ⟨lo, hi, rfl, hlo, hhi⟩ := bnd_parts bd
    have vd3 : Dv K (hid p (upd H2 p (dk a' b' c'))) x (.tuple [lo, hi]) := vd.same' (hid_same (Keep.dice a' b' c').1)
    cases vd3 with
    | tup hTb hAb =>
      cases hAb with
      | cons w1 hAb =>
      cases hAb with
      | cons w2 hAb =>
      cases hAb
      rename_i vlo vhi
      refine ⟨_, _, rfl, sq_hid hTb, rfl, vlo, _, rfl, vhi, _, rfl, rfl, ?_⟩
      have e3 : upd H2 p (dk a' b' c') l = some (.lst (ds.map oneV)) := by
        rw [upd_ne (fun q => by
          obtain ⟨a0, b0, c0, z⟩ := k1.2
          have e1' := e1
          rw [q, z] at e1'
          injection e1' with e1'
          injection e1' with e1'
          cases ds with
          | nil => exact dne rfl
          | cons x ds => cases e1')]
        exact s2 _ _ e1
      refine ⟨_, rfl, l, ds.map oneS, rfl, .of (by rw [e3, ones_map]), by rw [List.length_map]; omega, fun ys l4 pm so n4 => ?_⟩
      obtain ⟨es, pe, rfl⟩ := perm_codes (f := oneS) (g := codeS) (fun c => rfl) pm
      have esl := pe.length_eq
      have asc := sorted_pw so (pe.nodup_iff.mpr dnd)
      refine ⟨l4, _, rfl, .inl ⟨.of upd_same, fun t1 n5 => ⟨_, rfl, _, rfl, by show 3 ≤ sizeLine; omega, fun t2 n6 => ?_⟩⟩⟩
      have kA : Keep p H (upd H2 p (dk a' b' c')) := (k1.trans k2).trans (.dice a' b' c')
      have kB := ((kA.new2 n4 (o := .lst ((es.map oneS).map V.str))).new2 n5 (o := .tup ((es.map oneS).map V.str))).new2 n6 (o := .tup [.ref t1, vlo, vhi])
      obtain ⟨aA, bA, cA, hpA⟩ := kA.2
      have n1p : t1 ≠ p := by
        obtain ⟨aB, bB, cB, hpB⟩ := (kA.new2 n4 (o := .lst ((es.map oneS).map V.str))).2
        exact (ne_of_none hpB n5).symm
      have n2p : t2 ≠ p := by
        obtain ⟨aB, bB, cB, hpB⟩ := ((kA.new2 n4 (o := .lst ((es.map oneS).map V.str))).new2 n5 (o := .tup ((es.map oneS).map V.str))).2
        exact (ne_of_none hpB n6).symm
      have kC : Same (hid p (upd H2 p (dk a' b' c'))) (hid p (upd (upd (upd (upd H2 p (dk a' b' c')) l4 (.lst ((es.map oneS).map V.str))) t1 (.tup ((es.map oneS).map V.str))) t2 (.tup [.ref t1, vlo, vhi]))) := hid_same fun b o _ z => same_upd n6 _ _ (same_upd n5 _ _ (same_upd n4 _ _ z))
      refine q _ (.ref t2) (runData es lo hi) kB (.tup (.of (by rw [hid_ne n2p, upd_same])) (.cons (.tup (.of (by rw [hid_ne n1p, same_upd n6 _ _ upd_same])) (by rw [← ones_map]; exact dv_ones es)) (.cons (w1.same' kC) (.cons (w2.same' kC) .nil)))) (runData_ok (fun c hc => dmem c (pe.mem_iff.mp hc)) asc (fun e => ?_) hlo hhi)
      rw [e] at esl
      cases ds with
      | nil => exact dne rfl
      | cons _ _ => cases esl
end
end K0
end
/-! ### LR2 -/
section
set_option Elab.async false
set_option linter.all false
set_option maxRecDepth 100000
set_option maxHeartbeats 4000000
/-! _law_hole. -/
namespace K0
open PySem PySem.Spec PyProof.Rows L2 Rd
theorem scLHole : FnScope ["dice", "signs", "turn"] ["dice", "signs"] (defScope (top iLHole)) := ⟨rfl, rfl, rfl, by decide +kernel, rfl, by decide +kernel, by decide +kernel⟩
theorem sqT_lst {K : PySem.W.Frag} {H : Hp} {x a : Addr} {zs xs : List V} {o : HO} (e : H x = some (.lst zs)) (h : SqT K H a xs) : SqT K (upd H x o) a xs := by
  rcases h with (h | ⟨ob, h⟩) | h
  · exact .inl (.inl (by rw [upd_ne (ne_of h e (fun z => nomatch z))]; exact h))
  · exact .inl (.inr ⟨ob, by rw [upd_ne (ne_of h e (fun z => nomatch z))]; exact h⟩)
  · exact .inr h
theorem dv_signs {K : PySem.W.Frag} {H H' : Hp} : ∀ {es : List PyData} {xs : List V}, DvAll K H xs es → es.all isSignD = true → DvAll K H' xs es
  | [], _, h, _ => by cases h; exact .nil
  | d :: es, _, h, a => by
    cases h with
    | cons h1 h2 =>
      rw [List.all_cons, Bool.and_eq_true] at a
      obtain ⟨z, rfl⟩ := sign_str a.1
      cases h1
      exact .cons (.str z) (dv_signs h2 a.2)
/-- a run's data leans on tuples alone -/
theorem dv_run {K : PySem.W.Frag} {H H' : Hp} {v : V} {d : PyData} (h : Dv K H v d) (r : isRunD d = true) (k : ∀ a xs, SqT K H a xs → SqT K H' a xs) : Dv K H' v d := by
  obtain ⟨es, l, e, rfl, h1, ⟨i, rfl⟩, h3⟩ := run_parts r
  cases h with
  | tup hT hA =>
    refine .tup (k _ _ hT) ?_
    cases hA with
    | cons a1 hA =>
    cases hA with
    | cons a2 hA =>
    cases hA with
    | cons a3 hA =>
    cases hA
    cases a1 with
    | tup hT1 hA1 =>
      refine .cons (.tup (k _ _ hT1) (dv_signs hA1 h1)) (.cons ?_ (.cons ?_ .nil))
      · cases a2
        exact .int i
      · rcases h3 with rfl | ⟨j, rfl⟩
        · cases a3
          exact .non
        · cases a3
          exact .int j
theorem dv_runs {K : PySem.W.Frag} {H H' : Hp} (k : ∀ a xs, SqT K H a xs → SqT K H' a xs) : ∀ {ds : List PyData} {vs : List V}, DvAll K H vs ds → ds.all isRunD = true → DvAll K H' vs ds
  | [], _, h, _ => by cases h; exact .nil
  | d :: ds, _, h, a => by
    cases h with
    | cons h1 h2 =>
      rw [List.all_cons, Bool.and_eq_true] at a
      exact .cons (dv_run h1 a.1 k) (dv_runs k h2 a.2)
theorem hid_upd {p D : Addr} {H : Hp} {o : HO} (h : D ≠ p) : hid p (upd H D o) = upd (hid p H) D o := by
  funext b
  by_cases e : b = p
  · subst e
    rw [upd_ne (fun q => h q.symm)]
    show (if b = b then none else _) = (if b = b then none else _)
    rw [if_pos rfl, if_pos rfl]
  · rw [hid_ne e]
    by_cases f : b = D
    · subst f
      rw [upd_same, upd_same]
    · rw [upd_ne f, upd_ne f, hid_ne e]
def spLHole (K : PySem.W.Frag) : Sp := fun vs H Q _ => ∃ (p : Addr) (a b c : Int) (t : Addr) (cs : List Nat), vs = [.ref p, .ref t] ∧ H p = some (dk a b c) ∧ SqT K (hid p H) t (cs.map oneV) ∧ cs ≠ [] ∧ cs.length ≤ 15 ∧ cs.Nodup ∧ (∀ c ∈ cs, c ∈ sgs') ∧
  ∀ H' x vs ds, Keep p H H' → H' x = some (.tup vs) → x ≠ p → DvAll K (hid p H') vs ds → holeD ds = true → Q (.ref x) H'
def ns7 : List PyData := [.int 1, .int 1, .int 1, .int 2, .int 2, .int 3, .int 4]
theorem ns7_at {d : PyData} (h : d ∈ ns7) : ∃ n : Nat, d = .int (n : Nat) ∧ 1 ≤ n ∧ n ≤ 4 := by
  have h : d = .int 1 ∨ d = .int 1 ∨ d = .int 1 ∨ d = .int 2 ∨ d = .int 2 ∨ d = .int 3 ∨ d = .int 4 := by
    simpa [ns7] using h
  rcases h with rfl | rfl | rfl | rfl | rfl | rfl | rfl
  · exact ⟨1, rfl, by omega, by omega⟩
  · exact ⟨1, rfl, by omega, by omega⟩
  · exact ⟨1, rfl, by omega, by omega⟩
  · exact ⟨2, rfl, by omega, by omega⟩
  · exact ⟨2, rfl, by omega, by omega⟩
  · exact ⟨3, rfl, by omega, by omega⟩
  · exact ⟨4, rfl, by omega, by omega⟩
section
variable {P : Program} {w : World} {K : PySem.W.Frag} {mg : Str → Option Value} {base : Heap} {f fR fO : Addr} {fd fdR fdO : FuncData}
theorem ok_lhole {k : Nat} (F : FnP K "_law_hole" iLHole f fd) (mtuple : mg "tuple" = none) (mrange : mg "range" = none)
    (FR : FnOk P w K mg base CX0 (k + 3) fR fdR ["dice", "signs"] (spLRun K)) (gR : mg "_law_run" = some (.ref fR)) (kR : PySem.W.keepIn K (.ref fR) = true) (bR : Binds K fdR ["dice", "signs"] [])
    (FO : FnOk P w K mg base CX0 (k + 3) fO fdO ["dice", "items"] (spOne K)) (gO : mg "_law_one_of" = some (.ref fO)) (kO : PySem.W.keepIn K (.ref fO) = true) (bO : Binds K fdO ["dice", "items"] []) :
    FnOk P w K mg base CX0 (k + 4) f fd ["dice", "signs"] (spLHole K) := by
  refine F.ok scLHole (fun vs H Q E h => ?_) (fun cdv A outer s H vs Q E hr h => ?_)
  · obtain ⟨p, a, b, c, t, cs, rfl, _⟩ := h
    rfl
  · obtain ⟨p, a, b, c, t, cs, rfl, hp, hT, cne, cl, cnd, cmem, q⟩ := h
    refine ⟨_, PSs.nox (pss_one (ps_ret (pe_callTy call_tuple_of (by rfl) mtuple (by decide +kernel) (pa_cons (pe_lc (own := [("turn", 2)]) (g := gName 2) (tt := tYes) (te := tCall (spLRun K) [] E0 (tCons (tVar 0) (tCons (tVar 1) tNil))) rfl scLHole.nd
        (pi_range1 (by rfl) mrange (pa_cons (pe_call FO hr (by rfl) gO kO bO .nil pass0 (pa_cons (pv 0) (pa_cons (pe_lst (pa_cons pe_int (pa_cons pe_int (pa_cons pe_int (pa_cons pe_int (pa_cons pe_int (pa_cons pe_int (pa_cons pe_int pa_nil)))))))) pa_nil))) pa_nil)) (blkOk_by (N := ["dice", "signs", "turn"]) (sc := defScope (top iLHole)) (by decide +kernel))
        (fun _ _ _ _ _ => pg_name (i := 2) scLHole.nd rfl (Or.inl rfl)) (fun _ _ _ _ _ => pts_nil) (fun _ _ _ _ _ => pe_call FR hr (by rfl) gR kR bR .nil pass0 (pa_cons (pv 0) (pa_cons (pv 1) pa_nil)))) pa_nil)))), ?_⟩
    have sl : sizeLine = 16777216 := sizeLine_eq
    have D0 : Dice p H := ⟨a, b, c, hp⟩
    refine ⟨_, rfl, rd_lst (ds := ns7) (p := p) (K := K) (ev_cons ev_int (ev_cons ev_int (ev_cons ev_int (ev_cons ev_int (ev_cons ev_int (ev_cons ev_int (ev_cons ev_int ev_nil))))))) D0 (by decide) fun xs H1 l1 s1 v1 n1 => ?_⟩
    have xl := v1.length
    have hp1 := s1 _ _ hp
    have lp : l1 ≠ p := (D0.same s1).ne n1
    refine ⟨p, a, b, c, _, xs, rfl, by rw [upd_ne lp.symm]; exact hp1, .inl ⟨l1, rfl, .inl (.of upd_same)⟩, (fun e => by rw [e] at xl; cases xl), (by rw [xl, sl]; decide), fun a' b' c' => .inl ⟨l1, rfl, .inl (.of (by rw [upd_ne lp, upd_same]))⟩, fun a' b' c' i x hx => ?_⟩
    obtain ⟨d, hd, vd⟩ := v1.get hx
    obtain ⟨n, rfl, n1', n4⟩ := ns7_at (List.mem_of_getElem? hd)
    cases vd
    have k1 : Keep p H (upd (upd H1 l1 (.lst xs)) p (dk a' b' c')) := ⟨fun b o nb z => by rw [upd_ne nb]; exact same_upd n1 _ _ (s1 _ _ z), a', b', c', upd_same⟩
    refine ⟨_, rfl, by omega, by omega, fun D nD => ?_⟩
    have hpK := k1.2
    have Dp : D ≠ p := by
      obtain ⟨a0, b0, c0, z⟩ := hpK
      exact (ne_of_none z nD).symm
    have nH : H D = none := by
      cases z : H D with
      | none => rfl
      | some o =>
        have z2 := k1.1 D o Dp z
        rw [nD] at z2
        cases z2
    refine lc_range (lo := 0) (n := n) (fun m H' => Keep p H H' ∧ ∃ vs ds, H' D = some (.lst vs) ∧ vs.length = m ∧ DvAll K (hid p H') vs ds ∧ ds.all isRunD = true) ⟨k1.new2 nD, [], [], upd_same, rfl, .nil, rfl⟩ (fun m H' hm hP => ?_) (fun H' hP => ?_)
    · obtain ⟨k2, vs, ds, e2, l2, v2, r2⟩ := hP
      obtain ⟨a2, b2, c2, hp2⟩ := k2.2
      refine ⟨rfl, _, rfl, _, rfl, p, a2, b2, c2, t, cs, rfl, hp2, sq_keep hT k2, cne, cl, cnd, cmem, fun H3 v d k3 vd rd => ?_⟩
      have e3 : H3 D = some (.lst vs) := k3.1 D _ Dp e2
      have e3h : hid p H3 D = some (.lst vs) := by rw [hid_ne Dp]; exact e3
      refine ⟨vs, e3, by omega, ⟨fun y o ny z => ?_, ?_⟩, vs ++ [v], ds ++ [d], upd_same, by rw [List.length_append, l2]; rfl, ?_, ?_⟩
      · rw [upd_ne (ne_of_none z nH)]
        exact k3.1 y o ny (k2.1 y o ny z)
      · obtain ⟨a3, b3, c3, hp3⟩ := k3.2
        exact ⟨a3, b3, c3, by rw [upd_ne Dp.symm]; exact hp3⟩
      · rw [hid_upd Dp]
        refine DvAll.append (dv_runs (fun a xs z => sqT_lst e3h z) (DvAll.same (hid_same k3.1) ds _ v2) r2) (.cons (dv_run vd rd fun a xs z => sqT_lst e3h z) .nil)
      · rw [List.all_append, r2]
        show (isRunD d && true) = true
        rw [rd]
        rfl
    · obtain ⟨k2, vs, ds, e2, l2, v2, r2⟩ := hP
      refine ⟨D, vs, rfl, .inl ⟨.of e2, fun x nx => ?_⟩⟩
      have xp : x ≠ p := by
        obtain ⟨a0, b0, c0, z⟩ := k2.2
        exact (ne_of_none z nx).symm
      have dl := v2.length
      refine q _ x vs ds (k2.new2 nx) upd_same xp (DvAll.same (hid_same fun b o _ z => same_upd nx b o z) ds _ v2) ?_
      unfold holeD
      rw [r2, decide_eq_true (by omega), decide_eq_true (by omega)]
      rfl
end
end K0
end
/-! ### TR -/
section
set_option Elab.async false
set_option linter.all false
set_option maxRecDepth 100000
set_option maxHeartbeats 4000000
/-! t[::-1] of a tuple; tuple(text). -/
namespace TR
open PySem PySem.Spec PyProof.Rows L2 HT
section
variable {prog : Program} {w : World} {A : Around} {E : Value → Shared → Prop} {s : Shared}
theorem places_rev (n : Nat) : Builtin.Slice.slicePlaces ((n : Int) - 1) (-1) (-1) = n := by
  unfold Builtin.Slice.slicePlaces
  rw [if_neg (by decide)]
  by_cases h : (n : Int) - 1 > -1
  · rw [if_pos h]
    have e : ((n : Int) - 1 - -1 - 1) / (- -1) + 1 = (n : Int) := by
      rw [show (- -1 : Int) = 1 by decide, Int.ediv_one]
      omega
    rw [e, Int.toNat_natCast]
  · rw [if_neg h]
    show 0 = n
    omega
theorem applied_rev {sl : Addr} {t : Tok} {n : Nat} {Q : Int × Int × Nat → Shared → Prop} (hs : s.heap.IsSliceOf sl .none .none (.int (-1) t)) (h : Q ((n : Int) - 1, -1, n) s) : wpAny (model prog w) A (Builtin.Slice.sliceApplied (.ref sl) (pure (n : Int))) Q E s := by
  obtain ⟨os, hos, hcs, hds⟩ := id hs
  unfold Builtin.Slice.sliceApplied Builtin.Slice.sliceFields
  refine wpAny_bind (wpAny_bind (wpAny_field hos hds (x := .none) rfl (wpAny_bind (wpAny_field hos hds (x := .none) rfl (wpAny_bind (wpAny_field hos hds (x := .int (-1) t) rfl (wpAny_pure ?_)))))))
  refine wpAny_bind (slicePart_int ?_)
  show wpAny _ _ (if ((-1 : Int) == 0) = true then _ else _) _ _ s
  rw [if_neg (by decide)]
  refine wpAny_bind (slicePart_none (wpAny_bind (slicePart_none (wpAny_bind (wpAny_pure ?_)))))
  show wpAny _ _ (pure ((n : Int) - 1, (-1 : Int), Builtin.Slice.slicePlaces ((n : Int) - 1) (-1) (-1))) _ _ s
  rw [places_rev]
  exact wpAny_pure h
theorem fm_congr {α β : Type} {f g : α → Option β} : ∀ {l : List α}, (∀ x ∈ l, f x = g x) → l.filterMap f = l.filterMap g
  | [], _ => rfl
  | x :: l, h => by
    rw [List.filterMap_cons, List.filterMap_cons, h x List.mem_cons_self, fm_congr fun y hy => h y (List.mem_cons_of_mem _ hy)]
theorem pick_rev (xs : Array Value) : ((List.range xs.size).filterMap fun (m : Nat) => xs[(((xs.size : Int) - 1) + (m : Int) * (-1)).toNat]?).toArray = xs.toList.reverse.toArray := by
  have e : (List.range xs.size).filterMap (fun (m : Nat) => xs[(((xs.size : Int) - 1) + (m : Int) * (-1)).toNat]?) = ((List.range xs.size).map fun k => xs.size - 1 - k).filterMap (xs[·]?) := by
    rw [List.filterMap_map]
    refine fm_congr fun m hm => ?_
    have hm := List.mem_range.mp hm
    show xs[_]? = xs[xs.size - 1 - m]?
    rw [show (((xs.size : Int) - 1) + (m : Int) * (-1)).toNat = xs.size - 1 - m by omega]
  rw [e, PySem.W.krv_range, List.filterMap_reverse, PySem.W.krv_all]
theorem getItem_tuple_rev {t sl : Addr} {u : Tok} {items : Array Value} {Q : Value → Shared → Prop} (ht : IsTup s.heap t items) (hs : s.heap.IsSliceOf sl .none .none (.int (-1) u))
    (h : Q (.ref s.heap.objs.size) { s with heap := s.heap.push { cls := .type "tuple", data := .seq items.toList.reverse.toArray } }) (hsz : items.size ≤ sizeLine) : wpAny (model prog w) A (getItem (.ref t) (.ref sl)) Q E s := by
  have htake : sizeOk (.seq items.toList.reverse.toArray) := by
    show items.toList.reverse.toArray.size ≤ sizeLine
    rw [List.size_toArray, List.length_reverse, Array.length_toList]
    exact hsz
  obtain ⟨os, hos, hcs, hds⟩ := id hs
  have hTs : s.TypeIs (.ref sl) "slice" := ⟨os, hos, hcs⟩
  unfold getItem
  try with_reducible refine wpAny_holding ?_
  first | refine wpAny_bind (wpAny_pure ?_) | skip
  refine wpAny_bind (wpAny_sequenceKey ht.typeIs (by decide) ?_)
  refine wpAny_bind (wpAny_callSpecial?_slot (name := Str.ofString "__getitem__") ht.typeIs PyProof.Rows.slot_tuple_getitem
    (wpAny_call_entry PyProof.Rows.slot_tuple_getitem ht.typeIs entry_tuple_getitem ?_ (args_tuple_getitem _ _)))
  show wpAny _ _ (Builtin.Tuple.tupleItemsOf (.ref t) >>= _) _ _ s
  refine wpAny_bind (tupleItemsOf_ ht ?_)
  refine wpAny_bind (wpAny_typeOf hTs ?_)
  rw [if_pos (by decide)]
  refine wpAny_bind (applied_rev hs ?_)
  show wpAny _ _ (if ((((items.size : Int) - 1) == 0 && (-1 : Int) == 1 && items.size == items.size) = true) then _ else _) _ _ s
  rw [if_neg (by
    intro q
    rw [Bool.and_eq_true, Bool.and_eq_true] at q
    exact absurd q.1.2 (by decide)), pick_rev]
  first
    | exact wpAny_bind (m := Builtin.Tuple.tupleExact _) (wpAny_newObj_type (wpAny_pure ⟨_, rfl, wpAny_pure h⟩) htake)
    | exact wpAny_bind (m := Builtin.Tuple.tupleExact _) (wpAny_newObj_type (wpAny_bind (wpAny_pure (wpAny_pure ⟨_, rfl, wpAny_pure h⟩))) htake)
    | exact wpAny_bind (wpAny_bind (m := Builtin.Tuple.tupleExact _) (wpAny_newObj_type (wpAny_pure (wpAny_pure ⟨_, rfl, wpAny_pure h⟩)) htake))
    | exact wpAny_bind (wpAny_bind (m := Builtin.Tuple.tupleExact _) (wpAny_newObj_type (wpAny_pure ⟨_, rfl, wpAny_pure h⟩) htake))
end
def tRevT (K : PySem.W.Frag) (te : TE) : TE := fun σ H Q => te σ H fun x H1 => ∃ a xs, x = .ref a ∧ SqT K H1 a xs ∧ ∀ p, H1 p = none → Q (.ref p) (upd H1 p (.tup xs.reverse))
section
variable {X : Cx}
theorem pe_revT {e : Expr} {te : TE} {k : Nat} {p1 p2 p3 pos : Pos} (he : PE X e te) : PE X (.Subscript e (.Slice none none (some (.UnaryOp .USub (.Constant (.int 1) k p1) p2)) p3) pos) (tRevT X.K te) := by
  refine ⟨fun pins s σ H Q I h => ?_⟩
  refine Subscript_ (thn (he.run pins s σ H _ I h) fun v s1 ⟨x, H1, I1, r1, q1⟩ => ?_)
  obtain ⟨a, xs, ex, hx, q⟩ := q1
  subst ex
  cases r1
  have hst : PO X (some (.UnaryOp .USub (.Constant (.int 1) k p1) p2)) (tPart (tUn (rU fun i => .int (-i)) (tC (.int 1)))) := po_some (pe_un un_neg pe_int)
  refine wpAny_Slice (thn (po_none.run pins s1 σ H1 (fun o H2 => o = none ∧ H2 = H1) I1 ⟨rfl, rfl⟩) fun vl s2 ⟨l, H2, I2, pl, el, e2⟩ => ?_)
  subst el e2
  refine thn (po_none.run pins s2 σ H2 (fun o H3 => o = none ∧ H3 = H2) I2 ⟨rfl, rfl⟩) fun vu s3 ⟨u, H3, I3, pu, eu, e3⟩ => ?_
  subst eu e3
  refine thn (hst.run pins s3 σ H3 (fun o H4 => o = some (-1) ∧ H4 = H3) I3 ⟨1, rfl, -1, rfl, rfl, rfl⟩) fun vs s4 ⟨o, H4, I4, ps, eo, e4⟩ => ?_
  subst eo e4
  cases pl
  cases pu
  cases ps with
  | int i tt =>
  have I5 : Inv X pins σ H4 { s4 with heap := s4.heap.push { cls := .type "slice", data := .fields #[.none, .none, .int (-1) tt] } } := I4.kept (t' := s4.toks) fun b ob q => Heap.get?_push_of_some _ q
  obtain ⟨its, r, ht, hz⟩ := I5.tuple hx
  have hlen := r.length
  show wpAny (model X.prog X.w) X.A (subscriptTail e (.Slice none none (some (.UnaryOp .USub (.Constant (.int 1) k p1) p2)) p3) (.ref a) (.ref s4.heap.objs.size)) (EP X pins σ Q) X.xe { s4 with heap := s4.heap.push { cls := .type "slice", data := .fields #[.none, .none, .int (-1) tt] } }
  refine tail_any (ops := [.ref a, .ref s4.heap.objs.size]) ht.typeIs (PyProof.Rows.slot_tuple_getitem.lookup) ?_ (by with_unfolding_all rfl)
  refine getItem_tuple_rev ht (Heap.IsSliceOf.new _ .none .none (.int (-1) tt)) ?_ (by rw [List.size_toArray]; omega)
  refine ⟨.ref _, _, I5.laid (t' := s4.toks) (o := .tup xs.reverse) (fun b ob q => Heap.get?_push_of_some _ q) (Nat.le_refl _) ?_, rfl, q _ (I5.hok.fresh (Nat.le_refl _))⟩
  exact ⟨by rw [List.length_reverse]; exact hz, its.reverse, r.reverse, _, Heap.get?_push_size _ rfl, rfl, 0, by simp⟩
end
end TR
end
/-! ### LA4 -/
section
set_option Elab.async false
set_option linter.all false
set_option maxRecDepth 100000
set_option maxHeartbeats 4000000
/-! _law_is_run. -/
namespace K0
open PySem PySem.Spec PyProof.Rows L2 SetTx
def shortR : PyData → Bool
  | .tuple (s :: _) => shortT s
  | _ => true
def spDR (K : PySem.W.Frag) (f : PyData → Bool) : Sp := fun vs H Q _ => ∃ (v : V) (d : PyData), vs = [v] ∧ Dv K H v d ∧ d.bulk ≤ 100000 ∧ shortR d = true ∧ ∀ H', Same H H' → Q (.bl (f d)) H'
theorem scLIsRun : FnScope ["value", "low", "high"] ["value"] (defScope (top iLIsRun)) := ⟨rfl, rfl, rfl, by decide +kernel, rfl, by decide +kernel, by decide +kernel⟩
theorem big40 : (4 : Int) ≤ 10 ^ Int.toNat 40 := by decide +kernel
theorem num_same {d : PyData} : isNumD 0 3 d = (isLIntD d && (match d with | .int i => decide (0 ≤ i) && decide (i ≤ 3) | _ => false)) := by
  cases d with
  | int i =>
    show (decide (0 ≤ i) && decide (i ≤ 3)) = ((decide (-(10 ^ Int.toNat 40) < i) && decide (i < 10 ^ Int.toNat 40)) && (decide (0 ≤ i) && decide (i ≤ 3)))
    have b := big40
    by_cases h1 : 0 ≤ i
    · by_cases h2 : i ≤ 3
      · rw [decide_eq_true h1, decide_eq_true h2, decide_eq_true (show -(10 ^ Int.toNat 40) < i by omega), decide_eq_true (show i < 10 ^ Int.toNat 40 by omega)]
        rfl
      · rw [decide_eq_false h2]
        simp
    · rw [decide_eq_false h1]
      simp
  | _ => rfl
section
variable {P : Program} {w : World} {K : PySem.W.Frag} {mg : Str → Option Value} {base : Heap} {f fS fI : Addr} {fd fdS fdI : FuncData}
theorem ok_lisRun {k : Nat} (F : FnP K "_law_is_run" iLIsRun f fd) (misi : mg "isinstance" = none) (mtup : mg "tuple" = none) (mlen : mg "len" = none)
    (FS : FnOk P w K mg base CX0 (k + 2) fS fdS ["value"] (spDS K areSignsD)) (gS : mg "_law_are_signs" = some (.ref fS)) (kS : PySem.W.keepIn K (.ref fS) = true) (bS : Binds K fdS ["value"] [])
    (FI : FnOk P w K mg base CX0 (k + 2) fI fdI ["value"] (spD K isLIntD)) (gI : mg "_law_is_integer" = some (.ref fI)) (kI : PySem.W.keepIn K (.ref fI) = true) (bI : Binds K fdI ["value"] []) :
    FnOk P w K mg base CX0 (k + 3) f fd ["value"] (spDR K isRunD) := by
  refine F.ok scLIsRun (fun vs H Q E h => ?_) (fun cdv A outer s H vs Q E hr h => ?_)
  · obtain ⟨v, d, rfl, _⟩ := h
    rfl
  · obtain ⟨v, d, rfl, hd, sz, sh, q⟩ := h
    refine ⟨_, PSs.nox (pss_cons (ps_if (PW.pt (pw_or (pt_not (pt_val (pe_callB call_isi (by rfl) misi boot_isinstance (pa_cons (pv 0) (pa_cons (pe_bltn (v := .ty "tuple") (by rfl) mtup (by decide +kernel) rfl) pa_nil)))))
          (pw_or (pt_cmpR op_ne (pe_callB call_len_seq (by rfl) mlen PySem.boot_len (pa_cons (pv 0) pa_nil)) pe_int (nomark _))
          (pw_or (pt_not (pt_val (pe_call FS hr (by rfl) gS kS bS .nil pass0 (pa_cons (pe_ix ix_tup (pv 0) pe_int (fun _ _ => rfl)) pa_nil))))
          (pw_or1 (pt_cmpR (op_eqD hr.units) (pe_ix ix_tup (pv 0) pe_int (fun _ _ => rfl)) (pe_tup pa_nil) (nomark _))))))) (pss_one (ps_ret pe_bl)) pss_nil)
      (pss_cons (ps_par (i := 1) (j := 2) (by rfl) scLIsRun.nd rfl rfl (by decide) rfl rfl (pa_cons (pe_ix ix_tup (pv 0) pe_int (fun _ _ => rfl)) (pa_cons (pe_ix ix_tup (pv 0) pe_int (fun _ _ => rfl)) pa_nil)) (by rfl))
      (pss_cons (ps_if (PW.pt (pw_or (pt_not (pt_val (pe_call FI hr (by rfl) gI kI bI .nil pass0 (pa_cons (pv 1) pa_nil)))) (pw_or1 (pt_not (pt_chain op_le op_le pe_int (pv 1) pe_int))))) (pss_one (ps_ret pe_bl)) pss_nil)
      (pss_one (ps_ret (pe_or (pe_cmp (pc_isN (pv 2)) rfl) (pe_one (pe_and (pe_call FI hr (by rfl) gI kI bI .nil pass0 (pa_cons (pv 2) pa_nil)) (pe_and (pe_chain op_le op_le pe_int (pv 2) pe_int) (pe_one (pe_cmpR op_le (pv 1) (pv 2) (nomark _)))))))))))), ?_⟩
    have sl : sizeLine = 16777216 := sizeLine_eq
    refine ⟨_, rfl, v, _, _, _, _, rfl, .ty _, hd.ty, kit_tup d, _, rfl, ite2 (fun e => ?_) (fun e => ?_)⟩
    · have q2 := q H (Same.refl H)
      rw [not_tup_run (fun z => by rw [z] at e; cases e)] at q2
      exact q2
    have e2 : isTupD d = true := by
      cases z : isTupD d with
      | true => rfl
      | false => rw [z] at e; exact absurd rfl e
    obtain ⟨a, xs, ds, rfl, rfl, hT, hA⟩ := is_tup hd e2
    have sz2 : PyData.bulkAll ds ≤ 100000 := sz
    have xl := hA.length
    refine ⟨_, rfl, a, xs, rfl, .inr hT, rfl, _, rfl, ite2 (fun e3 => ?_) (fun e3 => ?_)⟩
    · have q2 := q H (Same.refl H)
      rw [not_three (fun z => by
        rw [← xl] at z
        rw [z] at e3
        exact absurd e3 (by decide))] at q2
      exact q2
    have l3 : ds.length = 3 := by
      by_cases z : ds.length = 3
      · exact z
      · refine absurd ?_ e3
        have z2 : ¬ (V.int ((xs.length : Nat) : Int) = V.int 3) := fun y => by
          injection y with y
          omega
        rw [decide_eq_false z2]
        rfl
    obtain ⟨ds1, dl, dh, rfl⟩ := three l3
    cases hA with
    | cons h1 hA =>
    cases hA with
    | cons h2 hA =>
    cases hA with
    | cons h3 hA =>
    cases hA
    rename_i v1 v2 v3
    rw [PyData.bulkAll, PyData.bulkAll, PyData.bulkAll] at sz2
    have qr : isRunD (.tuple [ds1, dl, dh]) = (areSignsD ds1 && !noneIn ds1 && isNumD 0 3 dl && isHighD (lowOf dl) dh) := rfl
    rw [qr] at q
    refine ⟨_, rfl, a, _, 0, v1, rfl, rfl, hT, rfl, v1, ds1, rfl, h1, by omega, sh, fun H1 s1 => ⟨_, rfl, ite2 (fun e4 => ?_) (fun e4 => ?_)⟩⟩
    · have z : areSignsD ds1 = false := by
        cases y : areSignsD ds1 with
        | false => rfl
        | true => rw [y] at e4; cases e4
      rw [z] at q
      exact q H1 s1
    have sg : areSignsD ds1 = true := by
      cases y : areSignsD ds1 with
      | true => rfl
      | false => rw [y] at e4; exact absurd rfl e4
    have t1 : isTupD ds1 = true := by
      cases ds1 <;> first | rfl | cases sg
    obtain ⟨a1, xs1, es, rfl, rfl, hT1, hA1⟩ := is_tup h1 t1
    have sgs1 : es.all isSignD = true := (Bool.and_eq_true_iff.mp (show (es.all isSignD && (ltP es).all id) = true from sg)).1
    rw [sg] at q
    have hT' := same_tup s1 hT
    refine ⟨_, rfl, a, _, 0, _, rfl, rfl, hT', rfl, Nat.zero_le _, fun t nt => ?_⟩
    have s2 := s1.trans (same_upd nt (o := .tup []))
    have shp : SeqAt.shaped (.tuple es) = true := by
      obtain ⟨g1, g2⟩ := signs_shape sgs1
      unfold SeqAt.shaped
      rw [Bool.and_eq_true]
      refine ⟨by rw [PyData.canLay0]; exact g1, decide_eq_true ?_⟩
      rw [PyData.depth]
      omega
    have eqn : PyData.eqv (.tuple es) (.tuple []) = noneIn (.tuple es) := by cases es <;> rfl
    have hTs := same_tup s2 hT
    refine ⟨.tuple es, .tuple [], .tup (same_tup s2 hT1) (dp_signs (DvAll.same s2 es _ hA1) sgs1), .tup (.of upd_same) .nil, shp, rfl, _, rfl, ?_⟩
    rw [eqn]
    refine ite2 (fun e5 => ?_) (fun e5 => ?_)
    · rw [e5] at q
      exact q _ s2
    have e5 : noneIn (.tuple es) = false := Bool.eq_false_iff.mpr e5
    rw [e5] at q
    refine ⟨_, rfl, a, _, 1, v2, rfl, rfl, hTs, rfl, _, rfl, a, _, 2, v3, rfl, rfl, hTs, rfl, _, _, rfl, ?_⟩
    refine ⟨_, rfl, v2, dl, rfl, h2.same' s2, by omega, fun H3 s3 => ⟨_, rfl, ?_⟩⟩
    have q3 := q H3 (s2.trans s3)
    rw [num_same] at q3
    refine ite2 (fun e6 => ?_) (fun e6 => ?_)
    · have z : isLIntD dl = false := by
        cases y : isLIntD dl with
        | false => rfl
        | true => rw [y] at e6; cases e6
      rw [z] at q3
      exact q3
    have i1 : isLIntD dl = true := by
      cases y : isLIntD dl with
      | true => rfl
      | false => rw [y] at e6; exact absurd rfl e6
    rw [i1] at q3
    cases h2 with
    | int i =>
      have q3 : Q (.bl (true && !false && (true && (decide (0 ≤ i) && decide (i ≤ 3))) && isHighD (lowOf (.int i)) dh)) H3 := q3
      refine ⟨_, rfl, _, _, rfl, rfl, _, rfl, ite2 (fun e7 => ⟨_, _, rfl, rfl, _, rfl, ite2 (fun e8 => ?_) (fun e8 => ?_)⟩) (fun e7 => ⟨_, rfl, ?_⟩)⟩
      · have z : decide (i ≤ 3) = false := by
          cases y : decide (i ≤ 3) with
          | false => rfl
          | true => rw [y] at e8; cases e8
        rw [z, Bool.and_false] at q3
        exact q3
      · have z : decide (i ≤ 3) = true := by
          cases y : decide (i ≤ 3) with
          | true => rfl
          | false => rw [y] at e8; exact absurd rfl e8
        have lo : 0 ≤ i := of_decide_eq_true e7
        have hi3 : i ≤ 3 := of_decide_eq_true z
        rw [z, decide_eq_true lo] at q3
        refine ⟨_, rfl, _, rfl, ite2 (fun e9 => ?_) (fun e9 => ?_)⟩
        · have e9 : v3 = .non := of_decide_eq_true e9
          subst e9
          cases h3
          exact q3
        · have e9 : v3 ≠ .non := fun y => e9 (decide_eq_true y)
          refine ⟨_, rfl, v3, dh, rfl, h3.same' (s2.trans s3), by omega, fun H4 s4 => ⟨_, rfl, ?_⟩⟩
          have q4 := q H4 ((s2.trans s3).trans s4)
          rw [num_same, i1] at q4
          have q4 : Q (.bl (true && !false && (true && (decide (0 ≤ i) && decide (i ≤ 3))) && isHighD (lowOf (.int i)) dh)) H4 := q4
          rw [decide_eq_true hi3, decide_eq_true lo] at q4
          refine ite2 (fun f1 => ?_) (fun f1 => ?_)
          · cases h3 with
            | int j =>
              have hs : isHighD (lowOf (.int i)) (.int j) = (decide (1 ≤ j) && (decide (j ≤ 3) && decide (i ≤ j))) := by
                show (decide ((if 1 > i then 1 else i) ≤ j) && decide (j ≤ 3)) = _
                by_cases c1 : 1 ≤ j
                · by_cases c2 : j ≤ 3
                  · by_cases c3 : i ≤ j
                    · rw [decide_eq_true c1, decide_eq_true c2, decide_eq_true c3, decide_eq_true (by split <;> omega)]
                      rfl
                    · rw [decide_eq_false c3, decide_eq_false (by split <;> omega)]
                      simp
                  · rw [decide_eq_false c2]
                    simp
                · rw [decide_eq_false c1, decide_eq_false (by split <;> omega)]
                  simp
              rw [hs] at q4
              refine ⟨_, rfl, _, _, rfl, rfl, _, rfl, ite2 (fun f2 => ⟨_, _, rfl, rfl, _, rfl, ite2 (fun f3 => ?_) (fun f3 => ?_)⟩) (fun f2 => ⟨_, rfl, ?_⟩)⟩
              · refine ⟨_, rfl, _, rfl, _, _, rfl, rfl, ?_⟩
                rw [f2, f3] at q4
                exact q4
              · rw [Bool.eq_false_iff.mpr f3, Bool.false_and, Bool.and_false] at q4
                exact q4
              · rw [Bool.eq_false_iff.mpr f2] at q4
                exact q4
            | _ => first | exact absurd rfl e9 | cases f1
          · have z : isHighD (lowOf (.int i)) dh = false := by
              cases h3 with
              | int j =>
                have f1 : ¬ isLIntD (.int j) = true := f1
                cases y : isHighD (lowOf (.int i)) (.int j) with
                | false => rfl
                | true =>
                  exfalso
                  have y : (decide ((if 1 > i then 1 else i) ≤ j) && decide (j ≤ 3)) = true := y
                  rw [Bool.and_eq_true, decide_eq_true_iff, decide_eq_true_iff] at y
                  have b := big40
                  refine f1 ?_
                  show (decide (-(10 ^ Int.toNat 40) < j) && decide (j < 10 ^ Int.toNat 40)) = true
                  have j1 : 1 ≤ j := by
                    have := y.1
                    split at this <;> omega
                  rw [decide_eq_true (show -(10 ^ Int.toNat 40) < j by omega), decide_eq_true (show j < 10 ^ Int.toNat 40 by omega)]
                  rfl
              | non => exact absurd rfl e9
              | _ => rfl
            rw [z] at q4
            exact q4
      · rw [Bool.eq_false_iff.mpr e7] at q3
        exact q3
    | _ => cases i1
end
end K0
end
/-! ### SP1 -/
section
set_option Elab.async false
set_option linter.all false
set_option maxRecDepth 100000
set_option maxHeartbeats 4000000
/-! tuple(text); values of displays that are told over a heap that is there (B). -/
namespace K0
open PySem PySem.Spec PyProof.Rows L2 Rd TR
theorem call_tuple_txt {X : Cx} (hc : X.calm = true) : CallR X (.type "tuple") (fun xs H Q => ∃ z, xs = [.str z] ∧ z.length ≤ sizeLine ∧ ∀ l, H l = none → Q (.ref l) (upd H l (.tup (signsV z)))) := by
  intro pins s σ H xs us Q I r h
  obtain ⟨z, rfl, hz, q⟩ := h
  obtain ⟨u, rfl, t, rfl⟩ := vals1 r
  refine PySem.call_tuple_str (I.ok.hd hc) z t (fun h' tk acc kp it => ?_) hz
  have I2 : Inv X pins σ H { s with heap := h', toks := tk } := I.kept (t' := tk) kp
  have lz : (signsV z).length ≤ sizeLine := by
    unfold signsV
    rw [List.length_map]
    exact hz
  exact ⟨.ref h'.objs.size, _, I2.laid (t' := tk) (fun b ob q => Heap.get?_push_of_some _ q) (Nat.le_refl _) (o := .tup (signsV z)) ⟨lz, acc.toList, signs_vals it, _, Heap.get?_push_size _ rfl, rfl, _, by simp; rfl⟩, rfl, q _ (I2.hok.fresh (Nat.le_refl _))⟩
section
variable {K : PySem.W.Frag} {p : Addr} {B : Hp} {σ : L2.St}
/-- over B -/
def EvB (K : PySem.W.Frag) (p : Addr) (B : Hp) (σ : L2.St) (te : TE) (d : PyData) : Prop := ∀ H Q, Dice p H → Same B (hid p H) → (∀ x H', Same H H' → Dv K (hid p H') x d → Q x H') → te σ H Q
def EvBN (K : PySem.W.Frag) (p : Addr) (B : Hp) (σ : L2.St) (ta : TA) (ds : List PyData) : Prop := ∀ H Q, Dice p H → Same B (hid p H) → (∀ xs H', Same H H' → DvAll K (hid p H') xs ds → Q xs H') → ta σ H Q
theorem evb1 {te : TE} {d : PyData} (h : Ev1 K p σ te d) : EvB K p B σ te d := fun H Q D _ q => h H Q D q
theorem same_hid {H H' : Hp} (s : Same H H') : Same (hid p H) (hid p H') := hid_same fun b o _ z => s b o z
theorem evb_nil : EvBN K p B σ tNil [] := fun H Q _ _ q => q _ H (Same.refl H) .nil
theorem evb_cons {te : TE} {ta : TA} {d : PyData} {ds : List PyData} (h : EvB K p B σ te d) (g : EvBN K p B σ ta ds) : EvBN K p B σ (tCons te ta) (d :: ds) := fun H Q D b q =>
  h H _ D b fun x H1 e1 v1 => g H1 _ (D.same e1) (b.trans (same_hid e1)) fun xs H2 e2 v2 => q _ H2 (e1.trans e2) (.cons (v1.same' (same_hid e2)) v2)
theorem evb_tup {ta : TA} {ds : List PyData} (g : EvBN K p B σ ta ds) (hl : ds.length ≤ 1000) : EvB K p B σ (tTup ta) (.tuple ds) := fun H Q D b q =>
  g H _ D b fun xs H1 e1 v1 => ⟨by rw [v1.length]; exact Nat.le_of_lt (small1000 hl), fun a na => q _ _ (e1.trans (same_upd na)) (.tup (xs := xs) (.of (by rw [hid_ne ((D.same e1).ne na), upd_same])) (DvAll.same (same_hid (same_upd na)) ds _ v1))⟩
theorem evb_lst {ta : TA} {ds : List PyData} (g : EvBN K p B σ ta ds) (hl : ds.length ≤ 1000) : EvB K p B σ (tLst ta) (.list ds) := fun H Q D b q =>
  g H _ D b fun xs H1 e1 v1 => ⟨by rw [v1.length]; exact Nat.le_of_lt (small1000 hl), fun a na => q _ _ (e1.trans (same_upd na)) (.lst (xs := xs) (.of (by rw [hid_ne ((D.same e1).ne na), upd_same])) (DvAll.same (same_hid (same_upd na)) ds _ v1))⟩
theorem evb_var {i : Nat} {v : V} {d : PyData} (e : σ[i]? = some (some v)) (h : Dv K B v d) : EvB K p B σ (tVar i) d := fun H Q _ b q => ⟨v, e, q v H (Same.refl H) (h.same' b)⟩
theorem DvAll.rev {H : Hp} : ∀ {ds : List PyData} {xs : List V}, DvAll K H xs ds → DvAll K H xs.reverse ds.reverse
  | [], _, h => by cases h; exact .nil
  | d :: ds, _, h => by
    cases h with
    | cons h1 h2 =>
      rw [List.reverse_cons, List.reverse_cons]
      exact DvAll.append (DvAll.rev h2) (.cons h1 .nil)
/-- t[::-1] -/
theorem evb_rev {te : TE} {ds : List PyData} (h : EvB K p B σ te (.tuple ds)) : EvB K p B σ (tRevT K te) (.tuple ds.reverse) := fun H Q D b q =>
  h H _ D b fun x H1 e1 v1 => by
    cases v1 with
    | tup hT hA =>
      refine ⟨_, _, rfl, sq_hid hT, fun a na => q _ _ (e1.trans (same_upd na)) (.tup (.of (by rw [hid_ne ((D.same e1).ne na), upd_same])) (DvAll.same (same_hid (same_upd na)) ds.reverse _ (DvAll.rev hA)))⟩
/-- list(t) -/
theorem evb_list {ta : TA} {ds : List PyData} (h : EvBN K p B σ ta [.tuple ds]) : EvB K p B σ (tCB (fun xs H Q => ∃ p ys, xs = [.ref p] ∧ (SqL K H p ys ∨ SqT K H p ys) ∧ ∀ l, H l = none → Q (.ref l) (upd H l (.lst ys))) ta) (.list ds) := fun H Q D b q =>
  h H _ D b fun xs H1 e1 v1 => by
    cases v1 with
    | cons w1 w2 =>
      cases w2
      cases w1 with
      | tup hT hA =>
        exact ⟨_, _, rfl, .inr (sq_hid hT), fun a na => q _ _ (e1.trans (same_upd na)) (.lst (.of (by rw [hid_ne ((D.same e1).ne na), upd_same])) (DvAll.same (same_hid (same_upd na)) ds _ hA))⟩
/-- t + u of tuples -/
theorem evb_cat {ta tb : TE} {ds es : List PyData} (h : EvB K p B σ ta (.tuple ds)) (g : EvB K p B σ tb (.tuple es)) (n1 : ds ≠ []) (n2 : es ≠ []) (hl : ds.length + es.length ≤ 1000) : EvB K p B σ (tOp (rCatT K) ta tb) (.tuple (ds ++ es)) := fun H Q D b q =>
  h H _ D b fun x H1 e1 v1 => g H1 _ (D.same e1) (b.trans (same_hid e1)) fun y H2 e2 v2 => by
    cases v1 with
    | tup hT hA =>
      cases v2 with
      | tup hT2 hA2 =>
        have l1 := hA.length
        have l2 := hA2.length
        refine ⟨_, _, _, _, rfl, rfl, same_tup e2 (sq_hid hT), sq_hid hT2, fun z => ?_, ?_, fun z => ?_, fun _ a na => ?_⟩
        · rw [z] at l1
          exact n1 (List.length_eq_zero_iff.mp l1.symm)
        · rw [l1, l2]
          exact Nat.le_of_lt (small1000 hl)
        · rw [z] at l2
          exact absurd (List.length_eq_zero_iff.mp l2.symm) n2
        · exact q _ _ ((e1.trans e2).trans (same_upd na)) (.tup (.of (by rw [hid_ne (((D.same e1).same e2).ne na), upd_same])) (DvAll.append (DvAll.same ((same_hid e2).trans (same_hid (same_upd na))) ds _ hA) (DvAll.same (same_hid (same_upd na)) es _ hA2)))
/-- low - 1 -/
theorem evb_sub {ta : TE} {i j : Int} (h : EvB K p B σ ta (.int i)) : EvB K p B σ (tOp (rI0 fun i j => .int (i - j)) ta (tC (.int j))) (.int (i - j)) := fun H Q D b q =>
  h H _ D b fun x H1 e1 v1 => by
    cases v1
    exact ⟨_, _, rfl, rfl, q _ H1 e1 (.int _)⟩
end
end K0
end
/-! ### SP2 -/
section
set_option Elab.async false
set_option linter.all false
set_option maxRecDepth 100000
set_option maxHeartbeats 4000000
/-! More readings of displays; data that is small and can be shown. -/
namespace K0
open PySem PySem.Spec PyProof.Rows L2 Rd TR
/-- data that can be shown, of at most so much bulk and depth -/
structure Gd (n m : Nat) (d : PyData) : Prop where
  sh : d.showable = true
  lv : d.leavesShort 60 = true
  bk : d.bulk ≤ n
  dp : d.depth ≤ m
theorem Gd.mono {n m n' m' : Nat} {d : PyData} (h : Gd n m d) (h1 : n ≤ n') (h2 : m ≤ m') : Gd n' m' d := ⟨h.sh, h.lv, Nat.le_trans h.bk h1, Nat.le_trans h.dp h2⟩
theorem gd_all {n m : Nat} : ∀ {ds : List PyData}, (∀ d ∈ ds, Gd n m d) → PyData.showableAll ds = true ∧ PyData.leavesShortAll 60 ds = true ∧ PyData.bulkAll ds ≤ (n + 1) * ds.length ∧ PyData.depthAll ds ≤ m
  | [], _ => ⟨rfl, rfl, Nat.le_refl _, Nat.zero_le _⟩
  | d :: ds, h => by
    obtain ⟨h1, h2, h3, h4⟩ := gd_all fun e he => h e (List.mem_cons_of_mem _ he)
    have g := h d List.mem_cons_self
    refine ⟨?_, ?_, ?_, ?_⟩
    · rw [PyData.showableAll, g.sh, h1]; rfl
    · rw [PyData.leavesShortAll, g.lv, h2]; rfl
    · have := g.bk
      rw [PyData.bulkAll, List.length_cons, Nat.mul_succ]
      omega
    · have := g.dp
      rw [PyData.depthAll]
      omega
theorem gd_tup {n m k : Nat} {ds : List PyData} (h : ∀ d ∈ ds, Gd n m d) (l : ds.length ≤ k) : Gd ((n + 1) * k) (m + 1) (.tuple ds) := by
  obtain ⟨h1, h2, h3, h4⟩ := gd_all h
  refine ⟨?_, ?_, ?_, ?_⟩
  · rw [PyData.showable]; exact h1
  · rw [PyData.leavesShort]; exact h2
  · rw [PyData.bulk]; exact Nat.le_trans h3 (Nat.mul_le_mul_left _ l)
  · rw [PyData.depth]; omega
theorem gd_lst {n m k : Nat} {ds : List PyData} (h : ∀ d ∈ ds, Gd n m d) (l : ds.length ≤ k) : Gd ((n + 1) * k) (m + 1) (.list ds) := by
  obtain ⟨h1, h2, h3, h4⟩ := gd_all h
  refine ⟨?_, ?_, ?_, ?_⟩
  · rw [PyData.showable]; exact h1
  · rw [PyData.leavesShort]; exact h2
  · rw [PyData.bulk]; exact Nat.le_trans h3 (Nat.mul_le_mul_left _ l)
  · rw [PyData.depth]; omega
theorem gd_non {n m : Nat} : Gd n m .none := ⟨rfl, rfl, Nat.zero_le _, Nat.zero_le _⟩
theorem gd_bl {n m : Nat} (b : Bool) : Gd n m (.bool b) := ⟨rfl, rfl, Nat.zero_le _, Nat.zero_le _⟩
theorem gd_one {m c : Nat} (h : c ∈ sgs') : Gd 1 m (.str (oneS c)) := by
  refine ⟨rfl, ?_, Nat.le_refl _, Nat.zero_le _⟩
  have : (sgs'.all fun c => (PyData.str (oneS c)).leavesShort 60) = true := by decide +kernel
  exact List.all_eq_true.mp this c h
theorem gd_small {m : Nat} {i : Int} (h1 : -2 ≤ i) (h2 : i ≤ 4) : Gd 0 m (.int i) := by
  have : i = -2 ∨ i = -1 ∨ i = 0 ∨ i = 1 ∨ i = 2 ∨ i = 3 ∨ i = 4 := by omega
  rcases this with rfl | rfl | rfl | rfl | rfl | rfl | rfl <;> exact ⟨by decide +kernel, by decide +kernel, Nat.zero_le _, Nat.zero_le _⟩
theorem gd_odd {d : PyData} (h : d ∈ odd1 ++ odd2) : Gd 10000 3 d := by
  have all : ((odd1 ++ odd2).all fun d => d.showable && (d.leavesShort 60 && (decide (d.bulk ≤ 10000) && decide (d.depth ≤ 3)))) = true := by decide +kernel
  have z := List.all_eq_true.mp all d h
  obtain ⟨h1, z⟩ := Bool.and_eq_true_iff.mp z
  obtain ⟨h2, z⟩ := Bool.and_eq_true_iff.mp z
  obtain ⟨h3, h4⟩ := Bool.and_eq_true_iff.mp z
  exact ⟨h1, h2, of_decide_eq_true h3, of_decide_eq_true h4⟩
theorem short_odd {d : PyData} (h : d ∈ odd1 ++ odd2) : shortT d = true ∧ shortR d = true := by
  have all : ((odd1 ++ odd2).all fun d => shortT d && shortR d) = true := by decide +kernel
  exact Bool.and_eq_true_iff.mp (List.all_eq_true.mp all d h)
/-- what a run's data tells: few signs, small bounds -/
theorem run_small {d : PyData} (h : isRunD d = true) : ∃ (cs : List Nat) (i : Int) (e : PyData), d = runData cs (.int i) e ∧ cs ≠ [] ∧ cs.Pairwise (· < ·) ∧ (∀ c ∈ cs, c ∈ sgs') ∧ cs.length ≤ 15 ∧ 0 ≤ i ∧ i ≤ 3 ∧ (e = .none ∨ ∃ j, e = .int j ∧ 1 ≤ j ∧ j ≤ 3) := by
  obtain ⟨es, l, e, rfl, h1, ⟨i, rfl⟩, h3⟩ := run_parts h
  have r : (areSignsD (.tuple es) && !noneIn (.tuple es) && isNumD 0 3 (.int i) && isHighD (lowOf (.int i)) e) = true := h
  rw [Bool.and_eq_true, Bool.and_eq_true, Bool.and_eq_true] at r
  obtain ⟨⟨⟨r1, r2⟩, r3⟩, r4⟩ := r
  have r3 : (decide (0 ≤ i) && decide (i ≤ 3)) = true := r3
  rw [Bool.and_eq_true, decide_eq_true_iff, decide_eq_true_iff] at r3
  have asc := (are_asc h1).symm.trans r1
  have asc := of_decide_eq_true asc
  have mem : ∀ c ∈ es.map sgD, c ∈ sgs' := fun c hc => by
    obtain ⟨d, hd, rfl⟩ := List.mem_map.mp hc
    exact sign_mem (List.all_eq_true.mp h1 d hd)
  have nd : (es.map sgD).Nodup := asc.imp fun z => Nat.ne_of_lt z
  refine ⟨es.map sgD, i, e, ?_, ?_, asc, mem, ?_, r3.1, r3.2, ?_⟩
  · show PyData.tuple [.tuple es, .int i, e] = .tuple [.tuple ((es.map sgD).map fun c => .str (oneS c)), .int i, e]
    rw [← strs_of h1]
  · intro z
    cases es with
    | nil => cases r2
    | cons _ _ => cases z
  · exact Nat.le_trans (nodup_len nd mem) (by decide +kernel)
  · rcases h3 with rfl | ⟨j, rfl⟩
    · exact .inl rfl
    · have r4 : (decide ((if 1 > i then 1 else i) ≤ j) && decide (j ≤ 3)) = true := r4
      rw [Bool.and_eq_true, decide_eq_true_iff, decide_eq_true_iff] at r4
      refine .inr ⟨j, rfl, ?_, r4.2⟩
      have := r4.1
      split at this <;> omega
theorem gd_signs {cs : List Nat} (h : ∀ c ∈ cs, c ∈ sgs') (l : cs.length ≤ 15) : Gd 30 1 (.tuple (cs.map fun c => .str (oneS c))) :=
  (gd_tup (n := 1) (m := 0) (k := 15) (fun d hd => by
    obtain ⟨c, hc, rfl⟩ := List.mem_map.mp hd
    exact gd_one (h c hc)) (by rw [List.length_map]; exact l)).mono (by omega) (by omega)
section
variable {K : PySem.W.Frag} {p : Addr} {B : Hp} {σ : L2.St}
/-- run[:2] -/
theorem evb_two {te : TE} {d1 d2 d3 : PyData} (h : EvB K p B σ te (.tuple [d1, d2, d3])) : EvB K p B σ (tSl (rSlA K) te tNoPart (tPart (tC (.int 2)))) (.tuple [d1, d2]) := fun H Q D b q =>
  h H _ D b fun x H1 e1 v1 => by
    cases v1 with
    | tup hT hA =>
      cases hA with
      | cons w1 hA =>
      cases hA with
      | cons w2 hA =>
      cases hA with
      | cons w3 hA =>
      cases hA
      refine ⟨2, rfl, _, _, rfl, sq_hid hT, fun z => absurd (show HT.sIx 3 3 (some 2) = 3 from z.2) (by decide), fun _ a na => q _ _ (e1.trans (same_upd na)) (.tup (.of (by rw [hid_ne ((D.same e1).ne na), upd_same]; rfl)) (.cons (w1.same' (same_hid (same_upd na))) (.cons (w2.same' (same_hid (same_upd na))) .nil)))⟩
theorem ones_sum : ∀ cs : List Nat, ((cs.map oneS).map (·.length)).sum = cs.length
  | [] => rfl
  | c :: cs => by
    rw [List.map_cons, List.map_cons, List.sum_cons, ones_sum cs, List.length_cons]
    show 1 + _ = _
    omega
/-- "".join(signs) -/
theorem evb_join {ta : TA} {cs : List Nat} (h : EvBN K p B σ ta [.tuple (cs.map fun c => .str (oneS c))]) (l : cs.length ≤ 15) :
    EvB K p B σ (tBM K "str" (fun x xs H Q => ∃ a p, ∃ ys : List Str, x = .str a ∧ xs = [.ref p] ∧ (SqL K H p (ys.map V.str) ∨ SqT K H p (ys.map V.str)) ∧ (ys.map (·.length)).sum + ys.length * a.length ≤ 16777216 ∧ Q (.str (Txt.join a ys)) H) (tC (.str "")) ta) (.str (Txt.join "" (cs.map oneS))) := fun H Q D b q => by
  refine ⟨rfl, h H _ D b fun xs H1 e1 v1 => ?_⟩
  cases v1 with
  | cons w1 w2 =>
    cases w2
    cases w1 with
    | tup hT hA =>
      rename_i t zs
      have ez : zs = (cs.map oneS).map V.str := by
        rw [← ones_map]
        have go : ∀ {cs : List Nat} {zs : List V}, DvAll K (hid p H1) zs (cs.map fun c => .str (oneS c)) → zs = cs.map oneV := by
          intro cs
          induction cs with
          | nil => intro zs h; cases h; rfl
          | cons c cs ih => intro zs h; cases h with
            | cons a1 a2 =>
              cases a1
              rw [List.map_cons, ← ih a2]
              rfl
        exact go hA
      rw [ez] at hT
      refine ⟨_, t, cs.map oneS, rfl, rfl, .inr (sq_hid hT), ?_, q _ H1 e1 (.str _)⟩
      rw [ones_sum, List.length_map]
      show cs.length + cs.length * 0 ≤ _
      omega
end
end K0
end
/-! ### SP3 -/
section
set_option Elab.async false
set_option linter.all false
set_option maxRecDepth 100000
set_option maxHeartbeats 4000000
/-! _law_spoilt. -/
namespace K0
open PySem PySem.Spec PyProof.Rows L2 Rd TR
section
variable {K : PySem.W.Frag} {p : Addr} {B : Hp} {σ : L2.St}
theorem rd_lstB {H : Hp} {Q : VK} {ta : TA} {ds : List PyData} (ev : EvBN K p B σ ta ds) (D0 : Dice p H) (b : Same B (hid p H)) (hl : ds.length ≤ 1000) (k : ∀ xs H1 l, Same H H1 → DvAll K (hid p H1) xs ds → H1 l = none → Q (.ref l) (upd H1 l (.lst xs))) : tLst ta σ H Q :=
  ev H _ D0 b fun xs H1 e1 v1 => ⟨by rw [v1.length]; exact Nat.le_of_lt (small1000 hl), fun l n => k xs H1 l e1 v1 n⟩
/-- one of a list that stands -/
theorem one_at {H : Hp} {Q : VK} {E : XK} {l : Addr} {xs : List V} {ds : List PyData} (D0 : Dice p H) (e : H l = some (.lst xs)) (lp : l ≠ p) (v : DvAll K (hid p H) xs ds) (ne : ds ≠ []) (hl : ds.length ≤ 1000)
    (k : ∀ x H' d, d ∈ ds → Keep p H H' → Dv K (hid p H') x d → Q x H') : spOne K [.ref p, .ref l] H Q E := by
  obtain ⟨a, b, c, hp⟩ := D0
  have xl := v.length
  refine ⟨p, a, b, c, _, xs, rfl, hp, .inl ⟨l, rfl, .inl (.of e)⟩, fun z => ?_, by rw [xl]; exact Nat.le_of_lt (small1000 hl), fun a' b' c' => .inl ⟨l, rfl, .inl (.of (by rw [upd_ne lp]; exact e))⟩, fun a' b' c' i x hx => ?_⟩
  · rw [z] at xl
    exact ne (List.length_eq_zero_iff.mp xl.symm)
  · obtain ⟨d, hd, vd⟩ := v.get hx
    exact k x _ d (List.mem_of_getElem? hd) (.dice a' b' c') (vd.same' (hid_same (Keep.dice a' b' c').1))
theorem Keep.hid {H H' : Hp} (k : Keep p H H') : Same (K0.hid p H) (K0.hid p H') := hid_same k.1
theorem Keep.dc {H H' : Hp} (k : Keep p H H') : Dice p H' := k.2
/-- one of a display -/
theorem one_lst {H : Hp} {Q : VK} {ta : TA} {ds : List PyData} (ev : EvBN K p B σ ta ds) (e0 : σ[0]? = some (some (.ref p))) (ne : ds ≠ []) (l : ds.length ≤ 1000) (D : Dice p H) (b : Same B (hid p H))
    (k : ∀ x H' d, d ∈ ds → Keep p H H' → Dv K (hid p H') x d → Q x H') : tCall (spOne K) [] E0 (tCons (tVar 0) (tCons (tLst ta) tNil)) σ H Q := by
  refine ⟨_, e0, rd_lstB ev D b l fun xs H1 q s1 v1 n1 => ?_⟩
  obtain ⟨a, b', c, hp⟩ := D.same s1
  have qp : q ≠ p := (ne_of_none hp n1).symm
  have k1 : Keep p H (upd H1 q (.lst xs)) := ⟨fun y o _ z => same_upd n1 _ _ (s1 _ _ z), a, b', c, by rw [upd_ne qp.symm]; exact hp⟩
  exact one_at (E := E0) k1.2 upd_same qp (DvAll.same (same_hid (same_upd n1)) ds _ v1) ne l fun x H' d hd k2 vd => k x H' d hd (k1.trans k2) vd
end
abbrev cpsL' (z : Str) : List Nat := z.cps.toList
theorem fold_glue : ∀ (ws : List Str) (acc : Array Nat), (ws.foldl (fun acc p => acc ++ ("" : Str).cps ++ p.cps) acc).toList = acc.toList ++ (ws.map fun w => w.cps.toList).flatten
  | [], acc => by simp
  | w :: ws, acc => by
    rw [List.foldl_cons, fold_glue ws, List.map_cons, List.flatten_cons, Array.toList_append, Array.toList_append, List.append_assoc, List.append_assoc]
    rfl
theorem glued_codes (ws : List Str) : cpsL' (Builtin.Str.glued ("" : Str) ws) = (ws.map cpsL').flatten := by
  cases ws with
  | nil => rfl
  | cons w ws =>
    show (ws.foldl (fun acc p => acc ++ ("" : Str).cps ++ p.cps) w.cps).toList = _
    rw [fold_glue, List.map_cons, List.flatten_cons]
/-- the text of some codes -/
def txt (l : List Nat) : Str := ⟨l.toArray⟩
theorem txt_codes (l : List Nat) : cpsL' (txt l) = l := by simp [cpsL', txt]
theorem codes_txt (z : Str) : txt (cpsL' z) = z := by
  obtain ⟨a⟩ := z
  simp [cpsL', txt]
theorem flat_one (l : List Nat) : (l.map fun c => [c]).flatten = l := by
  induction l with
  | nil => rfl
  | cons c l ih => rw [List.map_cons, List.flatten_cons, ih]; rfl
theorem glued_ones (l : List Nat) : Builtin.Str.glued ("" : Str) (l.map oneS) = txt l := by
  rw [← codes_txt (Builtin.Str.glued _ _), glued_codes, List.map_map]
  congr 1
  exact flat_one l
theorem gd_join {cs : List Nat} {m : Nat} (h : ∀ c ∈ cs, c ∈ sgs') (l : cs.length ≤ 15) : Gd 15 m (.str (Txt.join "" (cs.map oneS))) := by
  have e : Txt.join "" (cs.map oneS) = txt cs := glued_ones cs
  rw [e]
  refine ⟨rfl, ?_, ?_, Nat.zero_le _⟩
  · show (txt cs).cps.toList.all (fun c => decide (c < 16 ^ 8)) = true
    rw [List.all_eq_true]
    intro c hc
    have hc : c ∈ cs := by simpa [txt] using hc
    have := (by decide +kernel : (sgs'.all fun c => decide (c < 16 ^ 8)) = true)
    exact List.all_eq_true.mp this c (h c hc)
  · show (txt cs).cps.size ≤ 15
    simpa [txt] using l
theorem gd3 {n1 n2 n3 m : Nat} {a b c : PyData} (h1 : Gd n1 m a) (h2 : Gd n2 m b) (h3 : Gd n3 m c) : Gd (n1 + n2 + n3 + 3) (m + 1) (.tuple [a, b, c]) := by
  refine ⟨?_, ?_, ?_, ?_⟩
  · rw [PyData.showable, PyData.showableAll, PyData.showableAll, PyData.showableAll, PyData.showableAll, h1.sh, h2.sh, h3.sh]; rfl
  · rw [PyData.leavesShort, PyData.leavesShortAll, PyData.leavesShortAll, PyData.leavesShortAll, PyData.leavesShortAll, h1.lv, h2.lv, h3.lv]; rfl
  · have := h1.bk; have := h2.bk; have := h3.bk
    rw [PyData.bulk, PyData.bulkAll, PyData.bulkAll, PyData.bulkAll, PyData.bulkAll]; omega
  · have := h1.dp; have := h2.dp; have := h3.dp
    rw [PyData.depth, PyData.depthAll, PyData.depthAll, PyData.depthAll, PyData.depthAll]; omega
theorem gd_g {m : Nat} : Gd 1 m (.str "g") := ⟨rfl, by decide +kernel, by decide +kernel, Nat.zero_le _⟩
theorem mem_ones {cs : List Nat} {d : PyData} (h : ∀ c ∈ cs, c ∈ sgs') (hd : d ∈ cs.map fun c => PyData.str (oneS c)) {m : Nat} : Gd 1 m d := by
  obtain ⟨c, hc, rfl⟩ := List.mem_map.mp hd
  exact gd_one (h c hc)
def ds0 (cs : List Nat) (od : PyData) : List PyData := [.tuple ((cs.map fun c => .str (oneS c)) ++ [.str "g"]), .tuple (cs.map fun c => .str (oneS c)).reverse, .tuple [], .list (cs.map fun c => .str (oneS c)), od, .str (Txt.join "" (cs.map oneS)), .tuple [.list [.str "a"]], .tuple ((cs.map fun c => .str (oneS c)) ++ [.list []])]
theorem ds0_ok {cs : List Nat} {od d : PyData} (h : ∀ c ∈ cs, c ∈ sgs') (l : cs.length ≤ 15) (ho : od ∈ odd1 ++ odd2) (hd : d ∈ ds0 cs od) : Gd 10000 3 d ∧ shortT d = true := by
  unfold ds0 at hd
  rcases List.mem_cons.mp hd with rfl | hd
  · refine ⟨(gd_tup (n := 1) (m := 0) (k := 16) (fun d hd => ?_) (by rw [List.length_append, List.length_map]; exact Nat.succ_le_succ l)).mono (by omega) (by omega), decide_eq_true (by rw [List.length_append, List.length_map]; show _ + 1 < 1000; omega)⟩
    rcases List.mem_append.mp hd with hd | hd
    · exact mem_ones h hd
    · rw [List.mem_singleton.mp hd]; exact gd_g
  rcases List.mem_cons.mp hd with rfl | hd
  · exact ⟨(gd_tup (n := 1) (m := 0) (k := 15) (fun d hd => mem_ones h (List.mem_reverse.mp hd)) (by rw [List.length_reverse, List.length_map]; exact l)).mono (by omega) (by omega), decide_eq_true (by rw [List.length_reverse, List.length_map]; omega)⟩
  rcases List.mem_cons.mp hd with rfl | hd
  · exact ⟨⟨rfl, rfl, Nat.zero_le _, by decide +kernel⟩, rfl⟩
  rcases List.mem_cons.mp hd with rfl | hd
  · exact ⟨(gd_lst (n := 1) (m := 0) (k := 15) (fun d hd => mem_ones h hd) (by rw [List.length_map]; exact l)).mono (by omega) (by omega), rfl⟩
  rcases List.mem_cons.mp hd with rfl | hd
  · exact ⟨gd_odd ho, (short_odd ho).1⟩
  rcases List.mem_cons.mp hd with rfl | hd
  · exact ⟨(gd_join h l).mono (by omega) (Nat.le_refl _), rfl⟩
  rcases List.mem_cons.mp hd with rfl | hd
  · exact ⟨⟨by decide +kernel, by decide +kernel, by decide +kernel, by decide +kernel⟩, rfl⟩
  rcases List.mem_cons.mp hd with rfl | hd
  · refine ⟨(gd_tup (n := 1) (m := 1) (k := 16) (fun d hd => ?_) (by rw [List.length_append, List.length_map]; exact Nat.succ_le_succ l)).mono (by omega) (by omega), decide_eq_true (by rw [List.length_append, List.length_map]; show _ + 1 < 1000; omega)⟩
    rcases List.mem_append.mp hd with hd | hd
    · exact mem_ones h hd
    · rw [List.mem_singleton.mp hd]
      exact ⟨rfl, rfl, Nat.zero_le _, by decide +kernel⟩
  · cases hd
def ds1 (od : PyData) : List PyData := [.int 0, .int 1, .int 3, .int 4, .int (-1), .bool true, .none, od, .str "1"]
theorem ds1_ok {od d : PyData} (ho : od ∈ odd1 ++ odd2) (hd : d ∈ ds1 od) : Gd 10000 3 d := by
  unfold ds1 at hd
  have h : d = .int 0 ∨ d = .int 1 ∨ d = .int 3 ∨ d = .int 4 ∨ d = .int (-1) ∨ d = .bool true ∨ d = .none ∨ d = od ∨ d = .str "1" := by simpa using hd
  rcases h with rfl | rfl | rfl | rfl | rfl | rfl | rfl | rfl | rfl
  · exact (gd_small (by omega) (by omega)).mono (Nat.zero_le _) (Nat.le_refl _)
  · exact (gd_small (by omega) (by omega)).mono (Nat.zero_le _) (Nat.le_refl _)
  · exact (gd_small (by omega) (by omega)).mono (Nat.zero_le _) (Nat.le_refl _)
  · exact (gd_small (by omega) (by omega)).mono (Nat.zero_le _) (Nat.le_refl _)
  · exact (gd_small (by omega) (by omega)).mono (Nat.zero_le _) (Nat.le_refl _)
  · exact gd_bl _
  · exact gd_non
  · exact gd_odd ho
  · exact ⟨rfl, by decide +kernel, by decide +kernel, Nat.zero_le _⟩
def ds2 (i : Int) (od : PyData) : List PyData := [.int 0, .int 1, .int 2, .int 3, .int 4, .int (i - 1), .bool true, od, .int (10 ^ Int.toNat 40)]
theorem ds2_ok {i : Int} {od d : PyData} (h0 : 0 ≤ i) (h3 : i ≤ 3) (ho : od ∈ odd1 ++ odd2) (hd : d ∈ ds2 i od) : Gd 10000 3 d := by
  unfold ds2 at hd
  have h : d = .int 0 ∨ d = .int 1 ∨ d = .int 2 ∨ d = .int 3 ∨ d = .int 4 ∨ d = .int (i - 1) ∨ d = .bool true ∨ d = od ∨ d = .int (10 ^ Int.toNat 40) := by
    simpa only [List.mem_cons, List.not_mem_nil, or_false] using hd
  rcases h with rfl | rfl | rfl | rfl | rfl | rfl | rfl | rfl | rfl
  · exact (gd_small (by omega) (by omega)).mono (Nat.zero_le _) (Nat.le_refl _)
  · exact (gd_small (by omega) (by omega)).mono (Nat.zero_le _) (Nat.le_refl _)
  · exact (gd_small (by omega) (by omega)).mono (Nat.zero_le _) (Nat.le_refl _)
  · exact (gd_small (by omega) (by omega)).mono (Nat.zero_le _) (Nat.le_refl _)
  · exact (gd_small (by omega) (by omega)).mono (Nat.zero_le _) (Nat.le_refl _)
  · exact (gd_small (by omega) (by omega)).mono (Nat.zero_le _) (Nat.le_refl _)
  · exact gd_bl _
  · exact gd_odd ho
  · exact gd_odd (List.mem_append_left _ (by unfold odd1; simp only [List.mem_cons, true_or, or_true]))
theorem gd_hi {e : PyData} {m : Nat} (h : e = .none ∨ ∃ j, e = .int j ∧ 1 ≤ j ∧ j ≤ 3) : Gd 0 m e := by
  rcases h with rfl | ⟨j, rfl, h1, h2⟩
  · exact gd_non
  · exact gd_small (by omega) (by omega)
/-- what may come of a spoilt run -/
structure SpOk (e : PyData) : Prop where
  g : Gd 11000 5 e
  s : shortR e = true
def ds3 (cs : List Nat) (lo e od : PyData) : List PyData := [.tuple [.tuple (cs.map fun c => .str (oneS c)), lo], .tuple ([.tuple (cs.map fun c => .str (oneS c)), lo, e] ++ [.none]), .list [.tuple (cs.map fun c => .str (oneS c)), lo, e], .tuple [.tuple (cs.map fun c => .str (oneS c)), e, lo], od]
def ds4 (cs : List Nat) (lo e : PyData) : List PyData := [runData cs lo e, .tuple [.tuple (cs.map fun c => .str (oneS c)), .int 3, .int 3], .tuple [.tuple (cs.map fun c => .str (oneS c)), .int 0, .none], .tuple [.tuple (sgs'.map fun c => .str (oneS c)), .int 0, .int 1]]
theorem sh_signs {cs : List Nat} (l : cs.length ≤ 15) : shortT (.tuple (cs.map fun c => .str (oneS c))) = true := decide_eq_true (by rw [List.length_map]; omega)
theorem ds3_ok {cs : List Nat} {lo e od d : PyData} (h : ∀ c ∈ cs, c ∈ sgs') (l : cs.length ≤ 15) (hl : ∀ m, Gd 0 m lo) (he : ∀ m, Gd 0 m e) (ho : od ∈ odd1 ++ odd2) (hd : d ∈ ds3 cs lo e od) : SpOk d := by
  have gs := gd_signs h l
  have three : ∀ x ∈ [PyData.tuple (cs.map fun c => .str (oneS c)), lo, e] ++ [.none], Gd 30 1 x := fun x hx => by
    simp only [List.cons_append, List.nil_append, List.mem_cons, List.not_mem_nil, or_false] at hx
    rcases hx with rfl | rfl | rfl | rfl
    · exact gs
    · exact (hl 1).mono (Nat.zero_le _) (Nat.le_refl _)
    · exact (he 1).mono (Nat.zero_le _) (Nat.le_refl _)
    · exact gd_non
  unfold ds3 at hd
  rcases List.mem_cons.mp hd with rfl | hd
  · refine ⟨(gd_tup (n := 30) (m := 1) (k := 2) (fun d hd => three d ?_) (Nat.le_refl _)).mono (by omega) (by omega), sh_signs l⟩
    simp only [List.mem_cons, List.not_mem_nil, or_false] at hd
    rcases hd with rfl | rfl <;> simp
  rcases List.mem_cons.mp hd with rfl | hd
  · exact ⟨(gd_tup (n := 30) (m := 1) (k := 4) three (Nat.le_refl _)).mono (by omega) (by omega), sh_signs l⟩
  rcases List.mem_cons.mp hd with rfl | hd
  · exact ⟨(gd_lst (n := 30) (m := 1) (k := 3) (fun d hd => three d (List.mem_append_left _ hd)) (Nat.le_refl _)).mono (by omega) (by omega), rfl⟩
  rcases List.mem_cons.mp hd with rfl | hd
  · exact ⟨(gd3 gs (he 1) (hl 1)).mono (by omega) (by omega), sh_signs l⟩
  rcases List.mem_cons.mp hd with rfl | hd
  · exact ⟨(gd_odd ho).mono (by omega) (by omega), (short_odd ho).2⟩
  · cases hd
theorem ds4_ok {cs : List Nat} {lo e d : PyData} (h : ∀ c ∈ cs, c ∈ sgs') (l : cs.length ≤ 15) (hl : ∀ m, Gd 0 m lo) (he : ∀ m, Gd 0 m e) (hd : d ∈ ds4 cs lo e) : SpOk d := by
  have gs := gd_signs h l
  unfold ds4 at hd
  rcases List.mem_cons.mp hd with rfl | hd
  · exact ⟨(gd3 gs (hl 1) (he 1)).mono (by omega) (by omega), sh_signs l⟩
  rcases List.mem_cons.mp hd with rfl | hd
  · exact ⟨(gd3 gs (gd_small (i := 3) (m := 1) (by omega) (by omega)) (gd_small (i := 3) (by omega) (by omega))).mono (by omega) (by omega), sh_signs l⟩
  rcases List.mem_cons.mp hd with rfl | hd
  · exact ⟨(gd3 gs (gd_small (i := 0) (m := 1) (by omega) (by omega)) (gd_non (n := 0))).mono (by omega) (by omega), sh_signs l⟩
  rcases List.mem_cons.mp hd with rfl | hd
  · exact ⟨(gd3 (gd_signs (fun _ h => h) (by decide +kernel)) (gd_small (i := 0) (m := 1) (by omega) (by omega)) (gd_small (i := 1) (by omega) (by omega))).mono (by omega) (by omega), sh_signs (cs := sgs') (by decide +kernel)⟩
  · cases hd
theorem evb_all {K : PySem.W.Frag} {p : Addr} {B : Hp} {σ : L2.St} : EvB K p B σ (tCB (fun xs H Q => ∃ z, xs = [.str z] ∧ z.length ≤ sizeLine ∧ ∀ l, H l = none → Q (.ref l) (upd H l (.tup (signsV z)))) (tCons (tCall spAll [] E0 tNil) tNil)) (.tuple (sgs'.map fun c => .str (oneS c))) := fun H Q D b q => by
  refine ⟨rfl, allSigns, rfl, by decide +kernel, fun t nt => q _ _ (same_upd nt) (.tup (.of (by rw [hid_ne (D.ne nt), upd_same]; rfl)) (dv_ones sgs'))⟩
theorem scSpoilt : FnScope ["dice", "run", "signs", "low", "high", "way", "odd", "some"] ["dice", "run"] (defScope (top iSpoilt)) := ⟨rfl, rfl, rfl, by decide +kernel, rfl, by decide +kernel, by decide +kernel⟩
def spSpoilt (K : PySem.W.Frag) : Sp := fun vs H Q _ => ∃ (p : Addr) (a b c : Int) (v : V) (d : PyData), vs = [.ref p, v] ∧ H p = some (dk a b c) ∧ Dv K (hid p H) v d ∧ isRunD d = true ∧ ∀ H' x e, Keep p H H' → Dv K (hid p H') x e → SpOk e → Q x H'
section
variable {P : Program} {w : World} {K : PySem.W.Frag} {mg : Str → Option Value} {base : Heap} {f fR fD fO fA : Addr} {fd fdR fdD fdO fdA : FuncData}
theorem ok_spoilt {k : Nat} (F : FnP K "_law_spoilt" iSpoilt f fd) (mlist : mg "list" = none) (mtuple : mg "tuple" = none)
    (FR : FnOk P w K mg base CX0 (k + 4) fR fdR ["dice", "total"] spRoll) (gR : mg "_law_roll" = some (.ref fR)) (kR : PySem.W.keepIn K (.ref fR) = true) (bR : Binds K fdR ["dice", "total"] [])
    (FD : FnOk P w K mg base CX0 (k + 4) fD fdD ["dice"] (spOdd K)) (gD : mg "_law_odd" = some (.ref fD)) (kD : PySem.W.keepIn K (.ref fD) = true) (bD : Binds K fdD ["dice"] [])
    (FO : FnOk P w K mg base CX0 (k + 4) fO fdO ["dice", "items"] (spOne K)) (gO : mg "_law_one_of" = some (.ref fO)) (kO : PySem.W.keepIn K (.ref fO) = true) (bO : Binds K fdO ["dice", "items"] [])
    (FA : FnOk P w K mg base CX0 (k + 4) fA fdA [] spAll) (gA : mg "_law_all_signs" = some (.ref fA)) (kA : PySem.W.keepIn K (.ref fA) = true) (bA : Binds K fdA [] []) :
    FnOk P w K mg base CX0 (k + 5) f fd ["dice", "run"] (spSpoilt K) := by
  refine F.ok scSpoilt (fun vs H Q E h => ?_) (fun cdv A outer s H vs Q E hr h => ?_)
  · obtain ⟨p, a, b, c, v, d, rfl, _⟩ := h
    rfl
  · obtain ⟨p, a, b, c, v, d, rfl, hp, hd, rd, q⟩ := h
    refine ⟨_, PSs.nox (pss_cons (ps_asg (pv 1) (pg_tup rfl (pgs_cons (pg_name (i := 2) scSpoilt.nd rfl (.inl rfl)) (pgs_cons (pg_name (i := 3) scSpoilt.nd rfl (.inl rfl)) (pgs_cons (pg_name (i := 4) scSpoilt.nd rfl (.inl rfl)) pgs_nil)))))
      (pss_cons (ps_par (i := 5) (j := 6) (by rfl) scSpoilt.nd rfl rfl (by decide) rfl rfl (pa_cons (pe_call FR hr (by rfl) gR kR bR .nil pass0 (pa_cons (pv 0) (pa_cons pe_int pa_nil))) (pa_cons (pe_call FD hr (by rfl) gD kD bD .nil pass0 (pa_cons (pv 0) pa_nil)) pa_nil)) (by rfl))
      (pss_cons (ps_if (pt_cmpR op_eq (pv 5) pe_int (nomark _))
          (pss_cons (ps_set (i := 7) scSpoilt.nd rfl (.inl rfl) (pe_lst (pa_cons (pe_op op_catT (pv 2) (pe_tup (pa_cons pe_str pa_nil))) (pa_cons (pe_revT (pv 2)) (pa_cons (pe_tup pa_nil) (pa_cons (pe_callTy call_list_of (by rfl) mlist (by decide +kernel) (pa_cons (pv 2) pa_nil)) (pa_cons (pv 6)
              (pa_cons (pe_bm PySem.F.plainAttrs_str PySem.F.slot_str_join PySem.F.type_str_join mt_join pe_str (pa_cons (pv 2) pa_nil)) (pa_cons (pe_tup (pa_cons (pe_lst (pa_cons pe_str pa_nil)) pa_nil)) (pa_cons (pe_op op_catT (pv 2) (pe_tup (pa_cons (pe_lst pa_nil) pa_nil))) pa_nil))))))))))
            (pss_one (ps_ret (pe_tup (pa_cons (pe_call FO hr (by rfl) gO kO bO .nil pass0 (pa_cons (pv 0) (pa_cons (pv 7) pa_nil))) (pa_cons (pv 3) (pa_cons (pv 4) pa_nil))))))) pss_nil)
      (pss_cons (ps_if (pt_cmpR op_eq (pv 5) pe_int (nomark _))
          (pss_one (ps_ret (pe_tup (pa_cons (pv 2) (pa_cons (pe_call FO hr (by rfl) gO kO bO .nil pass0 (pa_cons (pv 0) (pa_cons (pe_lst (pa_cons pe_int (pa_cons pe_int (pa_cons pe_int (pa_cons pe_int (pa_cons (pe_un un_neg pe_int) (pa_cons pe_bl (pa_cons pe_non (pa_cons (pv 6) (pa_cons pe_str pa_nil)))))))))) pa_nil))) (pa_cons (pv 4) pa_nil)))))) pss_nil)
      (pss_cons (ps_if (pt_cmpR op_eq (pv 5) pe_int (nomark _))
          (pss_one (ps_ret (pe_tup (pa_cons (pv 2) (pa_cons (pv 3) (pa_cons (pe_call FO hr (by rfl) gO kO bO .nil pass0 (pa_cons (pv 0) (pa_cons (pe_lst (pa_cons pe_int (pa_cons pe_int (pa_cons pe_int (pa_cons pe_int (pa_cons pe_int (pa_cons (pe_op op_sub (pv 3) pe_int) (pa_cons pe_bl (pa_cons (pv 6) (pa_cons (pe_op op_powBits pe_int pe_int) pa_nil)))))))))) pa_nil))) pa_nil)))))) pss_nil)
      (pss_cons (ps_if (pt_cmpR op_eq (pv 5) pe_int (nomark _))
          (pss_one (ps_ret (pe_call FO hr (by rfl) gO kO bO .nil pass0 (pa_cons (pv 0) (pa_cons (pe_lst (pa_cons (pe_slice sl_tupA (pv 1) po_none (po_some pe_int)) (pa_cons (pe_op op_catT (pv 1) (pe_tup (pa_cons pe_non pa_nil))) (pa_cons (pe_callTy call_list_of (by rfl) mlist (by decide +kernel) (pa_cons (pv 1) pa_nil)) (pa_cons (pe_tup (pa_cons (pv 2) (pa_cons (pv 4) (pa_cons (pv 3) pa_nil)))) (pa_cons (pv 6) pa_nil)))))) pa_nil))))) pss_nil)
      (pss_one (ps_ret (pe_call FO hr (by rfl) gO kO bO .nil pass0 (pa_cons (pv 0) (pa_cons (pe_lst (pa_cons (pv 1) (pa_cons (pe_tup (pa_cons (pv 2) (pa_cons pe_int (pa_cons pe_int pa_nil)))) (pa_cons (pe_tup (pa_cons (pv 2) (pa_cons pe_int (pa_cons pe_non pa_nil))))
          (pa_cons (pe_tup (pa_cons (pe_callTy (call_tuple_txt rfl) (by rfl) mtuple (by decide +kernel) (pa_cons (pe_call0 FA hr (by rfl) gA kA bA .nil pass0) pa_nil)) (pa_cons pe_int (pa_cons pe_int pa_nil)))) pa_nil))))) pa_nil))))))))))), ?_⟩
    obtain ⟨cs, i, e, rfl, cne, asc, mem, cl, i0, i3, he⟩ := run_small rd
    have hd0 := hd
    cases hd with
    | tup hT hA =>
    cases hA with
    | cons w1 hA =>
    cases hA with
    | cons w2 hA =>
    cases hA with
    | cons w3 hA =>
    cases hA
    rename_i r v1 v2 v3
    refine ⟨_, rfl, r, _, rfl, sq_hid hT, rfl, v1, _, rfl, v2, _, rfl, v3, _, rfl, rfl, ?_⟩
    refine ⟨_, rfl, p, a, b, c, 6, rfl, hp, wide_div (b := 4) (by omega) (by omega) (by decide) (by decide), fun a' b' c' way y0 y6 => ⟨_, rfl, p, a', b', c', rfl, upd_same, fun H1 od d1 k1 vo mo => ⟨_, _, rfl, ?_⟩⟩⟩
    have kk : Keep p H H1 := (Keep.dice a' b' c').trans k1
    have D1 : Dice p H1 := kk.2
    have sB := hid_same kk.1
    have W0 : Dv K (hid p H1) (.ref r) (runData cs (.int i) e) := hd0.same' sB
    have W1 : Dv K (hid p H1) v1 (.tuple (cs.map fun c => .str (oneS c))) := w1.same' sB
    have W2 : Dv K (hid p H1) v2 (.int i) := w2.same' sB
    have W3 : Dv K (hid p H1) v3 e := w3.same' sB
    have gl : ∀ m, Gd 0 m (.int i) := fun m => gd_small (by omega) (by omega)
    have ge : ∀ m, Gd 0 m e := fun m => gd_hi he
    have fin : ∀ H' x e, Keep p H1 H' → Dv K (hid p H') x e → SpOk e → Q x H' := fun H' x e k3 vd ok => q H' x e (kk.trans k3) vd ok
    have mk3 : ∀ (H' : Hp) (x1 x2 x3 : V) (d1 d2 d3 : PyData), Keep p H1 H' → Dv K (hid p H') x1 d1 → Dv K (hid p H') x2 d2 → Dv K (hid p H') x3 d3 → SpOk (.tuple [d1, d2, d3]) → 3 ≤ sizeLine ∧ ∀ t, H' t = none → Q (.ref t) (upd H' t (.tup [x1, x2, x3])) := fun H' x1 x2 x3 d1 d2 d3 k3 u1 u2 u3 ok => by
      refine ⟨by decide, fun t nt => fin _ _ (.tuple [d1, d2, d3]) (k3.new2 nt) (.tup (.of ?_) (.cons (u1.same' (same_hid (same_upd nt))) (.cons (u2.same' (same_hid (same_upd nt))) (.cons (u3.same' (same_hid (same_upd nt))) .nil)))) ok⟩
      have D' : Dice p H' := k3.2
      rw [hid_ne (D'.ne nt), upd_same]
    have nil' : EvBN K p (hid p H1) [some (.ref p), some (.ref r), some v1, some v2, some v3, some (.int way), some od, none] tNil [] := evb_nil
    refine ⟨_, rfl, rfl, _, rfl, ite2 (fun e0 => ?_) (fun e0 => ?_)⟩
    · refine sq_asg (rd_lstB (ds := ds0 cs d1) (B := hid p H1) (p := p) (K := K) (evb_cons (evb_cat (evb_var rfl W1) (evb_tup (evb_cons (evb1 ev_str) evb_nil) (by decide)) (fun z => cne (List.map_eq_nil_iff.mp z)) (by simp) (by rw [List.length_map]; show _ + 1 ≤ 1000; omega))
        (evb_cons (evb_rev (evb_var rfl W1)) (evb_cons (evb_tup evb_nil (by decide)) (evb_cons (evb_list (evb_cons (evb_var rfl W1) evb_nil)) (evb_cons (evb_var rfl vo) (evb_cons (evb_join (evb_cons (evb_var rfl W1) evb_nil) cl)
        (evb_cons (evb_tup (evb_cons (evb_lst (evb_cons (evb1 ev_str) evb_nil) (by decide)) evb_nil) (by decide)) (evb_cons (evb_cat (evb_var rfl W1) (evb_tup (evb_cons (evb_lst evb_nil (by decide)) evb_nil) (by decide)) (fun z => cne (List.map_eq_nil_iff.mp z)) (by simp) (by rw [List.length_map]; show _ + 1 ≤ 1000; omega)) evb_nil))))))))
        D1 (Same.refl _) (by show 8 ≤ 1000; decide) fun xs H2 l s2 v2' n2 => ?_)
      have D2 := D1.same s2
      have lp : l ≠ p := D2.ne n2
      have k2 : Keep p H1 (upd H2 l (.lst xs)) := ⟨fun y o _ z => same_upd n2 _ _ (s2 _ _ z), by
        obtain ⟨a5, b5, c5, z⟩ := D2
        exact ⟨a5, b5, c5, by rw [upd_ne lp.symm]; exact z⟩⟩
      have V2 := DvAll.same (same_hid (same_upd n2 (o := .lst xs))) (ds0 cs d1) _ v2'
      have xl : xs.length = 8 := v2'.length
      obtain ⟨a5, b5, c5, hp5⟩ := k2.2
      refine ⟨_, rfl, _, rfl, p, a5, b5, c5, _, xs, rfl, hp5, .inl ⟨l, rfl, .inl (.of upd_same)⟩, (fun z => by rw [z] at xl; cases xl), (by rw [xl]; decide), fun a' b' c' => .inl ⟨l, rfl, .inl (.of (by rw [upd_ne lp, upd_same]))⟩, fun a' b' c' ix x hx => ?_⟩
      obtain ⟨d, hdx, vdx⟩ := V2.get hx
      have hd3 := List.mem_of_getElem? hdx
      have k3 : Keep p (upd H2 l (.lst xs)) (upd (upd H2 l (.lst xs)) p (dk a' b' c')) := .dice a' b' c'
      have vd := vdx.same' k3.hid
      obtain ⟨g, sh⟩ := ds0_ok mem cl mo hd3
      have k13 := k2.trans k3
      exact ⟨_, rfl, _, rfl, mk3 _ x v2 v3 d (.int i) e k13 vd (W2.same' k13.hid) (W3.same' k13.hid) ⟨(gd3 g (gl 3) (ge 3)).mono (by omega) (by omega), sh⟩⟩
    refine ⟨_, rfl, rfl, _, rfl, ite2 (fun e1 => ?_) (fun e1 => ?_)⟩
    · refine ⟨_, rfl, one_lst (ds := ds1 d1) (B := hid p H1) (evb_cons (evb1 ev_int) (evb_cons (evb1 ev_int) (evb_cons (evb1 ev_int) (evb_cons (evb1 ev_int) (evb_cons (evb1 ev_neg) (evb_cons (evb1 ev_bl) (evb_cons (evb1 ev_non) (evb_cons (evb_var rfl vo) (evb_cons (evb1 ev_str) evb_nil))))))))) rfl (fun z => by cases z) (by show 9 ≤ 1000; decide) D1 (Same.refl _) fun x H3 d hd3 k3 vd => ?_⟩
      exact ⟨_, rfl, mk3 H3 v1 x v3 _ d e k3 (W1.same' k3.hid) vd (W3.same' k3.hid) ⟨(gd3 ((gd_signs mem cl).mono (Nat.le_refl _) (by omega)) (ds1_ok mo hd3) (ge 3)).mono (by omega) (by omega), sh_signs cl⟩⟩
    refine ⟨_, rfl, rfl, _, rfl, ite2 (fun e2 => ?_) (fun e2 => ?_)⟩
    · refine ⟨_, rfl, _, rfl, one_lst (ds := ds2 i d1) (B := hid p H1) (evb_cons (evb1 ev_int) (evb_cons (evb1 ev_int) (evb_cons (evb1 ev_int) (evb_cons (evb1 ev_int) (evb_cons (evb1 ev_int) (evb_cons (evb_sub (evb_var rfl W2)) (evb_cons (evb1 ev_bl) (evb_cons (evb_var rfl vo) (evb_cons (evb1 (ev_pow ⟨by decide, by decide +kernel⟩)) evb_nil))))))))) rfl (fun z => by cases z) (by show 9 ≤ 1000; decide) D1 (Same.refl _) fun x H3 d hd3 k3 vd => ?_⟩
      exact mk3 H3 v1 v2 x _ (.int i) d k3 (W1.same' k3.hid) (W2.same' k3.hid) vd ⟨(gd3 ((gd_signs mem cl).mono (Nat.le_refl _) (by omega)) (gl 3) (ds2_ok i0 i3 mo hd3)).mono (by omega) (by omega), sh_signs cl⟩
    refine ⟨_, rfl, rfl, _, rfl, ite2 (fun e3 => ?_) (fun e3 => ?_)⟩
    · exact one_lst (ds := ds3 cs (.int i) e d1) (B := hid p H1) (evb_cons (evb_two (evb_var rfl W0)) (evb_cons (evb_cat (evb_var rfl W0) (evb_tup (evb_cons (evb1 ev_non) evb_nil) (by decide)) (by simp) (by simp) (by show 4 ≤ 1000; decide)) (evb_cons (evb_list (evb_cons (evb_var rfl W0) evb_nil)) (evb_cons (evb_tup (evb_cons (evb_var rfl W1) (evb_cons (evb_var rfl W3) (evb_cons (evb_var rfl W2) evb_nil))) (by show 3 ≤ 1000; decide)) (evb_cons (evb_var rfl vo) evb_nil)))))
        rfl (fun z => by cases z) (by show 5 ≤ 1000; decide) D1 (Same.refl _) fun x H3 d hd3 k3 vd => fin H3 x d k3 vd (ds3_ok mem cl gl ge mo hd3)
    · exact one_lst (ds := ds4 cs (.int i) e) (B := hid p H1) (evb_cons (evb_var rfl W0) (evb_cons (evb_tup (evb_cons (evb_var rfl W1) (evb_cons (evb1 ev_int) (evb_cons (evb1 ev_int) evb_nil))) (by show 3 ≤ 1000; decide)) (evb_cons (evb_tup (evb_cons (evb_var rfl W1) (evb_cons (evb1 ev_int) (evb_cons (evb1 ev_non) evb_nil))) (by show 3 ≤ 1000; decide)) (evb_cons (evb_tup (evb_cons evb_all (evb_cons (evb1 ev_int) (evb_cons (evb1 ev_int) evb_nil))) (by show 3 ≤ 1000; decide)) evb_nil))))
        rfl (fun z => by cases z) (by show 4 ≤ 1000; decide) D1 (Same.refl _) fun x H3 d hd3 k3 vd => fin H3 x d k3 vd (ds4_ok mem cl gl ge hd3)
end
end K0
end
/-! ### MX -/
section
set_option Elab.async false
set_option linter.all false
set_option maxRecDepth 100000
set_option maxHeartbeats 4000000
/-! What _law_told tells, held against "no hole"; runs and repr of a hole. -/
namespace K0
open PySem PySem.Spec PyProof.Rows L2 Rd DN StX OE
inductive TV (K : PySem.W.Frag) (CH : Addr) (H : Hp) : V → Option (List PyData) → Prop
  | hole {x : Addr} {ds : List PyData} (h : HoleAt K CH H x ds) : TV K CH H (.ref x) (some ds)
  | no : TV K CH H (.str "no hole") none
theorem TV.same {K : PySem.W.Frag} {CH : Addr} {H H' : Hp} {v : V} {o : Option (List PyData)} (h : TV K CH H v o) (s : Same H H') : TV K CH H' v o := by
  cases h with
  | hole h => exact .hole (h.same s)
  | no => exact .no
/-- what the written part says for == and != -/
structure HoleE (K : PySem.W.Frag) (CH gE : Addr) : Prop where
  o : OEq K CH gE
  no : ∀ n : String, PySem.W.notFirst K CH (.type n) = true
theorem HoleE.self {K : PySem.W.Frag} {CH : Addr} : PySem.W.notFirst K CH (.ref CH) = true := by
  unfold PySem.W.notFirst
  rw [beq_self_eq_true, Bool.true_or]
abbrev spHEq2 (K : PySem.W.Frag) (CH : Addr) : Sp := fun vs H Q E => spHEq K CH (vs ++ []) H Q E
section
variable {X : Cx} {n : Nat} {CH gE : Addr} {CX : CXT}
/-- a hole held against a hole or data -/
def rHole (K : PySem.W.Frag) (CH : Addr) (neg : Bool) : R2 := fun x y H Q => ∃ (a : Addr) (ds : List PyData) (o : Option (List PyData)), x = .ref a ∧ HoleAt K CH H a ds ∧ OtherV K CH H y o ∧ Q (.bl (if neg then !eqH ds o else eqH ds o)) H
theorem hole_asks {K : PySem.W.Frag} (T : HoleM K CH) (N : ∀ d : PyData, PySem.W.notFirst K CH (.type (dty d)) = true) {neg : Bool} {x y : V} {H : Hp} {Q : VK} (h : rHole K CH neg x y H Q) : rOE K CH (spHEq2 K CH) E0 neg x y H Q := by
  obtain ⟨a, ds, o, rfl, hx, hy, q⟩ := h
  have hx0 := hx
  obtain ⟨dx, p, t, xs, h1, _⟩ := hx0
  cases hy with
  | data hd =>
    rename_i d
    exact ⟨a, dx, _, _, rfl, h1, hd.ty, N d, a, y, ds, none, rfl, hx, .data hd, _, rfl, q⟩
  | hole hy =>
    rename_i x2 es
    exact ⟨a, dx, _, _, rfl, h1, hy.ty T, HoleE.self, a, _, ds, some es, rfl, hx, .hole hy, _, rfl, q⟩
theorem op_holeEq (T : HoleM X.K CH) (O : OEq X.K CH gE) (N : ∀ d : PyData, PySem.W.notFirst X.K CH (.type (dty d)) = true) (F : FnR X.prog X.w X.K X.mg X.base CX0 n gE (spHEq2 X.K CH)) (hr : Room n X.A) : OpR X (compareOp .Eq) (rHole X.K CH false) :=
  fun pins s σ H x y v u Q I rx ry h => op_oeq O F hr pass0 pins s σ H x y v u Q I rx ry (hole_asks T N h)
theorem op_holeNe (T : HoleM X.K CH) (O : OEq X.K CH gE) (N : ∀ d : PyData, PySem.W.notFirst X.K CH (.type (dty d)) = true) (F : FnR X.prog X.w X.K X.mg X.base CX0 n gE (spHEq2 X.K CH)) (hr : Room (n + 1) X.A) : OpR X (compareOp .NotEq) (rHole X.K CH true) :=
  fun pins s σ H x y v u Q I rx ry h => op_one O F hr pass0 pins s σ H x y v u Q I rx ry (hole_asks T N h)
/-- what was told, held against "no hole" -/
def rIsNo (K : PySem.W.Frag) (CH : Addr) (neg : Bool) : R2 := fun x y H Q => ∃ o, TV K CH H x o ∧ y = .str "no hole" ∧ Q (.bl (if neg then o.isSome else o.isNone)) H
theorem op_isNo (T : HoleM X.K CH) (O : OEq X.K CH gE) (N : ∀ d : PyData, PySem.W.notFirst X.K CH (.type (dty d)) = true) (F : FnR X.prog X.w X.K X.mg X.base CX0 n gE (spHEq2 X.K CH)) (hr : Room n X.A) : OpR X (compareOp .Eq) (rIsNo X.K CH false) := by
  intro pins s σ H x y v u Q I rx ry h
  obtain ⟨o, tv, rfl, q⟩ := h
  cases tv with
  | hole hx => exact op_holeEq T O N F hr pins s σ H _ _ v u Q I rx ry ⟨_, _, none, rfl, hx, .data (d := .str "no hole") (.str _), q⟩
  | no => exact op_eq pins s σ H _ _ v u Q I rx ry ⟨rfl, by rw [decide_eq_true rfl]; exact q⟩
theorem op_isNoNe (T : HoleM X.K CH) (O : OEq X.K CH gE) (N : ∀ d : PyData, PySem.W.notFirst X.K CH (.type (dty d)) = true) (F : FnR X.prog X.w X.K X.mg X.base CX0 n gE (spHEq2 X.K CH)) (hr : Room (n + 1) X.A) : OpR X (compareOp .NotEq) (rIsNo X.K CH true) := by
  intro pins s σ H x y v u Q I rx ry h
  obtain ⟨o, tv, rfl, q⟩ := h
  cases tv with
  | hole hx => exact op_holeNe T O N F hr pins s σ H _ _ v u Q I rx ry ⟨_, _, none, rfl, hx, .data (d := .str "no hole") (.str _), q⟩
  | no => exact op_ne pins s σ H _ _ v u Q I rx ry ⟨rfl, by rw [decide_eq_true rfl]; exact q⟩
end
end K0
end
/-! ### MX2 -/
section
set_option Elab.async false
set_option linter.all false
set_option maxRecDepth 100000
set_option maxHeartbeats 4000000
/-! A list of what is told, held against an equal one. -/
namespace K0
open PySem PySem.Spec PyProof.Rows L2 Rd DN StX OE
theorem eqv_strs1 : ∀ {es : List PyData}, es.all isSignD = true → PyData.eqvAll es es = true
  | [], _ => rfl
  | d :: es, h => by
    rw [List.all_cons, Bool.and_eq_true] at h
    obtain ⟨z, rfl⟩ := sign_str h.1
    show (PyData.eqv (.str z) (.str z) && PyData.eqvAll es es) = true
    rw [eqv_strs1 h.2]
    show ((z == z) && true) = true
    simp
theorem eqv_run {d : PyData} (h : isRunD d = true) : PyData.eqv d d = true := by
  obtain ⟨es, l, e, rfl, h1, ⟨i, rfl⟩, h3⟩ := run_parts h
  have z := eqv_strs1 h1
  show (PyData.eqvAll es es && ((i == i) && (PyData.eqv e e && true))) = true
  rw [z]
  rcases h3 with rfl | ⟨j, rfl⟩
  · show (true && ((i == i) && (true && true))) = true
    simp
  · show (true && ((i == i) && ((j == j) && true))) = true
    simp
theorem eqv_runs : ∀ {ds : List PyData}, ds.all isRunD = true → PyData.eqvAll ds ds = true
  | [], _ => rfl
  | d :: ds, h => by
    rw [List.all_cons, Bool.and_eq_true] at h
    show (PyData.eqv d d && PyData.eqvAll ds ds) = true
    rw [eqv_run h.1, eqv_runs h.2]
    rfl
theorem eqH_self {ds : List PyData} (h : holeD ds = true) : eqH ds (some ds) = true := eqv_runs (hole_runs h)
def RHole (K : PySem.W.Frag) (CH : Addr) : Addr → Addr → Hp → Prop := fun a b H => ∃ ds, HoleAt K CH H a ds ∧ HoleAt K CH H b ds
section
variable {X : Cx} {n : Nat} {CH gE : Addr} {fd : FuncData}
/-- two values that are told alike -/
def DTold (K : PySem.W.Frag) (CH : Addr) : Eqv := fun x y H => DFlat x y H ∨ DIns CH (RHole K CH) x y H
theorem told_same {K : PySem.W.Frag} {H : Hp} {v u : V} {o : Option (List PyData)} (h : TV K CH H v o) (g : TV K CH H u o) : DTold K CH v u H := by
  cases h with
  | hole h =>
    cases g with
    | hole g =>
      have h0 := h
      have g0 := g
      obtain ⟨dx, p, t, xs, h1, _⟩ := h0
      obtain ⟨dy, p2, t2, ys, g1, _⟩ := g0
      exact .inr ⟨_, _, _, _, _, _, rfl, rfl, h1, g1, _, h, g⟩
  | no =>
    cases g
    exact .inl ⟨rfl, rfl, by decide +kernel⟩
theorem op_toldList (O : OEq X.K CH gE) (F : FnOk X.prog X.w X.K X.mg X.base CX0 n gE fd ["self", "other"] (spHEq X.K CH)) (hb : Binds X.K fd ["self", "other"] []) (hr : Room (n + 1) X.A) : OpR X (compareOp .Eq) (rEqG (DList (DTold X.K CH))) := by
  have F2 : FnOk X.prog X.w X.K X.mg X.base CX0 n gE fd ["self", "other"] (spEq (RHole X.K CH)) := F.imp fun vs H Q E h => by
    obtain ⟨a, b, rfl, ⟨ds, h1, h2⟩, q⟩ := h
    have h0 := h1
    obtain ⟨dx, p, t, xs, _, _, _, _, hok⟩ := h0
    refine ⟨a, _, ds, some ds, rfl, h1, .hole h2, ?_⟩
    rw [eqH_self hok]
    exact q H (Ext.rfl')
  exact op_eqG (rcG_list (mon_flat.or (mon_ins fun a b H H' e ⟨ds, h, g⟩ => ⟨ds, h.same e, g.same e⟩)) ((eqG_flat.mono (Nat.zero_le _)).or (eqG_ins F2 O.eq O.fn hb pass0))) hr
end
end K0
end
/-! ### HO2 -/
section
set_option Elab.async false
set_option linter.all false
set_option maxRecDepth 100000
set_option maxHeartbeats 4000000
/-! Hole.of, _law_told of a hole; holes while the dice change. -/
namespace K0
open PySem PySem.Spec PyProof.Rows L2 Rd DN StX OE
theorem fnOk_or {P : Program} {w : World} {K : PySem.W.Frag} {mg : Str → Option Value} {base : Heap} {CX : CXT} {k : Nat} {f : Addr} {fd : FuncData} {ps : List Str} {sp sp' : Sp} (F : FnOk P w K mg base CX k f fd ps sp) (G : FnOk P w K mg base CX k f fd ps sp') :
    FnOk P w K mg base CX k f fd ps (fun vs H Q E => sp vs H Q E ∨ sp' vs H Q E) :=
  ⟨fun vs H Q E q => q.elim (F.len vs H Q E) (G.len vs H Q E), fun A outer s H args us vs Q E hr he hb hv hs => hs.elim (F.run A outer s H args us vs Q E hr he hb hv) (G.run A outer s H args us vs Q E hr he hb hv)⟩
def spOfH (K : PySem.W.Frag) (CH CE : Addr) : Sp := fun vs H Q E => ∃ (x : Addr) (ds : List PyData), vs = [.ref CH, .ref x] ∧ HoleAt K CH H x ds ∧ ∀ H', Same H H' → E (.ref CE) none H'
abbrev spOfH2 (K : PySem.W.Frag) (CH CE : Addr) : Sp := fun vs H Q E => spOfH K CH CE (vs ++ []) H Q E
def spToldH (K : PySem.W.Frag) (CH : Addr) : Sp := fun vs H Q _ => ∃ (x : Addr) (ds : List PyData), vs = [.ref x] ∧ HoleAt K CH H x ds ∧ ∀ H', Same H H' → Q (.str "no hole") H'
section
variable {P : Program} {w : World} {K : PySem.W.Frag} {mg : Str → Option Value} {base : Heap} {f fN CH CE pO gO : Addr} {mc : Value} {fd fdO : FuncData}
theorem ok_hofH {k : Nat} (F : HrP K "of" "Hole.of" 1 f fd) (T : HoleK K CH CE) (HM : HoleM K CH) (nt : PySem.W.kitOne K (.ref CH) (.type "tuple") = some false) (M : Mk K CH fN) (misi : mg "isinstance" = none) (mtup : mg "tuple" = none) (gE : mg "InvalidHole" = some (.ref CE))
    (FN : FnR P w K mg base (L2.CX P w) (k + 4) fN (spInit2 K CH CE)) :
    FnOk P w K mg base (L2.CX P w) (k + 6) f fd ["cls", "runs"] (spOfH K CH CE) := by
  refine F.ok scHOf (fun vs H Q E h => ?_) (fun cdv A outer s H vs Q E hr h => ?_)
  · obtain ⟨x, ds, rfl, _⟩ := h
    rfl
  · obtain ⟨x, ds, rfl, hx, bad⟩ := h
    refine ⟨_, pss_cons (ps_if (pt_not (pt_val (pe_callB call_isi (by rfl) misi boot_isinstance (pa_cons (pv 1) (pa_cons (pe_bltn (v := .ty "tuple") (by rfl) mtup (by decide +kernel) rfl) pa_nil)))))
        (pss_one (ps_raise rfl (takes_of rfl rfl rfl rfl) (pmk_ownA PySem.F.excBase_ValueError T.exc gE T.kp (raises_own T.sub T.ty) (by rfl) (pa_cons pe_str pa_nil)))) pss_nil)
      (pss_one (ps_ret (pe_makeLS (E := E) (pv 0) M FN hr (passes_call (takes_of rfl rfl rfl rfl) (fun _ _ _ _ z => z)) (pv 1)))), ?_⟩
    have sl : sizeLine = 16777216 := sizeLine_eq
    refine ⟨_, rfl, _, .ty "tuple", _, _, false, rfl, .ty _, hx.ty HM, nt, _, rfl, ite2 (fun e => ?_) (fun e => absurd rfl e)⟩
    exact ⟨by show 1 ≤ sizeLine; omega, bad H (Same.refl H)⟩
theorem ok_toldH {k : Nat} (F : FnP K "_law_told" iTold f fd) (gH : mg "Hole" = some (.ref CH)) (gE : mg "InvalidHole" = some (.ref CE)) (hm : PySem.W.exmOne K (.ref CE) (.ref CE) = some true)
    (rd : ClX.CRead K CH mc) (cm : ClX.CMet K CH mc "of" pO gO) (FO : FnOk P w K mg base (L2.CX P w) (k + 6) gO fdO ["cls", "runs"] (spOfH K CH CE)) (bO : Binds K fdO ["cls", "runs"] []) :
    FnOk P w K mg base CX0 (k + 7) f fd ["runs"] (spToldH K CH) := by
  refine F.ok scTold (fun vs H Q E h => ?_) (fun cdv A outer s H vs Q E hr h => ?_)
  · obtain ⟨x, ds, rfl, _⟩ := h
    rfl
  · obtain ⟨x, ds, rfl, hx, bad⟩ := h
    refine ⟨_, PSs.nox (pss_one (ps_tryA (Wout := fun _ _ _ _ => False) (tb := fun W => tRet (ClX.tCMeth CH (spOfH2 K CH CE) (WAll W) (tC (.ref CH)) (tCons (tVar 0) tNil))) (l := [⟨[.ref CE], none, tsStr "no hole"⟩]) rfl rfl scTold.nd takes0
        (fun W pn xe tk _ => pss_one (ps_ret (ClX.pe_cmeth (pe_glob (v := .ref CH) (by rfl) gH rfl) rd cm (FO.raw bO .nil) hr (passes_call tk fun cls d σ H z => z σ) (pa_cons (pv 0) pa_nil))))
        (.cons (.one ⟨by rfl, by decide, .inl gE⟩) (.inl ⟨rfl, rfl⟩) (fun a oe cls d pn hz hf => pss_one (ps_ret pe_str)) .nil))), ?_⟩
    refine ⟨rfl, _, rfl, x, ds, rfl, hx, fun H' s' σ => ⟨true, ?_, fun _ a na => bad H' s', fun e => by cases e⟩⟩
    show (match PySem.W.exmOne K (.ref CE) (.ref CE), (some false : Option Bool) with | some b, some d => some (b || d) | _, _ => none) = some true
    rw [hm]
    rfl
end
/-! ### while the dice change -/
theorem sq_hidden {K : PySem.W.Frag} {H : Hp} {p a : Addr} {zs xs : List V} (e : H p = some (.lst zs)) (h : SqT K H a xs) : SqT K (hid p H) a xs := by
  rcases h with (h | ⟨ob, h⟩) | h
  · exact .inl (.inl (by rw [hid_ne (ne_of h e (fun z => nomatch z))]; exact h))
  · exact .inl (.inr ⟨ob, by rw [hid_ne (ne_of h e (fun z => nomatch z))]; exact h⟩)
  · exact .inr h
theorem HoleAt.hidden {K : PySem.W.Frag} {CH x p : Addr} {H : Hp} {ds : List PyData} {zs : List V} (e : H p = some (.lst zs)) (h : HoleAt K CH H x ds) : HoleAt K CH (hid p H) x ds := by
  obtain ⟨dx, q, t, xs, h1, h2, h3, h4, h5⟩ := h
  refine ⟨dx, q, t, xs, by rw [hid_ne (ne_of h1 e (fun z => nomatch z))]; exact h1, sq_hidden e h2, dv_runs (fun a xs z => sq_hidden e z) h3 (hole_runs h5), h4.keep fun y o u ho => ?_, h5⟩
  rw [hid_ne (fun q => by
    rw [q, e] at u
    rcases ho with ⟨_, rfl⟩ | ⟨_, rfl⟩
    · cases u
    · cases u)]
  exact u
theorem HoleAt.shown {K : PySem.W.Frag} {CH x p : Addr} {H : Hp} {ds : List PyData} (h : HoleAt K CH (hid p H) x ds) : HoleAt K CH H x ds := h.same hid_out
theorem FrT.hidden {K : PySem.W.Frag} {H : Hp} {p t : Addr} {xs zs : List V} (e : H p = some (.lst zs)) (h : FrT H t xs) : SqT K (hid p H) t xs := sq_hidden e h.sq
end K0
end
/-! ### RT0 -/
section
set_option Elab.async false
set_option linter.all false
set_option maxRecDepth 100000
set_option maxHeartbeats 4000000
/-! What _law_right leans on: data of holes that can be shown, cuts and sums of tuples beside the dice, a display with a hole at its end. -/
namespace K0
open PySem PySem.Spec PyProof.Rows L2 Rd DN StX OE TR
theorem gd_run {d : PyData} (h : isRunD d = true) : Gd 60 2 d := by
  obtain ⟨cs, i, e, rfl, cne, asc, mem, cl, i0, i3, he⟩ := run_small h
  exact (gd3 (gd_signs mem cl) (gd_small (i := i) (m := 1) (by omega) (by omega)) (gd_hi he)).mono (by omega) (by omega)
theorem gd_hole {ds : List PyData} (h : holeD ds = true) : Gd 300 3 (.tuple ds) :=
  (gd_tup (n := 60) (m := 2) (k := 4) (fun d hd => gd_run (List.all_eq_true.mp (hole_runs h) d hd)) (hole_len h).2).mono (by omega) (by omega)
theorem Gd.fit {n m : Nat} {d : PyData} (h : Gd n m d) (h1 : n ≤ 100000) (h2 : m ≤ 8) : Fit d := ⟨h.sh, h.lv, Nat.le_trans h.bk h1, Nat.le_trans h.dp h2⟩
theorem hole_all {ds : List PyData} (h1 : 1 ≤ ds.length) (h4 : ds.length ≤ 4) : holeD ds = ds.all isRunD := by
  unfold holeD
  rw [decide_eq_true h1, decide_eq_true h4]
  rfl
theorem keep_same {p : Addr} {H H' : Hp} (D : Dice p H) (s : Same H H') : Keep p H H' := by
  obtain ⟨a, b, c, e⟩ := D
  exact ⟨fun y o _ z => s _ _ z, a, b, c, s _ _ e⟩
theorem HoleAt.keep {K : PySem.W.Frag} {CH x p : Addr} {H H' : Hp} {ds : List PyData} (h : HoleAt K CH (hid p H) x ds) (k : Keep p H H') : HoleAt K CH (hid p H') x ds := h.same k.hid
theorem keep_new {p l : Addr} {H : Hp} {o : HO} (D : Dice p H) (n : H l = none) : Keep p H (upd H l o) := keep_same D (same_upd n)
theorem sq_new {K : PySem.W.Frag} {p l : Addr} {H : Hp} {xs : List V} (D : Dice p H) (n : H l = none) : SqT K (hid p (upd H l (.tup xs))) l xs := .of (by rw [hid_ne (D.ne n), upd_same])
section
variable {K : PySem.W.Frag} {p : Addr} {H : Hp}
theorem cut_any {a : Addr} {xs : List V} {lo hi : Option Int} {Q : VK} (D : Dice p H) (h : SqT K (hid p H) a xs) (k : ∀ r H', Keep p H H' → SqT K (hid p H') r (cutV xs lo hi) → Q (.ref r) H') : rSlA K (.ref a) lo hi H Q := by
  refine ⟨a, xs, rfl, sq_hid h, fun z => ?_, fun _ r nr => k _ _ (keep_new D nr) (sq_new D nr)⟩
  have e : cutV xs lo hi = xs := by
    unfold cutV
    rw [z.1, z.2, List.drop_zero, Nat.sub_zero, List.take_length]
  exact k a H (keep_same D (Same.refl H)) (by rw [e]; exact h)
theorem cat_any {a b : Addr} {xs ys : List V} {Q : VK} (D : Dice p H) (h : SqT K (hid p H) a xs) (g : SqT K (hid p H) b ys) (sz : xs.length + ys.length ≤ 1000) (k : ∀ r H', Keep p H H' → SqT K (hid p H') r (xs ++ ys) → Q (.ref r) H') : rCatA K (.ref a) (.ref b) H Q := by
  refine ⟨a, b, xs, ys, rfl, rfl, sq_hid h, sq_hid g, Nat.le_of_lt (small1000 sz), fun z => ?_, fun _ z => ?_, fun _ _ r nr => k _ _ (keep_new D nr) (sq_new D nr)⟩
  · refine k b H (keep_same D (Same.refl H)) ?_
    rw [z, List.nil_append]
    exact g
  · refine k a H (keep_same D (Same.refl H)) ?_
    rw [z, List.append_nil]
    exact h
theorem cut_take {xs : List V} {n : Nat} (h : n ≤ xs.length) : cutV xs none (some (n : Int)) = xs.take n := by
  unfold cutV
  rw [HT.sIx_none, HT.sIx_nat, List.drop_zero, Nat.sub_zero, Nat.min_eq_left h]
theorem cut_drop {xs : List V} {n : Nat} (h : n ≤ xs.length) : cutV xs (some (n : Int)) none = xs.drop n := by
  unfold cutV
  rw [HT.sIx_none, HT.sIx_nat, Nat.min_eq_left h]
  exact List.take_of_length_le (by rw [List.length_drop]; exact Nat.le_refl _)
theorem DvAll.take : ∀ {ds : List PyData} {xs : List V} (n : Nat), DvAll K H xs ds → DvAll K H (xs.take n) (ds.take n)
  | _, _, 0, _ => .nil
  | [], _, n + 1, h => by cases h; exact .nil
  | d :: ds, _, n + 1, h => by cases h with | cons h1 h2 => exact .cons h1 (DvAll.take n h2)
theorem DvAll.drop : ∀ {ds : List PyData} {xs : List V} (n : Nat), DvAll K H xs ds → DvAll K H (xs.drop n) (ds.drop n)
  | _, _, 0, h => h
  | [], _, n + 1, h => by cases h; exact .nil
  | d :: ds, _, n + 1, h => by cases h with | cons h1 h2 => exact DvAll.drop n h2
theorem DvAll.rep {ds : List PyData} {xs : List V} (h : DvAll K H xs ds) : ∀ n : Nat, DvAll K H (List.replicate n xs).flatten (List.replicate n ds).flatten
  | 0 => .nil
  | n + 1 => by
    rw [List.replicate_succ, List.replicate_succ, List.flatten_cons, List.flatten_cons]
    exact DvAll.append h (DvAll.rep h n)
end
section
variable {K : PySem.W.Frag} {p : Addr} {B : Hp} {σ : L2.St}
/-- runs[i] -/
theorem evb_ix {te : TE} {ds : List PyData} {d : PyData} {i : Int} {j : Nat} (h : EvB K p B σ te (.tuple ds)) (e : ds[j]? = some d) (hi : ∀ n : Nat, n = ds.length → L2.ixN n i = some j) : EvB K p B σ (tOp (rIxT K) te (tC (.int i))) d := fun H Q D b q =>
  h H _ D b fun x H1 e1 v1 => by
    cases v1 with
    | tup hT hA =>
      rename_i t zs
      have hl := hA.length
      cases hz : zs[j]? with
      | none =>
        have z1 := List.getElem?_eq_none_iff.mp hz
        have z2 := (List.getElem?_eq_some_iff.mp e).1
        omega
      | some v =>
        obtain ⟨d2, g, vd⟩ := hA.get hz
        rw [e] at g
        cases g
        refine ⟨t, zs, i, v, rfl, rfl, sq_hid hT, ?_, q v H1 e1 vd⟩
        show (ixN zs.length i).bind (fun j => zs[j]?) = some v
        rw [hi _ hl]
        exact hz
/-- runs * 5 -/
theorem evb_rep {te : TE} {ds : List PyData} {n : Nat} (h : EvB K p B σ te (.tuple ds)) (ne : ds ≠ []) (l : ds.length ≤ 1000) (h2 : 2 ≤ n) (h1 : n ≤ 1000) : EvB K p B σ (tOp (rRepT K) te (tC (.int (n : Nat)))) (.tuple (List.replicate n ds).flatten) := fun H Q D b q =>
  h H _ D b fun x H1 e1 v1 => by
    cases v1 with
    | tup hT hA =>
      rename_i t zs
      have hl := hA.length
      refine ⟨t, _, zs, rfl, rfl, sq_hid hT, fun z => ne (by rw [z] at hl; exact List.length_eq_zero_iff.mp hl.symm), by omega, by omega, by omega, fun a na => q _ _ (e1.trans (same_upd na)) (.tup (sq_new (D.same e1) na) ?_)⟩
      rw [Int.toNat_natCast]
      exact DvAll.same (same_hid (same_upd na)) _ _ (DvAll.rep hA n)
/-- a display whose last item is a value of another kind -/
def EvBM (K : PySem.W.Frag) (p : Addr) (B : Hp) (σ : L2.St) (ta : TA) (ds : List PyData) (m : V) : Prop := ∀ H Q, Dice p H → Same B (hid p H) → (∀ xs H', Same H H' → DvAll K (hid p H') xs ds → Q (xs ++ [m]) H') → ta σ H Q
theorem evm_last {i : Nat} {m : V} (e : σ[i]? = some (some m)) : EvBM K p B σ (tCons (tVar i) tNil) [] m := fun H Q _ _ q => ⟨m, e, q [] H (Same.refl H) .nil⟩
theorem evm_cons {te : TE} {ta : TA} {d : PyData} {ds : List PyData} {m : V} (h : EvB K p B σ te d) (g : EvBM K p B σ ta ds m) : EvBM K p B σ (tCons te ta) (d :: ds) m := fun H Q D b q =>
  h H _ D b fun x H1 e1 v1 => g H1 _ (D.same e1) (b.trans (same_hid e1)) fun xs H2 e2 v2 => q (x :: xs) H2 (e1.trans e2) (.cons (v1.same' (same_hid e2)) v2)
/-- one of such a display -/
theorem one_lstM {H : Hp} {Q : VK} {ta : TA} {ds : List PyData} {m : V} (ev : EvBM K p B σ ta ds m) (e0 : σ[0]? = some (some (.ref p))) (l : ds.length < 1000) (D : Dice p H) (b : Same B (hid p H))
    (k : ∀ x H' d, d ∈ ds → Keep p H H' → Dv K (hid p H') x d → Q x H') (km : ∀ H', Keep p H H' → Q m H') : tCall (spOne K) [] E0 (tCons (tVar 0) (tCons (tLst ta) tNil)) σ H Q := by
  refine ⟨_, e0, ev H _ D b fun xs H1 e1 v1 => ?_⟩
  have xl := v1.length
  have ll : (xs ++ [m]).length = ds.length + 1 := by rw [List.length_append, xl]; rfl
  refine ⟨by rw [ll]; exact Nat.le_of_lt (small1000 (by omega)), fun q n1 => ?_⟩
  have D1 := D.same e1
  have qp : q ≠ p := D1.ne n1
  obtain ⟨a, b', c, hp⟩ := D1
  have k1 : Keep p H (upd H1 q (.lst (xs ++ [m]))) := (keep_same D e1).trans (keep_new ⟨a, b', c, hp⟩ n1)
  refine ⟨p, a, b', c, _, xs ++ [m], rfl, by rw [upd_ne qp.symm]; exact hp, .inl ⟨q, rfl, .inl (.of upd_same)⟩, fun z => ?_, by rw [ll]; exact Nat.le_of_lt (small1000 (by omega)), fun a' b' c' => .inl ⟨q, rfl, .inl (.of (by rw [upd_ne qp, upd_same]))⟩, fun a' b' c' i x hx => ?_⟩
  · rw [z] at ll
    cases ll
  · have k2 : Keep p H (upd (upd H1 q (.lst (xs ++ [m]))) p (dk a' b' c')) := k1.trans (.dice a' b' c')
    by_cases hi : i < xs.length
    · rw [List.getElem?_append_left hi] at hx
      obtain ⟨d, hd, vd⟩ := v1.get hx
      exact k x _ d (List.mem_of_getElem? hd) k2 (vd.same' ((same_hid (same_upd n1)).trans (Keep.dice a' b' c').hid))
    · rw [List.getElem?_append_right (by omega)] at hx
      have e : i - xs.length = 0 := by
        have := (List.getElem?_eq_some_iff.mp hx).1
        simp at this
        omega
      rw [e] at hx
      have e2 : m = x := by simpa using hx
      subst e2
      exact km _ k2
end
/-- what the display holds is no hole -/
theorem no_run_tup {s l e : PyData} {ds : List PyData} (h : isRunD (.tuple [s, l, e]) = true) : ∃ es i, s = .tuple es ∧ l = .int i := by
  obtain ⟨es, l', e', q, h1, ⟨i, rfl⟩, h3⟩ := run_parts h
  injection q with q
  injection q with q1 q
  injection q with q2 q
  exact ⟨es, i, q1, q2⟩
theorem run_no_hole {d : PyData} (h : isRunD d = true) : isHoleD d = false := by
  obtain ⟨es, l, e, rfl, h1, ⟨i, rfl⟩, h3⟩ := run_parts h
  show holeD [.tuple es, .int i, e] = false
  unfold holeD
  have : [PyData.tuple es, .int i, e].all isRunD = false := by
    rw [List.all_cons, List.all_cons]
    have : isRunD (.int i) = false := rfl
    rw [this]
    simp
  rw [this, Bool.and_false]
theorem runs_no_run {ds : List PyData} (h : holeD ds = true) : isRunD (.tuple ds) = false := by
  cases hr : isRunD (.tuple ds) with
  | false => rfl
  | true =>
    obtain ⟨es, l, e, q, h1, ⟨i, rfl⟩, h3⟩ := run_parts hr
    injection q with q
    rw [q] at h
    have z := hole_runs h
    rw [List.all_cons, List.all_cons] at z
    have : isRunD (.int i) = false := rfl
    rw [this] at z
    simp at z
theorem nest_no_hole {ds : List PyData} (h : holeD ds = true) : isHoleD (.tuple [.tuple ds]) = false := by
  show holeD [.tuple ds] = false
  unfold holeD
  rw [List.all_cons, runs_no_run h]
  simp
theorem rep_no_hole {ds : List PyData} (h : holeD ds = true) : isHoleD (.tuple (List.replicate 5 ds).flatten) = false := by
  show holeD (List.replicate 5 ds).flatten = false
  unfold holeD
  have l := (hole_len h).1
  have e : (List.replicate 5 ds).flatten.length = 5 * ds.length := by simp; omega
  rw [e, decide_eq_false (show ¬ 5 * ds.length ≤ 4 by omega)]
  simp
def dsM (ds : List PyData) (r : PyData) : List PyData := [.tuple [], .list ds, r, .none, .tuple [.tuple ds], .tuple (List.replicate 5 ds).flatten, .str "a"]
theorem bulk_app : ∀ ds es : List PyData, PyData.bulkAll (ds ++ es) = PyData.bulkAll ds + PyData.bulkAll es
  | [], es => by rw [List.nil_append, PyData.bulkAll, Nat.zero_add]
  | d :: ds, es => by
    rw [List.cons_append, PyData.bulkAll, PyData.bulkAll, bulk_app ds es]
    omega
theorem bulk_rep (ds : List PyData) : ∀ n : Nat, PyData.bulkAll (List.replicate n ds).flatten = n * PyData.bulkAll ds
  | 0 => by rw [Nat.zero_mul]; rfl
  | n + 1 => by rw [List.replicate_succ, List.flatten_cons, bulk_app, bulk_rep ds n, Nat.succ_mul]; omega
theorem dsM_ok {ds : List PyData} {r d : PyData} (h : holeD ds = true) (hr : isRunD r = true) (hd : d ∈ dsM ds r) : d.bulk ≤ 100000 ∧ isHoleD d = false := by
  have g := (gd_hole h).bk
  have g : PyData.bulkAll ds ≤ 300 := g
  unfold dsM at hd
  rcases List.mem_cons.mp hd with rfl | hd
  · exact ⟨Nat.zero_le _, rfl⟩
  rcases List.mem_cons.mp hd with rfl | hd
  · exact ⟨by rw [PyData.bulk]; omega, rfl⟩
  rcases List.mem_cons.mp hd with rfl | hd
  · exact ⟨Nat.le_trans (gd_run hr).bk (by omega), run_no_hole hr⟩
  rcases List.mem_cons.mp hd with rfl | hd
  · exact ⟨Nat.zero_le _, rfl⟩
  rcases List.mem_cons.mp hd with rfl | hd
  · refine ⟨?_, nest_no_hole h⟩
    rw [PyData.bulk, PyData.bulkAll, PyData.bulkAll, PyData.bulk]
    omega
  rcases List.mem_cons.mp hd with rfl | hd
  · refine ⟨?_, rep_no_hole h⟩
    rw [PyData.bulk, bulk_rep]
    omega
  rcases List.mem_cons.mp hd with rfl | hd
  · exact ⟨by decide +kernel, rfl⟩
  · cases hd
/-- what the statements of _law_right pass on -/
structure RS (K : PySem.W.Frag) (CH p rx ro mx sx : Addr) (vs us : List V) (ds es : List PyData) (H : Hp) : Prop where
  dice : Dice p H
  runs : SqT K (hid p H) rx vs
  rdv : DvAll K (hid p H) vs ds
  other : SqT K (hid p H) ro us
  odv : DvAll K (hid p H) us es
  made : HoleAt K CH (hid p H) mx ds
  same : HoleAt K CH (hid p H) sx ds
theorem RS.keep {K : PySem.W.Frag} {CH p rx ro mx sx : Addr} {vs us : List V} {ds es : List PyData} {H H' : Hp} (h : RS K CH p rx ro mx sx vs us ds es H) (k : Keep p H H') : RS K CH p rx ro mx sx vs us ds es H' :=
  ⟨k.2, sq_keep h.runs k, DvAll.same k.hid ds _ h.rdv, sq_keep h.other k, DvAll.same k.hid es _ h.odv, h.made.keep k, h.same.keep k⟩
end K0
end
/-! ### RT -/
section
set_option Elab.async false
set_option linter.all false
set_option maxRecDepth 100000
set_option maxHeartbeats 4000000
/-! _law_right. -/
namespace K0
open PySem PySem.Spec PyProof.Rows L2 Rd DN StX OE TR
abbrev rightN : List Str := ["dice", "signs", "runs", "other", "made", "same", "words", "at", "spoilt", "told", "one", "two", "due", "run", "way"]
theorem scRight : FnScope rightN ["dice"] (defScope (top iRight)) := ⟨rfl, rfl, rfl, by decide +kernel, rfl, by decide +kernel, by decide +kernel⟩
def spRight : Sp := fun vs H Q _ => ∃ (p : Addr) (a b c : Int), vs = [.ref p] ∧ H p = some (dk a b c) ∧ ∀ H', Keep p H H' → Q (.bl true) H'
abbrev spHLen2 (K : PySem.W.Frag) (CH : Addr) : Sp := fun vs H Q E => spHLen K CH (vs ++ []) H Q E
abbrev spHStr2 (K : PySem.W.Frag) (CH : Addr) : Sp := fun vs H Q E => spHStr K CH (vs ++ []) H Q E
def spToldA (K : PySem.W.Frag) (CH : Addr) : Sp := fun vs H Q E => spTold K CH vs H Q E ∨ spToldH K CH vs H Q E
theorem str_words : ∀ n : Nat, 1 ≤ n → n ≤ 4 → Txt.join "" [("hole of " : Str), (toString ((n : Nat) : Int) : Str), (" runs" : Str)] = strH n := by
  intro n h1 h4
  have : n = 1 ∨ n = 2 ∨ n = 3 ∨ n = 4 := by omega
  rcases this with rfl | rfl | rfl | rfl <;> decide +kernel
theorem str_small : ∀ n : Nat, 1 ≤ n → n ≤ 4 → (toString ((n : Nat) : Int) : Str).length ≤ 10 := by
  intro n h1 h4
  have : n = 1 ∨ n = 2 ∨ n = 3 ∨ n = 4 := by omega
  rcases this with rfl | rfl | rfl | rfl <;> decide +kernel

theorem HoleAt.ins {K : PySem.W.Frag} {CH x : Addr} {H : Hp} {ds : List PyData} (h : HoleAt K CH H x ds) : ∃ dx fs, H x = some (.ins CH dx fs) := by
  obtain ⟨dx, p, t, xs, h1, _⟩ := h
  exact ⟨dx, _, h1⟩
theorem shortR_run {d : PyData} (h : isRunD d = true) : shortR d = true := by
  obtain ⟨cs, i, e, rfl, cne, asc, mem, cl, i0, i3, he⟩ := run_small h
  exact sh_signs cl
/-- the runs with one of them spoilt -/
def gsOf (ds : List PyData) (at' : Nat) (e : PyData) : List PyData := ds.take at' ++ [e] ++ ds.drop (at' + 1)
theorem gs_mem {ds : List PyData} {at' : Nat} {e d : PyData} (h : d ∈ gsOf ds at' e) : d ∈ ds ∨ d = e := by
  unfold gsOf at h
  rcases List.mem_append.mp h with h | h
  · rcases List.mem_append.mp h with h | h
    · exact .inl (List.mem_of_mem_take h)
    · exact .inr (List.mem_singleton.mp h)
  · exact .inl (List.mem_of_mem_drop h)
theorem gs_len {ds : List PyData} {at' : Nat} {e : PyData} (h : at' < ds.length) : (gsOf ds at' e).length = ds.length := by
  unfold gsOf
  simp
  omega
theorem gs_ok {ds : List PyData} {at' : Nat} {e d : PyData} (h : holeD ds = true) (he : SpOk e) (hd : d ∈ gsOf ds at' e) : Gd 11000 5 d ∧ shortR d = true := by
  rcases gs_mem hd with hd | rfl
  · have r := List.all_eq_true.mp (hole_runs h) d hd
    exact ⟨(gd_run r).mono (by omega) (by omega), shortR_run r⟩
  · exact ⟨he.g, he.s⟩
theorem gs_gd {ds : List PyData} {at' : Nat} {e : PyData} (h : holeD ds = true) (hat : at' < ds.length) (he : SpOk e) : Gd 50000 6 (.tuple (gsOf ds at' e)) :=
  (gd_tup (n := 11000) (m := 5) (k := 4) (fun d hd => (gs_ok h he hd).1) (by rw [gs_len hat]; exact (hole_len h).2)).mono (by omega) (by omega)
def optH (gs : List PyData) : Option (List PyData) := if holeD gs = true then some gs else none
theorem optH_some {gs : List PyData} : (optH gs).isSome = holeD gs := by
  unfold optH
  cases holeD gs <;> rfl

/-- what _law_told_alone tells -/
inductive TVs (K : PySem.W.Frag) (CH : Addr) (H : Hp) : List V → List (Option (List PyData)) → Prop
  | nil : TVs K CH H [] []
  | cons {v : V} {o : Option (List PyData)} {vs : List V} {os : List (Option (List PyData))} : TV K CH H v o → TVs K CH H vs os → TVs K CH H (v :: vs) (o :: os)
theorem TVs.same {K : PySem.W.Frag} {CH : Addr} {H H' : Hp} (s : Same H H') : ∀ {vs : List V} {os : List (Option (List PyData))}, TVs K CH H vs os → TVs K CH H' vs os
  | _, _, .nil => .nil
  | _, _, .cons h t => .cons (h.same s) (TVs.same s t)
theorem TVs.append {K : PySem.W.Frag} {CH : Addr} {H : Hp} {us : List V} {ps : List (Option (List PyData))} (g : TVs K CH H us ps) : ∀ {vs : List V} {os : List (Option (List PyData))}, TVs K CH H vs os → TVs K CH H (vs ++ us) (os ++ ps)
  | _, _, .nil => g
  | _, _, .cons h t => .cons h (TVs.append g t)
theorem TV.hid {K : PySem.W.Frag} {CH D : Addr} {H : Hp} {v : V} {o : Option (List PyData)} {zs : List V} (e : H D = some (.lst zs)) (h : TV K CH H v o) : TV K CH (hid D H) v o := by
  cases h with
  | hole h => exact .hole (h.hidden e)
  | no => exact .no
theorem TVs.hid {K : PySem.W.Frag} {CH D : Addr} {H : Hp} {zs : List V} (e : H D = some (.lst zs)) : ∀ {vs : List V} {os : List (Option (List PyData))}, TVs K CH H vs os → TVs K CH (hid D H) vs os
  | _, _, .nil => .nil
  | _, _, .cons h t => .cons (h.hid e) (TVs.hid e t)
theorem TVs.length {K : PySem.W.Frag} {CH : Addr} {H : Hp} : ∀ {vs : List V} {os : List (Option (List PyData))}, TVs K CH H vs os → vs.length = os.length
  | _, _, .nil => rfl
  | _, _, .cons h t => by rw [List.length_cons, List.length_cons, TVs.length t]
theorem TVs.prs {K : PySem.W.Frag} {CH : Addr} {H : Hp} : ∀ {vs us : List V} {os : List (Option (List PyData))}, TVs K CH H vs os → TVs K CH H us os → Prs (DTold K CH) vs us H
  | _, _, _, .nil, .nil => .nil
  | _, _, _, .cons h t, .cons g u => .cons (told_same h g) (TVs.prs t u)
def aloneO (d e : PyData) (way : Nat) : Option (List PyData) := optH (aloneD way d e)
theorem upd_hid_self {D : Addr} {H : Hp} {o : HO} : hid D (upd H D o) = hid D H := by
  funext b
  by_cases e : b = D
  · show (if b = D then none else _) = (if b = D then none else _)
    rw [if_pos e, if_pos e]
  · rw [hid_ne e, hid_ne e, upd_ne e]
theorem alone2 (d e : PyData) : aloneO d e 2 = none := rfl
theorem alone3 (d e : PyData) : aloneO d e 3 = none := rfl
theorem hole1 (d : PyData) : holeD [d] = isRunD d := by
  show (true && true && [d].all isRunD) = isRunD d
  rw [List.all_cons, List.all_nil]
  simp
theorem hole2 {d e : PyData} (he : isRunD e = true) : holeD [d, e] = isRunD d := by
  show (true && true && [d, e].all isRunD) = isRunD d
  rw [List.all_cons, List.all_cons, List.all_nil, he]
  simp
theorem alone0 {d e : PyData} : aloneO d e 0 = if isRunD d = true then some [d] else none := by
  show (if holeD [d] = true then some [d] else none) = _
  rw [hole1]
theorem alone1 {d e : PyData} (he : isRunD e = true) : aloneO d e 1 = if isRunD d = true then some [d, e] else none := by
  show (if holeD [d, e] = true then some [d, e] else none) = _
  rw [hole2 he]
theorem atI_end {xs : List V} {v : V} (h : xs.getLast? = some v) : atI xs (-1) = some v := by
  obtain ⟨ys, rfl⟩ := List.getLast?_eq_some_iff.mp h
  exact atI_last ys v
theorem DvAll.last {K : PySem.W.Frag} {H : Hp} {xs : List V} {ds : List PyData} (h : DvAll K H xs ds) (ne : ds ≠ []) : ∃ v d, xs.getLast? = some v ∧ d ∈ ds ∧ Dv K H v d := by
  have l := h.length
  have l0 : 0 < ds.length := List.length_pos_iff.mpr ne
  have hv : xs[xs.length - 1]? = some (xs[xs.length - 1]'(by omega)) := List.getElem?_eq_getElem (by omega)
  obtain ⟨d, hd, vd⟩ := h.get hv
  refine ⟨_, d, ?_, List.mem_of_getElem? hd, vd⟩
  rw [List.getLast?_eq_getElem?]
  exact hv
section
variable {P : Program} {w : World} {K : PySem.W.Frag} {mg : Str → Option Value} {base : Heap} {f CH CE pO gO pR gR gE gL gS mfSg mfH mfT mfO mfR mfP mfA mfI mf1 : Addr} {mc : Value} {fd fdO fdR fdE fdSg fdH fdT fdD fdRo fdP fdA fdI fd1 : FuncData}
  {fSg fH fT fD fRo fP fA fI f1 : Addr}
theorem ok_right {n : Nat} (F : FnP K "_law_right" iRight f fd) (sb : sysB K = true) (mrepr : mg "repr" = none) (mlen : mg "len" = none) (mstr : mg "str" = none) (mlist : mg "list" = none) (mrange : mg "range" = none)
    (T : HoleM K CH) (O : OEq K CH gE) (N : ∀ d : PyData, PySem.W.notFirst K CH (.type (dty d)) = true)
    (FE : FnOk P w K mg base CX0 (n + 1) gE fdE ["self", "other"] (spHEq K CH)) (bE : Binds K fdE ["self", "other"] [])
    (PR : PropOf K CH "runs" pR gR) (FRu : FnOk P w K mg base CX0 (n + 1) gR fdR ["self"] (spHRuns K CH)) (bRu : Binds K fdR ["self"] [])
    (hLen : PySem.W.findIn K (.ref CH) "__len__" = some (some (.ref gL))) (fLen : PySem.W.isFn K (.ref gL) = true) (FL : FnR P w K mg base CX0 (n + 1) gL (spHLen2 K CH))
    (hStr : PySem.W.findIn K (.ref CH) "__str__" = some (some (.ref gS))) (fStr : PySem.W.isFn K (.ref gS) = true) (FS : FnR P w K mg base CX0 (n + 1) gS (spHStr2 K CH))
    (gH : mg "Hole" = some (.ref CH)) (rd : ClX.CRead K CH mc) (cm : ClX.CMet K CH mc "of" pO gO) (FOf : FnOk P w K mg base (L2.CX P w) (n + 6) gO fdO ["cls", "runs"] (spOf K CH CE)) (bO : Binds K fdO ["cls", "runs"] [])
    (FSg : FnOk P w K mg base CX0 (n + 7) fSg fdSg ["dice", "upto"] spSigns) (gSg : mg "_law_signs" = some (.ref fSg)) (kSg : PySem.W.keepIn K (.ref fSg) = true) (bSg : Binds K fdSg ["dice", "upto"] [])
    (FH : FnOk P w K mg base CX0 (n + 7) fH fdH ["dice", "signs"] (spLHole K)) (gHo : mg "_law_hole" = some (.ref fH)) (kHo : PySem.W.keepIn K (.ref fH) = true) (bHo : Binds K fdH ["dice", "signs"] [])
    (FT : FnOk P w K mg base CX0 (n + 7) fT fdT ["runs"] (spToldA K CH)) (gT : mg "_law_told" = some (.ref fT)) (kT : PySem.W.keepIn K (.ref fT) = true) (bT : Binds K fdT ["runs"] [])
    (FD : FnOk P w K mg base CX0 (n + 7) fD fdD ["dice"] (spOdd K)) (gD : mg "_law_odd" = some (.ref fD)) (kD : PySem.W.keepIn K (.ref fD) = true) (bD : Binds K fdD ["dice"] [])
    (FR : FnOk P w K mg base CX0 (n + 7) fRo fdRo ["dice", "total"] spRoll) (gRo : mg "_law_roll" = some (.ref fRo)) (kR : PySem.W.keepIn K (.ref fRo) = true) (bR : Binds K fdRo ["dice", "total"] [])
    (FP : FnOk P w K mg base CX0 (n + 7) fP fdP ["dice", "run"] (spSpoilt K)) (gP : mg "_law_spoilt" = some (.ref fP)) (kP : PySem.W.keepIn K (.ref fP) = true) (bP : Binds K fdP ["dice", "run"] [])
    (FA : FnOk P w K mg base CX0 (n + 7) fA fdA ["way", "one", "two"] (spAlone K CH)) (gA : mg "_law_told_alone" = some (.ref fA)) (kA : PySem.W.keepIn K (.ref fA) = true) (bA : Binds K fdA ["way", "one", "two"] [])
    (FI : FnOk P w K mg base CX0 (n + 7) fI fdI ["value"] (spDR K isRunD)) (gI : mg "_law_is_run" = some (.ref fI)) (kI : PySem.W.keepIn K (.ref fI) = true) (bI : Binds K fdI ["value"] [])
    (F1 : FnOk P w K mg base CX0 (n + 7) f1 fd1 ["dice", "items"] (spOne K)) (g1 : mg "_law_one_of" = some (.ref f1)) (k1 : PySem.W.keepIn K (.ref f1) = true) (b1 : Binds K fd1 ["dice", "items"] []) :
    FnG P w K mg base CX0 (n + 8) f fd ["dice"] spRight := by
  refine fnG_ofC F scRight (fun vs H Q E h => ?_) (fun cdv _ A outer s H vs Q E gd hr h => ?_)
  · obtain ⟨p, a, b, c, rfl, _⟩ := h
    rfl
  · obtain ⟨p, a, b, c, rfl, hp, q⟩ := h
    have hr1 := hr.mono (show n + 1 ≤ n + 7 by omega)
    have hr2 := hr.mono (show n + 2 ≤ n + 7 by omega)
    have hr3 := hr.mono (show n + 3 ≤ n + 7 by omega)
    have hr6 := hr.mono (show n + 6 ≤ n + 7 by omega)
    have FEr : FnR P w K mg base CX0 (n + 1) gE (spHEq2 K CH) := FE.raw bE .nil
    have pof : ∀ {X : Cx}, Passes CX0 X (fun _ _ _ => False) := pass0
    refine ⟨_, PSs.nox (C8.pss_cut (ps_set (i := 1) scRight.nd rfl (.inl rfl) (pe_call FSg hr (by rfl) gSg kSg bSg .nil pass0 (pa_cons (pv 0) (pa_cons pe_int pa_nil))))
      (C8.pss_cut (ps_par (i := 2) (j := 3) (by rfl) scRight.nd rfl rfl (by decide) rfl rfl (pa_cons (pe_call FH hr (by rfl) gHo kHo bHo .nil pass0 (pa_cons (pv 0) (pa_cons (pv 1) pa_nil))) (pa_cons (pe_call FH hr (by rfl) gHo kHo bHo .nil pass0 (pa_cons (pv 0) (pa_cons (pv 1) pa_nil))) pa_nil)) (by rfl))
      (C8.pss_cut (ps_par (i := 4) (j := 5) (by rfl) scRight.nd rfl rfl (by decide) rfl rfl (pa_cons (pe_call FT hr (by rfl) gT kT bT .nil pass0 (pa_cons (pv 2) pa_nil)) (pa_cons (ClX.pe_cmeth (E := fun _ _ _ => False) (pe_glob (v := .ref CH) (by rfl) gH rfl) rd cm (FOf.raw bO .nil) hr6 (passes_call takes0 fun _ _ _ _ z => z) (pa_cons (pv 2) pa_nil)) pa_nil)) (by rfl))
      (C8.pss_cut (ps_if (PW.pt (pw_or (pt_cmpR (op_isNo T O N FEr hr1) (pv 4) pe_str (nomark _)) (pw_or (pt_cmpR op_ne (pe_callB (call_repr sb gd hr.units) (by rfl) mrepr (by decide +kernel) (pa_cons (pe_prop (pv 4) T.cl PR FRu hr2 bRu .nil pass0 (by rfl)) pa_nil)) (pe_callB (call_repr sb gd hr.units) (by rfl) mrepr (by decide +kernel) (pa_cons (pv 2) pa_nil)) (nomark _))
          (pw_or1 (pt_cmpR op_ne (pe_callB (call_lenO hLen fLen FL hr3 pass0) (by rfl) mlen PySem.boot_len (pa_cons (pv 4) pa_nil)) (pe_callB call_len_seq (by rfl) mlen PySem.boot_len (pa_cons (pv 2) pa_nil)) (nomark _)))))) (pss_one (ps_ret pe_bl)) pss_nil)
      (C8.pss_cut (ps_set (i := 6) scRight.nd rfl (.inl rfl) (pe_lst (pa_cons pe_str (pa_cons (pe_callTy call_str_int (by rfl) mstr (by decide +kernel) (pa_cons (pe_callB call_len_seq (by rfl) mlen PySem.boot_len (pa_cons (pv 2) pa_nil)) pa_nil)) (pa_cons pe_str pa_nil)))))
      (C8.pss_cut (ps_if (PW.pt (pw_or (pt_cmpR op_ne (pe_callTy (call_strO hStr fStr FS hr3 pass0) (by rfl) mstr (by decide +kernel) (pa_cons (pv 4) pa_nil)) (pe_bm PySem.F.plainAttrs_str PySem.F.slot_str_join PySem.F.type_str_join mt_join pe_str (pa_cons (pv 6) pa_nil)) (nomark _))
          (pw_or (pt_cmpR (op_holeNe T O N FEr hr2) (pv 4) (pv 5) (nomark _)) (pw_or (pt_not (pt_cmpR (op_holeEq T O N FEr hr1) (pv 4) (pv 5) (nomark _))) (pw_or (pt_cmpR (op_holeEq T O N FEr hr1) (pv 4) (pv 2) (nomark _))
          (pw_or1 (pt_cmpR (op_holeEq T O N FEr hr1) (pv 4) (pe_call FD hr (by rfl) gD kD bD .nil pass0 (pa_cons (pv 0) pa_nil)) (nomark _)))))))) (pss_one (ps_ret pe_bl)) pss_nil)
      (C8.pss_cut (ps_if (pt_cmpR op_ne (pe_cmpR (op_holeEq T O N FEr hr1) (pv 4) (ClX.pe_cmeth (E := fun _ _ _ => False) (pe_glob (v := .ref CH) (by rfl) gH rfl) rd cm (FOf.raw bO .nil) hr6 (passes_call takes0 fun _ _ _ _ z => z) (pa_cons (pv 3) pa_nil)) (nomark _)) (pe_cmpR (op_eqD hr.units) (pv 2) (pv 3) (nomark _)) (nomark _)) (pss_one (ps_ret pe_bl)) pss_nil)
      (C8.pss_cut (ps_set (i := 7) scRight.nd rfl (.inl rfl) (pe_call FR hr (by rfl) gRo kR bR .nil pass0 (pa_cons (pv 0) (pa_cons (pe_callB call_len_seq (by rfl) mlen PySem.boot_len (pa_cons (pv 2) pa_nil)) pa_nil))))
      (C8.pss_cut (ps_set (i := 8) scRight.nd rfl (.inl rfl) (pe_op op_catA (pe_op op_catA (pe_slice sl_tupA (pv 2) po_none (po_some (pv 7))) (pe_tup (pa_cons (pe_call FP hr (by rfl) gP kP bP .nil pass0 (pa_cons (pv 0) (pa_cons (pe_ix ix_tup (pv 2) (pv 7) (fun _ _ => rfl)) pa_nil))) pa_nil))) (pe_slice sl_tupA (pv 2) (po_some (pe_op op_add (pv 7) pe_int)) po_none)))
      (C8.pss_cut (ps_set (i := 9) scRight.nd rfl (.inl rfl) (pe_call FT hr (by rfl) gT kT bT .nil pass0 (pa_cons (pv 8) pa_nil)))
      (C8.pss_cut (ps_if (pt_cmpR op_ne (pe_cmpR (op_isNoNe T O N FEr hr2) (pv 9) pe_str (nomark _)) (pe_cmpR (op_eqNil hr.units) (pe_lc (own := [("run", 13)]) (g := gName 13) rfl scRight.nd (pi_tup (pv 8)) (blkOk_by (N := rightN) (sc := defScope (top iRight)) (by decide +kernel)) (fun _ _ _ _ _ => pg_name (i := 13) scRight.nd rfl (Or.inl rfl))
          (fun _ _ _ _ _ => pts_one (pt_not (pt_val (pe_call FI hr (by rfl) gI kI bI .nil pass0 (pa_cons (pv 13) pa_nil))))) (fun _ _ _ _ _ => pv 13)) (pe_lst pa_nil) (nomark _)) (nomark _)) (pss_one (ps_ret pe_bl)) pss_nil)
      (C8.pss_cut (ps_if (PW.pt (pw_and (pt_cmpR (op_isNoNe T O N FEr hr2) (pv 9) pe_str (nomark _)) (pw_and1 (pt_cmpR op_ne (pe_callB (call_repr sb gd hr.units) (by rfl) mrepr (by decide +kernel) (pa_cons (pe_prop (pv 9) T.cl PR FRu hr2 bRu .nil pass0 (by rfl)) pa_nil)) (pe_callB (call_repr sb gd hr.units) (by rfl) mrepr (by decide +kernel) (pa_cons (pv 8) pa_nil)) (nomark _))))) (pss_one (ps_ret pe_bl)) pss_nil)
      (C8.pss_cut (ps_if (pt_cmpR (op_isNoNe T O N FEr hr2) (pe_call FT hr (by rfl) gT kT bT .nil pass0 (pa_cons (pe_call F1 hr (by rfl) g1 k1 b1 .nil pass0 (pa_cons (pv 0) (pa_cons (pe_lst (pa_cons (pe_tup pa_nil) (pa_cons (pe_callTy call_list_of (by rfl) mlist (by decide +kernel) (pa_cons (pv 2) pa_nil)) (pa_cons (pe_ix ix_tup (pv 2) pe_int (fun _ _ => rfl))
          (pa_cons pe_non (pa_cons (pe_tup (pa_cons (pv 2) pa_nil)) (pa_cons (pe_op op_repT (pv 2) pe_int) (pa_cons pe_str (pa_cons (pv 4) pa_nil))))))))) pa_nil))) pa_nil)) pe_str (nomark _)) (pss_one (ps_ret pe_bl)) pss_nil)
      (C8.pss_cut (ps_asg (pe_tup (pa_cons (pe_call FP hr (by rfl) gP kP bP .nil pass0 (pa_cons (pv 0) (pa_cons (pe_ix ix_tup (pv 2) pe_int (fun _ _ => rfl)) pa_nil))) (pa_cons (pe_ix ix_tup (pv 2) (pe_un un_neg pe_int) (fun _ _ => rfl)) pa_nil))) (pg_tup rfl (pgs_cons (pg_name (i := 10) scRight.nd rfl (.inr rfl)) (pgs_cons (pg_name (i := 11) scRight.nd rfl (.inr rfl)) pgs_nil))))
      (C8.pss_cut (ps_set (i := 12) scRight.nd rfl (.inl rfl) (pe_op op_rep (pe_lst (pa_cons pe_str pa_nil)) pe_int))
      (C8.pss_cut (ps_if (pt_val (pe_call FI hr (by rfl) gI kI bI .nil pass0 (pa_cons (pv 10) pa_nil)))
          (pss_one (ps_set (i := 12) scRight.nd rfl (.inl rfl) (pe_lst (pa_cons (ClX.pe_cmeth (E := fun _ _ _ => False) (pe_glob (v := .ref CH) (by rfl) gH rfl) rd cm (FOf.raw bO .nil) hr6 (passes_call takes0 fun _ _ _ _ z => z) (pa_cons (pe_tup (pa_cons (pv 10) pa_nil)) pa_nil))
            (pa_cons (ClX.pe_cmeth (E := fun _ _ _ => False) (pe_glob (v := .ref CH) (by rfl) gH rfl) rd cm (FOf.raw bO .nil) hr6 (passes_call takes0 fun _ _ _ _ z => z) (pa_cons (pe_tup (pa_cons (pv 10) (pa_cons (pv 11) pa_nil))) pa_nil)) pa_nil))))) pss_nil)
      (pss_one (ps_ret (pe_cmpR (op_toldList O FE bE hr2) (pe_lc (own := [("way", 14)]) (g := gName 14) (tt := tYes) rfl scRight.nd (pi_range1 (by rfl) mrange (pa_cons pe_int pa_nil)) (blkOk_by (N := rightN) (sc := defScope (top iRight)) (by decide +kernel)) (fun _ _ _ _ _ => pg_name (i := 14) scRight.nd rfl (Or.inl rfl)) (fun _ _ _ _ _ => pts_nil)
          (fun _ _ _ _ _ => pe_call FA hr (by rfl) gA kA bA .nil pass0 (pa_cons (pv 14) (pa_cons (pv 10) (pa_cons (pv 11) pa_nil)))))
        (pe_op op_cat (pv 12) (pe_op op_rep (pe_lst (pa_cons pe_str pa_nil)) pe_int)) (nomark _)))))))))))))))))))), ?_⟩
    have D0 : Dice p H := ⟨a, b, c, hp⟩
    -- signs
    refine ⟨fun σ' H' => ∃ t cs, σ' = [some (.ref p), some (.ref t), none, none, none, none, none, none, none, none, none, none, none, none, none] ∧ Keep p H H' ∧ SqT K (hid p H') t (cs.map oneV) ∧ cs ≠ [] ∧ cs.length ≤ 15 ∧ cs.Nodup ∧ (∀ c ∈ cs, c ∈ sgs'), ?_, ?_⟩
    · refine ⟨_, rfl, p, a, b, c, 3, rfl, hp, by decide, by decide, fun H1 t cs k1 ht pw cne mem cl => ⟨t, cs, rfl, k1, ?_, cne, by omega, pw.imp fun z => Nat.ne_of_lt z, mem⟩⟩
      obtain ⟨a1, b1, c1, e1⟩ := k1.2
      exact FrT.hidden e1 ht
    rintro σ1 H1 ⟨t, cs, rfl, k1, hT, cne, cl, cnd, mem⟩
    -- runs, other
    refine ⟨fun σ' H' => ∃ rx ro vs us ds es, σ' = [some (.ref p), some (.ref t), some (.ref rx), some (.ref ro), none, none, none, none, none, none, none, none, none, none, none] ∧ Keep p H H' ∧ SqT K (hid p H') rx vs ∧ DvAll K (hid p H') vs ds ∧ SqT K (hid p H') ro us ∧ DvAll K (hid p H') us es ∧ holeD ds = true ∧ holeD es = true, ?_, ?_⟩
    · obtain ⟨a1, b1, c1, e1⟩ := k1.2
      refine ⟨_, rfl, _, rfl, p, a1, b1, c1, t, cs, rfl, e1, hT, cne, cl, cnd, mem, fun H2 rx vs ds k2 e2 n2 v2 h2 => ?_⟩
      obtain ⟨a2, b2, c2, e2'⟩ := k2.2
      refine ⟨_, rfl, _, rfl, p, a2, b2, c2, t, cs, rfl, e2', sq_keep hT k2, cne, cl, cnd, mem, fun H3 ro us es k3 e3 n3 v3 h3 => ?_⟩
      refine ⟨_, _, rfl, rx, ro, vs, us, ds, es, rfl, (k1.trans k2).trans k3, sq_keep (.of (by rw [hid_ne n2]; exact e2)) k3, DvAll.same k3.hid ds _ v2, .of (by rw [hid_ne n3]; exact e3), v3, h2, h3⟩
    rintro σ2 H2 ⟨rx, ro, vs, us, ds, es, rfl, k2, sR, vR, sO, vO, hR, hO⟩
    have bR' : (PyData.tuple ds).bulk ≤ 100000 := Nat.le_trans (gd_hole hR).bk (by omega)
    have bO' : (PyData.tuple es).bulk ≤ 100000 := Nat.le_trans (gd_hole hO).bk (by omega)
    -- made, same
    refine ⟨fun σ' H' => ∃ mx sx, σ' = [some (.ref p), some (.ref t), some (.ref rx), some (.ref ro), some (.ref mx), some (.ref sx), none, none, none, none, none, none, none, none, none] ∧ Keep p H H' ∧ RS K CH p rx ro mx sx vs us ds es H', ?_, ?_⟩
    · refine ⟨_, rfl, .inl ⟨_, .tuple ds, rfl, .tup (sq_hid sR) (DvAll.same hid_out ds _ vR), bR', fun _ H3 mx s3 nm hm => ?_, fun no => absurd (hR.symm.trans no) (by decide)⟩⟩
      have k23 := keep_same k2.2 s3
      refine ⟨rfl, _, rfl, _, .tuple ds, rfl, .tup (sq_hid (sq_keep sR k23)) (DvAll.same (k23.hid.trans hid_out) ds _ vR), bR', fun _ H4 sx s4 ns hs => ?_, fun no => absurd (hR.symm.trans no) (by decide)⟩
      have k34 := keep_same k23.2 s4
      have k24 := k23.trans k34
      obtain ⟨a4, b4, c4, e4⟩ := k24.2
      exact ⟨_, _, rfl, mx, sx, rfl, k2.trans k24, ⟨k24.2, sq_keep sR k24, DvAll.same k24.hid ds _ vR, sq_keep sO k24, DvAll.same k24.hid es _ vO, (hm.same s4).hidden e4, hs.hidden e4⟩⟩
    rintro σ3 H3 ⟨mx, sx, rfl, k3, R3⟩
    have lR := R3.rdv.length
    have lO := R3.odv.length
    obtain ⟨h1R, h4R⟩ := hole_len hR
    have ne0 : ds ≠ [] := fun z => by rw [z] at h1R; cases h1R
    have fitR : Fit (.tuple ds) := (gd_hole hR).fit (by omega) (by omega)
    have dvR : ∀ {H'}, RS K CH p rx ro mx sx vs us ds es H' → Dv K H' (.ref rx) (.tuple ds) := fun R => .tup (sq_hid R.runs) (DvAll.same hid_out ds _ R.rdv)
    -- what made tells
    refine ⟨fun σ' H' => σ' = [some (.ref p), some (.ref t), some (.ref rx), some (.ref ro), some (.ref mx), some (.ref sx), none, none, none, none, none, none, none, none, none] ∧ H' = H3, ?_, ?_⟩
    · obtain ⟨dx, fs, hi⟩ := R3.made.shown.ins
      refine ⟨_, rfl, some ds, .hole R3.made.shown, rfl, _, rfl, ite2 (fun z => by cases z) (fun _ => ?_)⟩
      refine ⟨_, rfl, mx, dx, fs, rfl, hi, mx, ds, rfl, R3.made.shown, fun pp xs hT' hA => ⟨_, .tuple ds, rfl, .tup hT' hA, fitR, _, rfl, _, .tuple ds, rfl, dvR R3, fitR, rfl, _, rfl, ?_⟩⟩
      rw [decide_eq_true (rfl : V.str (PyData.tuple ds).shown = V.str (PyData.tuple ds).shown)]
      refine ite2 (fun z => by cases z) (fun _ => ?_)
      refine ⟨_, rfl, mx, dx, fs, rfl, hi, mx, ds, rfl, R3.made.shown, _, rfl, by omega, by omega, _, rfl, rx, vs, rfl, .inr (sq_hid R3.runs), rfl, _, rfl, ?_⟩
      rw [lR, decide_eq_true (rfl : V.int ((ds.length : Nat) : Int) = V.int ((ds.length : Nat) : Int))]
      exact ite2 (fun z => by cases z) (fun _ => ⟨rfl, rfl⟩)
    rintro σ4 H4 ⟨rfl, rfl⟩
    -- words
    refine ⟨fun σ' H' => ∃ l, σ' = [some (.ref p), some (.ref t), some (.ref rx), some (.ref ro), some (.ref mx), some (.ref sx), some (.ref l), none, none, none, none, none, none, none, none] ∧ Keep p H4 H' ∧ H' l = some (.lst ([("hole of " : Str), (toString ((ds.length : Nat) : Int) : Str), (" runs" : Str)].map V.str)), ?_, ?_⟩
    · refine ⟨_, rfl, rx, vs, rfl, .inr (sq_hid R3.runs), _, rfl, ?_, by show 3 ≤ sizeLine; decide, fun l nl => ⟨l, rfl, keep_new R3.dice nl, ?_⟩⟩
      · rw [lR]
        exact (small_n ⟨h1R, h4R⟩).1
      · rw [upd_same, lR]
        rfl
    rintro σ5 H5 ⟨l, rfl, k5, hl⟩
    have R5 := R3.keep k5
    -- str, ==
    refine ⟨fun σ' H' => σ' = [some (.ref p), some (.ref t), some (.ref rx), some (.ref ro), some (.ref mx), some (.ref sx), some (.ref l), none, none, none, none, none, none, none, none] ∧ Keep p H5 H', ?_, ?_⟩
    · obtain ⟨dx, fs, hi⟩ := R5.made.shown.ins
      refine ⟨_, rfl, mx, dx, fs, rfl, hi, mx, ds, rfl, R5.made.shown, _, rfl, rfl, _, rfl, _, l, _, rfl, rfl, .inl (.of hl), ?_, rfl, _, rfl, ?_⟩
      · have z := str_small _ h1R h4R
        have e1 : ("hole of " : Str).length = 8 := rfl
        have e2 : (" runs" : Str).length = 5 := rfl
        have e3 : ("" : Str).length = 0 := rfl
        simp only [List.map_cons, List.map_nil, List.sum_cons, List.sum_nil, List.length_cons, List.length_nil, e1, e2, e3]
        omega
      rw [str_words _ h1R h4R, decide_eq_true (rfl : V.str (strH ds.length) = V.str (strH ds.length))]
      refine ite2 (fun z => by cases z) (fun _ => ?_)
      have eS : eqH ds (some ds) = true := eqH_self hR
      refine ⟨_, rfl, _, rfl, mx, ds, some ds, rfl, R5.made.shown, .hole R5.same.shown, _, rfl, ?_⟩
      rw [eS]
      refine ite2 (fun z => by cases z) (fun _ => ?_)
      refine ⟨_, rfl, _, rfl, mx, ds, some ds, rfl, R5.made.shown, .hole R5.same.shown, _, rfl, ?_⟩
      rw [eS]
      refine ite2 (fun z => by cases z) (fun _ => ?_)
      refine ⟨_, rfl, _, rfl, mx, ds, none, rfl, R5.made.shown, .data (dvR R5), _, rfl, ite2 (fun z => by cases z) (fun _ => ?_)⟩
      obtain ⟨a5, b5, c5, e5⟩ := R5.dice
      refine ⟨_, rfl, _, rfl, p, a5, b5, c5, rfl, e5, fun H6 x d k6 vd _ => ⟨mx, ds, none, rfl, (R5.keep k6).made.shown, .data (vd.same' hid_out), _, rfl, ite2 (fun z => by cases z) (fun _ => ⟨rfl, k6⟩)⟩⟩
    rintro σ6 H6 ⟨rfl, k6⟩
    have R6 := R5.keep k6
    -- made == Hole.of(other)
    refine ⟨fun σ' H' => σ' = [some (.ref p), some (.ref t), some (.ref rx), some (.ref ro), some (.ref mx), some (.ref sx), some (.ref l), none, none, none, none, none, none, none, none] ∧ Keep p H6 H', ?_, ?_⟩
    · refine ⟨_, rfl, rfl, _, rfl, _, .tuple es, rfl, .tup (sq_hid R6.other) (DvAll.same hid_out es _ R6.odv), bO', fun _ H7 ox s7 no ho => ?_, fun no => absurd (hO.symm.trans no) (by decide)⟩
      have k7 := keep_same R6.dice s7
      have R7 := R6.keep k7
      refine ⟨mx, ds, some es, rfl, R7.made.shown, .hole ho, _, rfl, _, rfl, .tuple ds, .tuple es, .tup (sq_hid R7.runs) (dp_runs (DvAll.same hid_out ds _ R7.rdv) (hole_runs hR)), .tup (sq_hid R7.other) (dp_runs (DvAll.same hid_out es _ R7.odv) (hole_runs hO)), hole_shape hR, hole_shape hO, rfl, _, rfl, ?_⟩
      have e : decide (V.bl (eqH ds (some es)) = V.bl (PyData.eqv (.tuple ds) (.tuple es))) = true := decide_eq_true rfl
      exact ite2 (fun z => absurd z (by rw [show (V.bl (if false = true then !eqH ds (some es) else eqH ds (some es))) = V.bl (eqH ds (some es)) from rfl, e]; decide)) (fun _ => ⟨rfl, k7⟩)
    rintro σ7 H7 ⟨rfl, k7⟩
    have R7 := R6.keep k7
    -- at
    refine ⟨fun σ' H' => ∃ at' : Nat, at' < ds.length ∧ σ' = [some (.ref p), some (.ref t), some (.ref rx), some (.ref ro), some (.ref mx), some (.ref sx), some (.ref l), some (.int (at' : Nat)), none, none, none, none, none, none, none] ∧ Keep p H7 H', ?_, ?_⟩
    · obtain ⟨a7, b7, c7, e7⟩ := R7.dice
      refine ⟨_, rfl, _, rfl, rx, vs, rfl, .inr (sq_hid R7.runs), p, a7, b7, c7, _, rfl, e7, len_div (by omega) (Nat.le_of_lt (small1000 (by omega))), fun a' b' c' r h0 h1 => ⟨r.toNat, by omega, ?_, .dice a' b' c'⟩⟩
      rw [show ((r.toNat : Nat) : Int) = r by omega]
      rfl
    rintro σ8 H8 ⟨at', hat, rfl, k8⟩
    have R8 := R7.keep k8
    have hatv : at' < vs.length := by omega
    have hv0 : ∃ v, vs[at']? = some v := ⟨_, List.getElem?_eq_getElem hatv⟩
    -- spoilt
    refine ⟨fun σ' H' => ∃ b ws e, SpOk e ∧ σ' = [some (.ref p), some (.ref t), some (.ref rx), some (.ref ro), some (.ref mx), some (.ref sx), some (.ref l), some (.int (at' : Nat)), some (.ref b), none, none, none, none, none, none] ∧ Keep p H8 H' ∧ SqT K (hid p H') b ws ∧ DvAll K (hid p H') ws (gsOf ds at' e), ?_, ?_⟩
    · refine ⟨_, rfl, _, rfl, _, rfl, cut_any R8.dice R8.runs fun r1 H9 k9 q9 => ?_⟩
      have R9 := R8.keep k9
      obtain ⟨a9, b9, c9, e9⟩ := R9.dice
      obtain ⟨v, hv⟩ := hv0
      obtain ⟨d, hd, vd⟩ := R9.rdv.get hv
      have rd' : isRunD d = true := List.all_eq_true.mp (hole_runs hR) d (List.mem_of_getElem? hd)
      refine ⟨_, rfl, _, rfl, _, rfl, rx, vs, _, v, rfl, rfl, sq_hid R9.runs, atI_nat hv, p, a9, b9, c9, v, d, rfl, e9, vd, rd', fun H10 x e k10 vx ok => ?_⟩
      have R10 := R9.keep k10
      refine ⟨by show 1 ≤ sizeLine; decide, fun tt nt => ?_⟩
      have k11 := keep_new (o := .tup [x]) R10.dice nt
      have R11 := R10.keep k11
      rw [cut_take (Nat.le_of_lt hatv)] at q9
      refine cat_any R11.dice (sq_keep (sq_keep q9 k10) k11) (sq_new R10.dice nt) (by rw [List.length_take]; show _ + 1 ≤ 1000; omega) fun r2 H12 k12 q12 => ?_
      have R12 := R11.keep k12
      refine ⟨_, rfl, _, rfl, _, _, rfl, rfl, _, rfl, ?_⟩
      dsimp only [tNoPart]
      refine cut_any (lo := some ((at' : Nat) + 1 : Int)) (hi := none) R12.dice R12.runs fun r3 H13 k13 q13 => ?_
      have R13 := R12.keep k13
      have ec : cutV vs (some ((at' : Nat) + 1 : Int)) none = vs.drop (at' + 1) := cut_drop (n := at' + 1) (by omega)
      rw [ec] at q13
      refine cat_any R13.dice (sq_keep q12 k13) q13 (by rw [List.length_append, List.length_take, List.length_drop]; show _ + 1 + _ ≤ 1000; omega) fun r4 H14 k14 q14 => ?_
      have k10_14 := ((k11.trans k12).trans k13).trans k14
      refine ⟨r4, _, e, ok, rfl, (k9.trans k10).trans k10_14, q14, ?_⟩
      have v14 := DvAll.same (((k9.trans k10).trans k10_14).hid) ds _ R8.rdv
      exact DvAll.append (DvAll.append (DvAll.take at' v14) (.cons (vx.same' k10_14.hid) .nil)) (DvAll.drop (at' + 1) v14)
    rintro σ9 H9 ⟨sb', ws, e, ok, rfl, k9, qS, vS⟩
    have R9 := R8.keep k9
    have lG : (gsOf ds at' e).length = ds.length := gs_len hat
    have lS : ws.length = ds.length := vS.length.trans lG
    have gG := gs_gd hR hat ok
    have fitG : Fit (.tuple (gsOf ds at' e)) := gG.fit (by omega) (by omega)
    have hG : holeD (gsOf ds at' e) = (gsOf ds at' e).all isRunD := hole_all (by omega) (by omega)
    generalize hgs : gsOf ds at' e = gs at vS lG gG fitG hG
    have gok : ∀ d ∈ gs, Gd 11000 5 d ∧ shortR d = true := fun d hd => gs_ok hR ok (by rw [hgs]; exact hd)
    -- told
    refine ⟨fun σ' H' => ∃ v, σ' = [some (.ref p), some (.ref t), some (.ref rx), some (.ref ro), some (.ref mx), some (.ref sx), some (.ref l), some (.int (at' : Nat)), some (.ref sb'), some v, none, none, none, none, none] ∧ Keep p H9 H' ∧ TV K CH (hid p H') v (optH gs), ?_, ?_⟩
    · refine ⟨_, rfl, .inl ⟨_, .tuple gs, rfl, .tup (sq_hid qS) (DvAll.same hid_out gs _ vS), Nat.le_trans gG.bk (by omega), fun yes H10 x s10 nx hx => ?_, fun no H10 s10 => ?_⟩⟩
      · have k10 := keep_same R9.dice s10
        obtain ⟨a10, b10, c10, e10⟩ := k10.2
        refine ⟨_, rfl, k10, ?_⟩
        have yes : holeD gs = true := yes
        unfold optH
        rw [if_pos yes]
        exact .hole (hx.hidden e10)
      · have no : holeD gs = false := no
        refine ⟨_, rfl, keep_same R9.dice s10, ?_⟩
        unfold optH
        rw [if_neg (by rw [no]; decide)]
        exact .no
    rintro σ10 H10 ⟨v, rfl, k10, tv⟩
    have R10 := R9.keep k10
    have qS10 := sq_keep qS k10
    have vS10 := DvAll.same k10.hid gs _ vS
    have tvf : TV K CH H10 v (optH gs) := tv.same hid_out
    -- the list of what is no run
    refine ⟨fun σ' H' => σ' = [some (.ref p), some (.ref t), some (.ref rx), some (.ref ro), some (.ref mx), some (.ref sx), some (.ref l), some (.int (at' : Nat)), some (.ref sb'), some v, none, none, none, none, none] ∧ Keep p H10 H', ?_, ?_⟩
    · refine ⟨_, rfl, _, tvf, rfl, _, rfl, sb', rfl, ⟨ws, sq_hid qS10⟩, fun D nD => lc_it (walk_tup (xs := ws)) (fun m H' => Same H10 H' ∧ ∃ acc, H' D = some (.lst acc) ∧ acc.length ≤ m ∧ acc.isEmpty = (gs.take m).all isRunD) ⟨same_upd nD, [], upd_same, Nat.le_refl _, rfl⟩ (fun _ H' _ hP => same_tup hP.1 (sq_hid qS10)) (fun m x H' H'' hm hP hY => ?_) (fun H' hP => ?_)⟩
      · obtain ⟨s1, acc, hD, al, ae⟩ := hP
        obtain ⟨eH, hx⟩ := hY
        subst H''
        obtain ⟨d1, g1, v1⟩ := vS10.get hx
        have tk : (gs.take (m + 1)).all isRunD = ((gs.take m).all isRunD && isRunD d1) := by
          rw [List.take_succ, g1, List.all_append]
          simp
        have mG := gok d1 (List.mem_of_getElem? g1)
        refine ⟨rfl, _, rfl, x, d1, rfl, (v1.same' hid_out).same' s1, Nat.le_trans mG.1.bk (by omega), mG.2, fun H3 s3 => ⟨_, rfl, ite2 (fun nt => ?_) (fun nt => ?_)⟩⟩
        · have no : isRunD d1 = false := by
            cases y : isRunD d1 with
            | false => rfl
            | true => rw [y] at nt; cases nt
          have mw : m < ws.length := (List.getElem?_eq_some_iff.mp hx).1
          refine ⟨_, rfl, acc, s3 _ _ hD, Nat.lt_trans (show acc.length < 1000 by omega) (small1000 (Nat.le_refl _)), fun y o u => by rw [upd_ne (ne_of_none u nD)]; exact s3 _ _ (s1 _ _ u), _, upd_same, by rw [List.length_append]; exact Nat.succ_le_succ al, ?_⟩
          rw [tk, no, Bool.and_false]
          cases acc <;> rfl
        · have yes : isRunD d1 = true := by
            cases y : isRunD d1 with
            | true => rfl
            | false => rw [y] at nt; exact absurd rfl nt
          refine ⟨s1.trans s3, acc, s3 _ _ hD, Nat.le_succ_of_le al, ?_⟩
          rw [tk, yes, Bool.and_true]
          exact ae
      · obtain ⟨s1, acc, hD, al, ae⟩ := hP
        have ae : acc.isEmpty = gs.all isRunD := by
          rw [ae, List.take_of_length_le (by omega)]
        refine ⟨by show 0 ≤ sizeLine; omega, fun l2 nl2 => ⟨D, l2, acc, rfl, rfl, .of (by rw [upd_ne (ne_of_none hD nl2)]; exact hD), .of upd_same, rfl, _, rfl, ?_⟩⟩
        have ee : (optH gs).isSome = id acc.isEmpty := by
          rw [optH_some, hG, ← ae]
          rfl
        have kk : Keep p H10 (upd H' l2 (.lst [])) := keep_same R10.dice (s1.trans (same_upd nl2))
        exact ite2 (fun z => absurd z (by rw [show (if true = true then (optH gs).isSome else (optH gs).isNone) = (optH gs).isSome from rfl, ee, decide_eq_true rfl]; decide)) (fun _ => ⟨rfl, kk⟩)
    rintro σ11 H11 ⟨rfl, k11⟩
    have R11 := R10.keep k11
    have tv11 : TV K CH H11 v (optH gs) := (tv.same k11.hid).same hid_out
    -- told.runs
    refine ⟨fun σ' H' => σ' = [some (.ref p), some (.ref t), some (.ref rx), some (.ref ro), some (.ref mx), some (.ref sx), some (.ref l), some (.int (at' : Nat)), some (.ref sb'), some v, none, none, none, none, none] ∧ H' = H11, ?_, ?_⟩
    · refine ⟨_, rfl, _, tv11, rfl, _, rfl, ite2 (fun z => ?_) (fun _ => ite2 (fun z => by cases z) (fun _ => ⟨rfl, rfl⟩))⟩
      have z : holeD gs = true := by rw [← optH_some]; exact z
      have eo : optH gs = some gs := if_pos z
      rw [eo] at tv11
      cases tv11 with
      | hole hx =>
        rename_i x
        obtain ⟨dx, fs, hi⟩ := hx.ins
        have qS11 := sq_keep qS10 k11
        have vS11 := DvAll.same k11.hid gs _ vS10
        refine ⟨_, rfl, x, dx, fs, rfl, hi, x, gs, rfl, hx, fun pp xs hT' hA => ⟨_, .tuple gs, rfl, .tup hT' hA, fitG, _, rfl, _, .tuple gs, rfl, .tup (sq_hid qS11) (DvAll.same hid_out gs _ vS11), fitG, rfl, _, rfl, ?_⟩⟩
        rw [decide_eq_true (rfl : V.str (PyData.tuple gs).shown = V.str (PyData.tuple gs).shown)]
        exact ite2 (fun z => by cases z) (fun _ => ⟨rfl, rfl⟩)
    rintro σ12 H12 ⟨rfl, rfl⟩
    -- what is no hole
    have hv00 : ∃ v0, vs[0]? = some v0 := ⟨_, List.getElem?_eq_getElem (by omega)⟩
    obtain ⟨v0, hv0'⟩ := hv00
    obtain ⟨d0, hd0, _⟩ := R11.rdv.get hv0'
    have rd0 : isRunD d0 = true := List.all_eq_true.mp (hole_runs hR) d0 (List.mem_of_getElem? hd0)
    refine ⟨fun σ' H' => σ' = [some (.ref p), some (.ref t), some (.ref rx), some (.ref ro), some (.ref mx), some (.ref sx), some (.ref l), some (.int (at' : Nat)), some (.ref sb'), some v, none, none, none, none, none] ∧ Keep p H12 H', ?_, ?_⟩
    · have W : Dv K (hid p H12) (.ref rx) (.tuple ds) := .tup R11.runs R11.rdv
      have ll : ds.length ≤ 1000 := by omega
      refine one_lstM (ds := dsM ds d0) (m := .ref mx) (B := hid p H12) (evm_cons (evb_tup evb_nil (by decide)) (evm_cons (evb_list (evb_cons (evb_var rfl W) evb_nil)) (evm_cons (evb_ix (j := 0) (evb_var rfl W) hd0 (fun n hn => ?_)) (evm_cons (evb1 ev_non)
        (evm_cons (evb_tup (evb_cons (evb_var rfl W) evb_nil) (by show 1 ≤ 1000; decide)) (evm_cons (evb_rep (n := 5) (evb_var rfl W) ne0 ll (by decide) (by decide)) (evm_cons (evb1 ev_str) (evm_last rfl)))))))) rfl (by show 7 < 1000; decide) R11.dice (Same.refl _) (fun x H' d hd k13 vd => ?_) (fun H' k13 => ?_)
      · unfold ixN
        rw [if_pos (by decide), if_pos (by omega)]
        rfl
      · obtain ⟨sz, nh⟩ := dsM_ok hR rd0 hd
        refine .inl ⟨x, d, rfl, vd.same' hid_out, sz, fun yes => absurd (nh.symm.trans yes) (by decide), fun _ H'' s' => ⟨none, .no, rfl, _, rfl, ite2 (fun z => by cases z) (fun _ => ⟨rfl, k13.trans (keep_same k13.2 s')⟩)⟩⟩
      · exact .inr ⟨mx, ds, rfl, (R11.keep k13).made.shown, fun H'' s' => ⟨none, .no, rfl, _, rfl, ite2 (fun z => by cases z) (fun _ => ⟨rfl, k13.trans (keep_same k13.2 s')⟩)⟩⟩
    rintro σ13 H13 ⟨rfl, k13⟩
    have R13 := R11.keep k13
    -- one, two
    refine ⟨fun σ' H' => ∃ x u e2 d2, σ' = [some (.ref p), some (.ref t), some (.ref rx), some (.ref ro), some (.ref mx), some (.ref sx), some (.ref l), some (.int (at' : Nat)), some (.ref sb'), some v, some x, some u, none, none, none] ∧ Keep p H13 H' ∧ Dv K (hid p H') x e2 ∧ SpOk e2 ∧ Dv K (hid p H') u d2 ∧ isRunD d2 = true, ?_, ?_⟩
    · obtain ⟨a13, b13, c13, e13⟩ := R13.dice
      have hv0 := hv0'
      obtain ⟨dz, hdz, vdz⟩ := R13.rdv.get hv0
      have ez : dz = d0 := Option.some.inj (hdz.symm.trans hd0)
      subst ez
      refine ⟨_, rfl, _, rfl, rx, vs, _, v0, rfl, rfl, sq_hid R13.runs, atI_nat (j := 0) hv0, p, a13, b13, c13, v0, dz, rfl, e13, vdz, rd0, fun H14 x e2 k14 vx ok2 => ?_⟩
      have R14 := R13.keep k14
      obtain ⟨vl, dl, hvl, ml, vdl⟩ := DvAll.last R14.rdv ne0
      refine ⟨_, rfl, 1, rfl, rx, vs, _, vl, rfl, rfl, sq_hid R14.runs, atI_end hvl, by show 2 ≤ sizeLine; decide, fun tt nt => ?_⟩
      have k15 := keep_new (o := .tup [x, vl]) R14.dice nt
      exact ⟨tt, _, rfl, .of upd_same, rfl, x, _, rfl, vl, _, rfl, rfl, x, vl, e2, dl, rfl, k14.trans k15, vx.same' k15.hid, ok2, vdl.same' k15.hid, List.all_eq_true.mp (hole_runs hR) dl ml⟩
    rintro σ14 H14 ⟨x, u, e2, d2, rfl, k14, vx, ok2, vu, rd2⟩
    have D14 := k14.2
    -- due
    refine ⟨fun σ' H' => ∃ l2, σ' = [some (.ref p), some (.ref t), some (.ref rx), some (.ref ro), some (.ref mx), some (.ref sx), some (.ref l), some (.int (at' : Nat)), some (.ref sb'), some v, some x, some u, some (.ref l2), none, none] ∧ Same H14 H' ∧ H' l2 = some (.lst [.str "no hole", .str "no hole"]), ?_, ?_⟩
    · exact ⟨by show 1 ≤ sizeLine; decide, fun l0 n0 => ⟨l0, 2, _, rfl, rfl, upd_same, by decide, by decide, by show 2 ≤ sizeLine; decide, fun l2 n2 => ⟨l2, rfl, (same_upd n0).trans (same_upd n2), upd_same⟩⟩⟩
    rintro σ15 H15 ⟨l2, rfl, s15, e15⟩
    have k15 := keep_same D14 s15
    have vx15 := vx.same' k15.hid
    have vu15 := vu.same' k15.hid
    have bx := ok2.g.bk
    have bu := (gd_run rd2).bk
    -- due of runs
    refine ⟨fun σ' H' => ∃ l3 ys, σ' = [some (.ref p), some (.ref t), some (.ref rx), some (.ref ro), some (.ref mx), some (.ref sx), some (.ref l), some (.int (at' : Nat)), some (.ref sb'), some v, some x, some u, some (.ref l3), none, none] ∧ Same H15 H' ∧ H' l3 = some (.lst ys) ∧ TVs K CH H' ys [aloneO e2 d2 0, aloneO e2 d2 1], ?_, ?_⟩
    · refine ⟨_, rfl, x, e2, rfl, vx15.same' hid_out, by omega, ok2.s, fun H16 s16 => ⟨_, rfl, ite2 (fun yes => ?_) (fun no => ?_)⟩⟩
      · have vx16 := (vx15.same' hid_out).same' s16
        have vu16 := (vu15.same' hid_out).same' s16
        have h1 : holeD [e2] = true := (hole1 e2).trans yes
        have h2 : holeD [e2, d2] = true := (hole2 rd2).trans yes
        refine ⟨rfl, _, rfl, by show 1 ≤ sizeLine; decide, fun t1 nt1 => ⟨_, .tuple [e2], rfl, .tup (.of upd_same) (.cons (vx16.same' (same_upd nt1)) .nil), ?_, fun _ H17 y1 s17 ny1 hy1 => ?_, fun no => absurd (h1.symm.trans no) (by decide)⟩⟩
        · rw [PyData.bulk, PyData.bulkAll, PyData.bulkAll]
          omega
        have s17' := (same_upd (o := .tup [x]) nt1).trans s17
        refine ⟨rfl, _, rfl, _, rfl, by show 2 ≤ sizeLine; decide, fun t2 nt2 => ⟨_, .tuple [e2, d2], rfl, .tup (.of upd_same) (.cons ((vx16.same' s17').same' (same_upd nt2)) (.cons ((vu16.same' s17').same' (same_upd nt2)) .nil)), ?_, fun _ H18 y2 s18 ny2 hy2 => ?_, fun no => absurd (h2.symm.trans no) (by decide)⟩⟩
        · rw [PyData.bulk, PyData.bulkAll, PyData.bulkAll, PyData.bulkAll]
          omega
        have s18' := (same_upd (o := .tup [x, u]) nt2).trans s18
        refine ⟨by show 2 ≤ sizeLine; decide, fun l3 n3 => ⟨l3, _, rfl, ((s16.trans s17').trans s18').trans (same_upd n3), upd_same, ?_⟩⟩
        have a0 : aloneO e2 d2 0 = some [e2] := by rw [alone0]; exact if_pos yes
        have a1 : aloneO e2 d2 1 = some [e2, d2] := by rw [alone1 rd2]; exact if_pos yes
        rw [a0, a1]
        exact .cons (.hole ((hy1.same s18').same (same_upd n3))) (.cons (.hole (hy2.same (same_upd n3))) .nil)
      · refine ⟨l2, _, rfl, s16, s16 _ _ e15, ?_⟩
        have a0 : aloneO e2 d2 0 = none := by rw [alone0]; exact if_neg no
        have a1 : aloneO e2 d2 1 = none := by rw [alone1 rd2]; exact if_neg no
        rw [a0, a1]
        exact .cons .no (.cons .no .nil)
    rintro σ16 H16 ⟨l3, ys, rfl, s16, e16, tys⟩
    have lys : ys.length = 2 := tys.length
    have vx16 := (vx15.same' hid_out).same' s16
    have vu16 := (vu15.same' hid_out).same' s16
    have k16 : Keep p H H16 := ((((((((((k3.trans k5).trans k6).trans k7).trans k8).trans k9).trans k10).trans k11).trans k13).trans k14).trans k15).trans (keep_same k15.2 s16)
    -- the end
    refine ⟨4, rfl, by decide, by decide, fun D nD => lc_range (lo := 0) (n := 4) (fun m H' => Same H16 H' ∧ ∃ zs, H' D = some (.lst zs) ∧ TVs K CH (hid D H') zs ((List.range m).map (aloneO e2 d2))) ⟨same_upd nD, [], upd_same, .nil⟩ (fun m H' hm hP => ?_) (fun H' hP => ?_)⟩
    · obtain ⟨s1, zs, hD, tz⟩ := hP
      have lz : zs.length = m := by rw [tz.length, List.length_map, List.length_range]
      have fin : ∀ H3 y, Same H' H3 → TV K CH H3 y (aloneO e2 d2 m) → ∃ acc, H3 D = some (.lst acc) ∧ acc.length < sizeLine ∧ (Same H16 (upd H3 D (.lst (acc ++ [y]))) ∧ ∃ zs, upd H3 D (.lst (acc ++ [y])) D = some (.lst zs) ∧ TVs K CH (hid D (upd H3 D (.lst (acc ++ [y])))) zs ((List.range (m + 1)).map (aloneO e2 d2))) := fun H3 y s3 ty => by
        refine ⟨zs, s3 _ _ hD, by rw [lz]; exact small1000 (by omega), fun b o z => ?_, zs ++ [y], upd_same, ?_⟩
        · rw [upd_ne (ne_of_none z nD)]
          exact s3 _ _ (s1 _ _ z)
        · rw [List.range_succ, List.map_append, upd_hid_self]
          exact TVs.append (.cons (ty.hid (s3 _ _ hD)) .nil) (tz.same (hid_same fun b o _ z => s3 b o z))
      refine ⟨rfl, _, rfl, _, rfl, _, rfl, m, x, u, e2, d2, by rw [Int.zero_add]; rfl, vx16.same' s1, vu16.same' s1, by omega, by omega, fun yes H3 y s3 ny hy => fin H3 _ s3 ?_, fun no H3 s3 => fin H3 _ s3 ?_⟩
      · have e : aloneO e2 d2 m = some (aloneD m e2 d2) := if_pos yes
        rw [e]
        exact .hole hy
      · have e : aloneO e2 d2 m = none := if_neg (by rw [no]; decide)
        rw [e]
        exact .no
    · obtain ⟨s1, zs, hD, tz⟩ := hP
      have l3D : l3 ≠ D := ne_of_none e16 nD
      refine ⟨_, rfl, by show 1 ≤ sizeLine; decide, fun l4 n4 => ⟨l4, 2, _, rfl, rfl, upd_same, by decide, by decide, by show 2 ≤ sizeLine; decide, fun l5 n5 => ⟨l3, l5, ys, [.str "no hole", .str "no hole"], rfl, rfl, same_upd n5 _ _ (same_upd n4 _ _ (s1 _ _ e16)), upd_same, by rw [lys]; show 4 ≤ sizeLine; decide, fun l6 n6 => ?_⟩⟩⟩
      have s6 := ((same_upd (o := .lst [.str "no hole"]) n4).trans (same_upd (o := .lst [.str "no hole", .str "no hole"]) n5)).trans (same_upd (o := .lst (ys ++ [.str "no hole", .str "no hole"])) n6)
      refine ⟨⟨D, l6, zs, ys ++ [.str "no hole", .str "no hole"], rfl, rfl, s6 _ _ hD, upd_same, TVs.prs (os := (List.range 4).map (aloneO e2 d2)) ((tz.same hid_out).same s6) ?_⟩, fun H' ex => q H' (k16.trans (keep_same (keep_same k15.2 s16).2 ((s1.trans s6).trans ex)))⟩
      exact TVs.append (.cons .no (.cons .no .nil)) ((tys.same s1).same s6)
end
end K0
end
/-! ### RL -/
section
set_option Elab.async false
set_option linter.all false
set_option maxRecDepth 100000
set_option maxHeartbeats 4000000
/-! The law of k02. -/
namespace K0
open PySem PySem.Spec PyProof.Rows L2 Rd DN StX OE TR
section
variable {K : PySem.W.Frag} {σ : L2.St}
def Ec1 (K : PySem.W.Frag) (σ : L2.St) (te : TE) (d : PyData) : Prop := ∀ H Q, (∀ x H', Same H H' → Dv K H' x d → Q x H') → te σ H Q
def EcN (K : PySem.W.Frag) (σ : L2.St) (ta : TA) (ds : List PyData) : Prop := ∀ H Q, (∀ xs H', Same H H' → DvAll K H' xs ds → Q xs H') → ta σ H Q
theorem ec_non : Ec1 K σ (tC .non) .none := fun H Q q => q _ H (Same.refl H) .non
theorem ec_int {i : Int} : Ec1 K σ (tC (.int i)) (.int i) := fun H Q q => q _ H (Same.refl H) (.int i)
theorem ec_str {z : Str} : Ec1 K σ (tC (.str z)) (.str z) := fun H Q q => q _ H (Same.refl H) (.str z)
theorem ec_nil : EcN K σ tNil [] := fun H Q q => q _ H (Same.refl H) .nil
theorem ec_cons {te : TE} {ta : TA} {d : PyData} {ds : List PyData} (h : Ec1 K σ te d) (g : EcN K σ ta ds) : EcN K σ (tCons te ta) (d :: ds) := fun H Q q =>
  h H _ fun x H1 e1 v1 => g H1 _ fun xs H2 e2 v2 => q _ H2 (e1.trans e2) (.cons (v1.same' e2) v2)
theorem ec_tup {ta : TA} {ds : List PyData} (g : EcN K σ ta ds) (hl : ds.length ≤ 1000) : Ec1 K σ (tTup ta) (.tuple ds) := fun H Q q =>
  g H _ fun xs H1 e1 v1 => ⟨by rw [v1.length]; exact Nat.le_of_lt (small1000 hl), fun a na => q _ _ (e1.trans (same_upd na)) (.tup (xs := xs) (.of upd_same) (DvAll.same (same_upd na) ds _ v1))⟩
end
def r01 : PyData := .tuple [.tuple [.str "0", .str "1"], .int 1, .int 2]
def rA : PyData := .tuple [.tuple [.str "a"], .int 0, .none]
def rA1 : PyData := .tuple [.tuple [.str "a"], .int 0, .int 1]
def rA2 : PyData := .tuple [.tuple [.str "a"], .int 0, .int 2]
theorem ho2 : holeD [r01, rA] = true := by decide +kernel
theorem ho2' : holeD [rA, r01] = true := by decide +kernel
theorem hoA1 : holeD [rA1, rA1] = true := by decide +kernel
theorem hoA2 : holeD [rA2] = true := by decide +kernel
theorem hoA : holeD [rA] = true := by decide +kernel
theorem eq_ho : eqH [r01, rA] (some [r01, rA]) = true := by decide +kernel
theorem ne_ho : eqH [r01, rA] (some [rA, r01]) = false := by decide +kernel
theorem ne_hoA : eqH [rA1, rA1] (some [rA2]) = false := by decide +kernel
def toldD : PyData := .list [.tuple [r01, rA], .int 2, .str "hole of 2 runs", .bool true, .bool false]
theorem told_shaped : SeqAt.shaped toldD = true := by decide +kernel
theorem told_eqv : PyData.eqv toldD toldD = true := by decide +kernel
theorem str2 : strH 2 = "hole of 2 runs" := by decide +kernel
theorem make_hole2 {K : PySem.W.Frag} {CH CE : Addr} {H : Hp} {xs : List V} {ds : List PyData} {G : Addr → Hp → Prop} {E : XK} (hA : DvAll K H xs ds) (sz2 : PyData.bulkAll ds ≤ 100000) (good : holeD ds = true → ∀ H' x, Same H H' → H x = none → HoleAt K CH H' x ds → G x H')
    (bad : holeD ds = false → ∀ H', Same H H' → E (.ref CE) none H') : ∀ x dx, H x = Option.none → H dx = Option.none → dx ≠ x → spInit2 K CH CE (V.ref x :: xs) (upd (upd H dx (.own x)) x (.ins CH dx [])) (fun v H2 => v = .non ∧ G x H2) E :=
  make_hole (Q := fun v H' => match v with | .ref x => G x H' | _ => False) hA sz2 good bad
theorem rd_make {K : PySem.W.Frag} {CH CE : Addr} {σ : L2.St} {H : Hp} {Q : VK} {ta : TA} {ds : List PyData} (ev : EcN K σ ta ds) (sz : PyData.bulkAll ds ≤ 100000) (ok : holeD ds = true) (good : ∀ H' x, Same H H' → HoleAt K CH H' x ds → Q (.ref x) H') :
    tMakeR CH (spInit2 K CH CE) (fun _ _ _ => False) ta σ H Q :=
  ev H _ fun xs H1 s1 v1 => make_hole v1 sz (fun _ H' x s' _ hx => good H' x (s1.trans s') hx) (fun no => absurd (ok.symm.trans no) (by decide))
abbrev lawN : List Str := ["script", "at", "dice", "turn", "one", "two", "code", "told"]
theorem scLaw : FnScope lawN ["script"] (defScope (top iLaw)) := ⟨rfl, rfl, rfl, by decide +kernel, rfl, by decide +kernel, by decide +kernel⟩
def spLaw (K : PySem.W.Frag) : Sp := fun vs H Q _ => ∃ (p : Addr) (ns : List Int), vs = [.ref p] ∧ SqL K H p (ns.map V.int) ∧ ∀ H', Q (.bl true) H'
section
variable {P : Program} {w : World} {K : PySem.W.Frag} {mg : Str → Option Value} {base : Heap} {f CH CE pO gO pR gR gE gL gS fN : Addr} {mc : Value} {fd fdO fdR fdE fdD fdRi : FuncData} {fD fRi : Addr}
theorem ok_law {n : Nat} (F : FnP K "law" iLaw f fd) (mlen : mg "len" = none) (mstr : mg "str" = none) (mrange : mg "range" = none) (mmax : mg "max" = none) (mmin : mg "min" = none)
    (T : HoleM K CH) (O : OEq K CH gE) (N : ∀ d : PyData, PySem.W.notFirst K CH (.type (dty d)) = true)
    (FE : FnOk P w K mg base CX0 (n + 1) gE fdE ["self", "other"] (spHEq K CH)) (bE : Binds K fdE ["self", "other"] [])
    (PR : PropOf K CH "runs" pR gR) (FRu : FnOk P w K mg base CX0 (n + 1) gR fdR ["self"] (spHRuns K CH)) (bRu : Binds K fdR ["self"] [])
    (hLen : PySem.W.findIn K (.ref CH) "__len__" = some (some (.ref gL))) (fLen : PySem.W.isFn K (.ref gL) = true) (FL : FnR P w K mg base CX0 (n + 1) gL (spHLen2 K CH))
    (hStr : PySem.W.findIn K (.ref CH) "__str__" = some (some (.ref gS))) (fStr : PySem.W.isFn K (.ref gS) = true) (FS : FnR P w K mg base CX0 (n + 1) gS (spHStr2 K CH))
    (gH : mg "Hole" = some (.ref CH)) (rd : ClX.CRead K CH mc) (cm : ClX.CMet K CH mc "of" pO gO) (FOf : FnOk P w K mg base (L2.CX P w) (n + 6) gO fdO ["cls", "runs"] (spOf K CH CE)) (bO : Binds K fdO ["cls", "runs"] [])
    (M : Mk K CH fN) (FN : FnR P w K mg base (L2.CX P w) (n + 4) fN (spInit2 K CH CE))
    (FD : FnOk P w K mg base CX0 (n + 8) fD fdD ["script", "at"] (spDice K)) (gD : mg "_law_dice" = some (.ref fD)) (kD : PySem.W.keepIn K (.ref fD) = true) (bD : Binds K fdD ["script", "at"] [])
    (FRi : FnG P w K mg base CX0 (n + 8) fRi fdRi ["dice"] spRight) (gRi : mg "_law_right" = some (.ref fRi)) (kRi : PySem.W.keepIn K (.ref fRi) = true) (bRi : Binds K fdRi ["dice"] []) :
    FnG P w K mg base CX0 (n + 9) f fd ["script"] (spLaw K) := by
  refine fnG_ofC F scLaw (fun vs H Q E h => ?_) (fun cdv _ A outer s H vs Q E gd hr h => ?_)
  · obtain ⟨p, ns, rfl, _⟩ := h
    rfl
  · obtain ⟨p, ns, rfl, hS, q⟩ := h
    have hr1 := hr.mono (show n + 1 ≤ n + 8 by omega)
    have hr2 := hr.mono (show n + 2 ≤ n + 8 by omega)
    have hr3 := hr.mono (show n + 3 ≤ n + 8 by omega)
    have hr5 := hr.mono (show n + 5 ≤ n + 8 by omega)
    have hr6 := hr.mono (show n + 6 ≤ n + 8 by omega)
    have FEr : FnR P w K mg base CX0 (n + 1) gE (spHEq2 K CH) := FE.raw bE .nil
    refine ⟨_, PSs.nox (C8.pss_cut (ps_for PassesOwn.never rfl (pi_range1 (by rfl) mrange (pa_cons (pe_callB (call_max2 rfl) (by rfl) mmax boot_max (pa_cons pe_int (pa_cons (pe_callB (call_min2 rfl) (by rfl) mmin boot_min (pa_cons pe_int (pa_cons (pe_callB call_len_seq (by rfl) mlen PySem.boot_len (pa_cons (pv 0) pa_nil)) pa_nil))) pa_nil))) pa_nil)) (pg_name (i := 1) scLaw.nd rfl (.inl rfl))
        (pss_cons (ps_set (i := 2) scLaw.nd rfl (.inl rfl) (pe_call FD hr (by rfl) gD kD bD .nil pass0 (pa_cons (pv 0) (pa_cons (pv 1) pa_nil))))
        (pss_one (ps_for PassesOwn.never rfl (pi_range1 (by rfl) mrange (pa_cons pe_int pa_nil)) (pg_name (i := 3) scLaw.nd rfl (.inl rfl))
          (pss_one (ps_if (pt_not (pt_val (peG FRi gd hr (by rfl) gRi kRi bRi pass0 (pa_cons (pv 2) pa_nil)))) (pss_one (ps_ret pe_bl)) pss_nil))))))
      (C8.pss_cut (ps_asg (pe_tup (pa_cons (pe_tup (pa_cons (pe_tup (pa_cons pe_str (pa_cons pe_str pa_nil))) (pa_cons pe_int (pa_cons pe_int pa_nil)))) (pa_cons (pe_tup (pa_cons (pe_tup (pa_cons pe_str pa_nil)) (pa_cons pe_int (pa_cons pe_non pa_nil)))) pa_nil))) (pg_tup rfl (pgs_cons (pg_name (i := 4) scLaw.nd rfl (.inl rfl)) (pgs_cons (pg_name (i := 5) scLaw.nd rfl (.inl rfl)) pgs_nil))))
      (C8.pss_cut (ps_set (i := 6) scLaw.nd rfl (.inl rfl) (pe_makeR (E := fun _ _ _ => False) M FN hr5 (by rfl) gH (passes_call takes0 fun _ _ _ _ z => z) (pa_cons (pv 4) (pa_cons (pv 5) pa_nil))))
      (C8.pss_cut (ps_set (i := 7) scLaw.nd rfl (.inl rfl) (pe_lst (pa_cons (pe_prop (pv 6) T.cl PR FRu hr2 bRu .nil pass0 (by rfl)) (pa_cons (pe_callB (call_lenO hLen fLen FL hr3 pass0) (by rfl) mlen PySem.boot_len (pa_cons (pv 6) pa_nil)) (pa_cons (pe_callTy (call_strO hStr fStr FS hr3 pass0) (by rfl) mstr (by decide +kernel) (pa_cons (pv 6) pa_nil))
          (pa_cons (pe_cmpR (op_holeEq T O N FEr hr1) (pv 6) (ClX.pe_cmeth (E := fun _ _ _ => False) (pe_glob (v := .ref CH) (by rfl) gH rfl) rd cm (FOf.raw bO .nil) hr6 (passes_call takes0 fun _ _ _ _ z => z) (pa_cons (pe_tup (pa_cons (pv 4) (pa_cons (pv 5) pa_nil))) pa_nil)) (nomark _))
          (pa_cons (pe_cmpR (op_holeEq T O N FEr hr1) (pv 6) (pe_makeR (E := fun _ _ _ => False) M FN hr5 (by rfl) gH (passes_call takes0 fun _ _ _ _ z => z) (pa_cons (pv 5) (pa_cons (pv 4) pa_nil))) (nomark _)) pa_nil)))))))
      (C8.pss_cut (ps_if (pt_cmpR (op_neD hr.units) (pv 7) (pe_lst (pa_cons (pe_tup (pa_cons (pv 4) (pa_cons (pv 5) pa_nil))) (pa_cons pe_int (pa_cons pe_str (pa_cons pe_bl (pa_cons pe_bl pa_nil)))))) (nomark _)) (pss_one (ps_ret pe_bl)) pss_nil)
      (pss_one (ps_ret (pe_and (pe_cmpR (op_holeNe T O N FEr hr2) (pe_makeR (E := fun _ _ _ => False) M FN hr5 (by rfl) gH (passes_call takes0 fun _ _ _ _ z => z) (pa_cons (pe_tup (pa_cons (pe_tup (pa_cons pe_str pa_nil)) (pa_cons pe_int (pa_cons pe_int pa_nil)))) (pa_cons (pe_tup (pa_cons (pe_tup (pa_cons pe_str pa_nil)) (pa_cons pe_int (pa_cons pe_int pa_nil)))) pa_nil)))
          (pe_makeR (E := fun _ _ _ => False) M FN hr5 (by rfl) gH (passes_call takes0 fun _ _ _ _ z => z) (pa_cons (pe_tup (pa_cons (pe_tup (pa_cons pe_str pa_nil)) (pa_cons pe_int (pa_cons pe_int pa_nil)))) pa_nil)) (nomark _))
        (pe_one (pe_cmpR (op_holeNe T O N FEr hr2) (ClX.pe_cmeth (E := fun _ _ _ => False) (pe_glob (v := .ref CH) (by rfl) gH rfl) rd cm (FOf.raw bO .nil) hr6 (passes_call takes0 fun _ _ _ _ z => z) (pa_cons (pe_tup (pa_cons (pv 5) pa_nil)) pa_nil)) (pe_tup (pa_cons (pv 5) pa_nil)) (nomark _))))))))))), ?_⟩
    refine ⟨fun σ' H' => ∃ a1 a2 a3, σ' = [some (.ref p), a1, a2, a3, none, none, none, none], ?_, ?_⟩
    · refine ⟨_, rfl, p, _, rfl, .inl hS, _, _, rfl, _, _, rfl, ?_⟩
      have bd : ∀ m : Int, -(2 ^ 62) ≤ (if (if m < 6 then m else 6) > 1 then (if m < 6 then m else 6) else 1) ∧ (if (if m < 6 then m else 6) > 1 then (if m < 6 then m else 6) else 1) < (2 : Int) ^ 62 := fun m => by
        have e2 : (2 : Int) ^ 62 = 4611686018427387904 := by decide
        split <;> (try split) <;> omega
      refine ⟨_, rfl, (bd _).1, (bd _).2, for_range (lo := 0) (fun i σ' H' => ∃ a1 a2 a3, σ' = [some (.ref p), a1, a2, a3, none, none, none, none] ∧ Same H H') ⟨_, _, _, rfl, Same.refl _⟩ (fun i σ' H' hi hP => ?_) (fun σ' H' hP => ?_)⟩
      · obtain ⟨a1, a2, a3, rfl, s1⟩ := hP
        refine ⟨_, rfl, _, rfl, p, ns, i, by rw [Int.zero_add]; rfl, s1.seq hS, fun d x y z nd => ?_⟩
        refine ⟨3, rfl, by decide, by decide, for_range (lo := 0) (n := 3) (fun j σ' H'' => ∃ t, σ' = [some (.ref p), some (.int (0 + (i : Int))), some (.ref d), t, none, none, none, none] ∧ Keep d (upd H' d (dk x y z)) H'') ⟨_, rfl, Keep.refl upd_same⟩ (fun j σ'' H'' hj hP2 => ?_) (fun σ'' H'' hP2 => ?_)⟩
        · obtain ⟨t, rfl, k2⟩ := hP2
          obtain ⟨x2, y2, z2, e2⟩ := k2.2
          exact ⟨_, rfl, d, x2, y2, z2, rfl, e2, fun H3 k3 => ⟨true, rfl, ite2 (fun e => by cases e) (fun _ => ⟨_, rfl, k2.trans k3⟩)⟩⟩
        · obtain ⟨t, rfl, k2⟩ := hP2
          exact ⟨_, _, _, rfl, fun b o e => k2.1 b o (ne_of_none (s1 _ _ e) nd) (same_upd nd _ _ (s1 _ _ e))⟩
      · obtain ⟨a1, a2, a3, rfl, _⟩ := hP
        exact ⟨_, _, _, rfl⟩
    rintro σ1 H1 ⟨a1, a2, a3, rfl⟩
    -- one, two
    refine ⟨fun σ' H' => ∃ v1 v2, σ' = [some (.ref p), a1, a2, a3, some v1, some v2, none, none] ∧ Dv K H' v1 r01 ∧ Dv K H' v2 rA, ?_, ?_⟩
    · refine ec_tup (K := K) (ec_cons (ec_tup (ec_cons (ec_tup (ec_cons ec_str (ec_cons ec_str ec_nil)) (by decide)) (ec_cons ec_int (ec_cons ec_int ec_nil))) (Nat.le_of_ble_eq_true rfl)) (ec_cons (ec_tup (ec_cons (ec_tup (ec_cons ec_str ec_nil) (Nat.le_of_ble_eq_true rfl)) (ec_cons ec_int (ec_cons ec_non ec_nil))) (Nat.le_of_ble_eq_true rfl)) ec_nil)) (by decide) H1 _ fun x H2 s2 vx => ?_
      cases vx with
      | tup hT hA =>
        cases hA with
        | cons w1 hA =>
        cases hA with
        | cons w2 hA =>
        cases hA
        exact ⟨_, _, rfl, hT, rfl, _, _, rfl, _, _, rfl, rfl, _, _, rfl, w1, w2⟩
    rintro σ2 H2 ⟨v1, v2, rfl, w1, w2⟩
    have tup2 : ∀ {H' : Hp} {t : Addr}, Same H2 H' → H' t = none → Dv K (upd H' t (.tup [v1, v2])) (.ref t) (.tuple [r01, rA]) := fun s' nt => .tup (.of upd_same) (.cons ((w1.same' s').same' (same_upd nt)) (.cons ((w2.same' s').same' (same_upd nt)) .nil))
    -- code
    refine ⟨fun σ' H' => ∃ x, σ' = [some (.ref p), a1, a2, a3, some v1, some v2, some (.ref x), none] ∧ Same H2 H' ∧ HoleAt K CH H' x [r01, rA], ?_, ?_⟩
    · refine ⟨_, rfl, _, rfl, ?_⟩
      dsimp only [tNil]
      exact make_hole2 (ds := [r01, rA]) (.cons w1 (.cons w2 .nil)) (by decide +kernel) (fun _ H' x s' nx hx => ⟨x, rfl, s', hx⟩) (fun no => absurd (ho2.symm.trans no) (by decide))
    rintro σ3 H3 ⟨x, rfl, s3, hx⟩
    -- told
    refine ⟨fun σ' H' => ∃ l pp xs, σ' = [some (.ref p), a1, a2, a3, some v1, some v2, some (.ref x), some (.ref l)] ∧ Same H3 H' ∧ H' l = some (.lst [.ref pp, .int 2, .str (strH 2), .bl true, .bl false]) ∧ SqT K H' pp xs ∧ DvAll K H' xs [r01, rA], ?_, ?_⟩
    · obtain ⟨dx, fs, hi⟩ := hx.ins
      refine ⟨_, rfl, x, dx, fs, rfl, hi, x, _, rfl, hx, fun pp xs hT hA => ?_⟩
      refine ⟨_, rfl, x, dx, fs, rfl, hi, x, _, rfl, hx, 2, rfl, by decide, by decide, ?_⟩
      refine ⟨_, rfl, x, dx, fs, rfl, hi, x, _, rfl, hx, strH 2, rfl, ?_⟩
      refine ⟨_, rfl, rfl, _, rfl, _, rfl, by show 2 ≤ sizeLine; decide, fun t1 nt1 => ⟨_, .tuple [r01, rA], rfl, tup2 s3 nt1, by decide +kernel, fun _ H4 y s4 ny hy => ?_, fun no => absurd (ho2.symm.trans no) (by decide)⟩⟩
      have s34 := (same_upd (o := .tup [v1, v2]) nt1).trans s4
      refine ⟨x, _, some [r01, rA], rfl, hx.same s34, .hole hy, ?_⟩
      refine ⟨_, rfl, _, rfl, _, rfl, ?_⟩
      dsimp only [tNil]
      refine make_hole2 (ds := [rA, r01]) (.cons ((w2.same' s3).same' s34) (.cons ((w1.same' s3).same' s34) .nil)) (by decide +kernel) (fun _ H5 z s5 nz hz => ?_) (fun no => absurd (ho2'.symm.trans no) (by decide))
      refine ⟨x, _, some [rA, r01], rfl, (hx.same s34).same s5, .hole hz, by show 5 ≤ sizeLine; decide, fun l nl => ⟨l, pp, xs, rfl, (s34.trans s5).trans (same_upd nl), ?_, same_tup ((s34.trans s5).trans (same_upd nl)) hT, DvAll.same ((s34.trans s5).trans (same_upd nl)) _ _ hA⟩⟩
      rw [upd_same]
      show some (HO.lst [_, _, _, V.bl (eqH [r01, rA] (some [r01, rA])), V.bl (eqH [r01, rA] (some [rA, r01]))]) = _
      rw [eq_ho, ne_ho]
    rintro σ4 H4 ⟨l, pp, xs, rfl, s4, e4, qT, qA⟩
    -- told != ..
    refine ⟨fun σ' H' => σ' = [some (.ref p), a1, a2, a3, some v1, some v2, some (.ref x), some (.ref l)] ∧ Same H4 H', ?_, ?_⟩
    · refine ⟨_, rfl, _, rfl, _, rfl, by show 2 ≤ sizeLine; decide, fun t nt => ⟨by show 5 ≤ sizeLine; decide, fun m nm => ?_⟩⟩
      have s6 := (same_upd (o := .tup [v1, v2]) nt).trans (same_upd (o := .lst [.ref t, .int 2, .str "hole of 2 runs", .bl true, .bl false]) nm)
      have d1 : DpAll K (upd (upd H4 t (.tup [v1, v2])) m (.lst [.ref t, .int 2, .str "hole of 2 runs", .bl true, .bl false])) xs [r01, rA] := dp_runs (DvAll.same s6 _ _ qA) (hole_runs ho2)
      have d2 : DpAll K (upd (upd H4 t (.tup [v1, v2])) m (.lst [.ref t, .int 2, .str "hole of 2 runs", .bl true, .bl false])) [v1, v2] [r01, rA] := dp_runs (.cons ((w1.same' (s3.trans s4)).same' s6) (.cons ((w2.same' (s3.trans s4)).same' s6) .nil)) (hole_runs ho2)
      rw [str2] at e4
      refine ⟨toldD, toldD, .lst (.of (s6 _ _ e4)) (.cons (.tup (same_tup s6 qT) d1) (.cons (.int _) (.cons (.str _) (.cons (.bl _) (.cons (.bl _) .nil))))), .lst (.of upd_same) (.cons (.tup (.of (same_upd nm _ _ upd_same)) d2) (.cons (.int _) (.cons (.str _) (.cons (.bl _) (.cons (.bl _) .nil))))), told_shaped, told_shaped, _, rfl, ?_⟩
      rw [told_eqv]
      exact ite2 (fun z => by cases z) (fun _ => ⟨rfl, s6⟩)
    rintro σ5 H5 ⟨rfl, s5⟩
    have S5 := (s3.trans s4).trans s5
    -- the last row
    dsimp only [tRet, tAndV, tOp]
    refine rd_make (ds := [rA1, rA1]) (ec_cons (ec_tup (ec_cons (ec_tup (ec_cons ec_str ec_nil) (Nat.le_of_ble_eq_true rfl)) (ec_cons ec_int (ec_cons ec_int ec_nil))) (Nat.le_of_ble_eq_true rfl)) (ec_cons (ec_tup (ec_cons (ec_tup (ec_cons ec_str ec_nil) (Nat.le_of_ble_eq_true rfl)) (ec_cons ec_int (ec_cons ec_int ec_nil))) (Nat.le_of_ble_eq_true rfl)) ec_nil)) (by decide +kernel) hoA1 fun H7 y s7 hy => ?_
    refine rd_make (ds := [rA2]) (ec_cons (ec_tup (ec_cons (ec_tup (ec_cons ec_str ec_nil) (Nat.le_of_ble_eq_true rfl)) (ec_cons ec_int (ec_cons ec_int ec_nil))) (Nat.le_of_ble_eq_true rfl)) ec_nil) (by decide +kernel) hoA2 fun H9 z s9 hz => ?_
    refine ⟨y, _, some [rA2], rfl, hy.same s9, .hole hz, true, by rw [ne_hoA]; rfl, ite2 (fun _ => ?_) (fun z => absurd rfl z)⟩
    have S9 := (S5.trans s7).trans s9
    refine ⟨rfl, _, rfl, by show 1 ≤ sizeLine; decide, fun t nt => ⟨_, .tuple [rA], rfl, .tup (.of upd_same) (.cons ((w2.same' S9).same' (same_upd nt)) .nil), by decide +kernel, fun _ H10 u s10 nu hu => ?_, fun no => absurd (hoA.symm.trans no) (by decide)⟩⟩
    refine ⟨_, rfl, by show 1 ≤ sizeLine; decide, fun t2 nt2 => ⟨u, _, none, rfl, hu.same (same_upd nt2), .data (d := .tuple [rA]) (.tup (.of upd_same) (.cons ((((w2.same' S9).same' (same_upd nt)).same' s10).same' (same_upd nt2)) .nil)), ?_⟩⟩
    exact q _
end
end K0
end
/-! ### KH -/
section
set_option Elab.async false
set_option linter.all false
set_option maxRecDepth 100000
set_option maxHeartbeats 0
/-! The head of k02: what the top leaves, told by a Hook of its own; the run of the top. -/
namespace K0
open PySem PySem.Spec PyProof.Rows L2 Rd DN StX OE
abbrev R : PySem.W.OpenRow := PySem.W.OpenLaw.row PySem.Challenge.rw_cleandress_k02_holes_as_values
def dfr (m q : Str) (j : Nat) : He.DefD := ⟨("Hole", some m), m, q, defArgs (hrow j), defBody (hrow j), defScope (hrow j), [], []⟩
def fnT : List (Str × Nat) := [("is_number", 2), ("is_sign", 9), ("is_text", 10), ("are_signs", 11), ("reader_of", 13), ("places_ahead", 14), ("places_behind", 15), ("count_behind", 16), ("is_run", 30), ("_law_dice", 32), ("_law_roll", 33), ("_law_one_of", 34), ("_law_mixed", 35), ("_law_all_signs", 36),
  ("_law_signs", 37), ("_law_run", 38), ("_law_hole", 39), ("_law_odd", 40), ("_law_is_text", 41), ("_law_is_integer", 42), ("_law_are_signs", 43), ("_law_told", 44), ("_law_told_alone", 45), ("_law_is_run", 46), ("_law_spoilt", 47), ("_law_right", 48), ("law", 49)]
def fn : List He.DefD := (fnT.map fun z => dfn z.1 z.2) ++ [dfr "__init__" "Hole.__init__" 0, dfr "__eq__" "Hole.__eq__" 8, dfr "__len__" "Hole.__len__" 9, dfr "__str__" "Hole.__str__" 11]
def frees : List Str := ["abs", "int", "max", "min", "len", "range", "isinstance", "repr", "str", "bool", "tuple", "list", "sorted", "set", "all", "zip"]
def fa : List He.Fa := (fnT.map fun z => He.Fa.glo z.1) ++ (frees.map He.Fa.free ++ [.glo "Hole", .glo "InvalidHole", .str "SIGNS" allSigns, .int "MAX_RUNS" 4, .int "MAX_REPEATS" 3, .cls "Hole", .noat "Hole" "_runs", .noat "Hole" "_reader", .mkr "Hole", .exc "InvalidHole", .exm "InvalidHole" "InvalidHole" true, .keep "Hole"])
def names : List Str := (["_wall", "is_number", "DressError", "InvalidHole", "InvalidNumber", "SIGNS", "is_sign", "is_text", "are_signs", "reader_of", "places_ahead", "places_behind", "count_behind", "state_behind", "is_whole", "reads", "count_of", "counts_behind", "fillings_within", "ends_within", "MAX_RUNS", "MAX_REPEATS", "MAX_FILLING", "MAX_COUNTED", "Hole", "is_run"] : List Str) ++
  (["_law_dice", "_law_roll", "_law_one_of", "_law_mixed", "_law_all_signs", "_law_signs", "_law_run", "_law_hole", "_law_odd", "_law_is_text", "_law_is_integer", "_law_are_signs", "_law_told", "_law_told_alone", "_law_is_run", "_law_spoilt", "_law_right"] : List Str)
/-! ### what else the written part says -/
def cH (K : PySem.W.Frag) : Addr := He.ga K "Hole"
def hM (K : PySem.W.Frag) (m : Str) : Addr := He.ma K (cH K) m
def gOf (K : PySem.W.Frag) (m : Str) (kind : String) : Addr := match PySem.W.recIn K (hM K m) kind with
  | some (.ref g :: _) => g
  | _ => 0
def tys : List String := ["NoneType", "bool", "int", "str", "list", "tuple", "dict"]
def ownB (K : PySem.W.Frag) (m : Str) : Bool := He.eqO (PySem.W.findIn K (.ref (cH K)) m) (some (some (.ref (hM K m)))) && PySem.W.isFn K (.ref (hM K m))
def propB (K : PySem.W.Frag) : Bool := He.eqO (PySem.W.findIn K (.ref (cH K)) "runs") (some (some (.ref (hM K "runs")))) && (He.eqO (PySem.W.specialIn K (.ref (hM K "runs")) "__get__") (some (some (.builtin "property.__get__"))) && (decide (PySem.W.takesIn K (.ref (hM K "runs")) = some true) &&
  (match PySem.W.recIn K (hM K "runs") "property" with
  | some (.ref _ :: _) => true
  | _ => false)))
def methB (K : PySem.W.Frag) : Bool := PySem.W.readsIn K (cH K) (.type "type") && (He.eqO (PySem.W.specialIn K (.ref (cH K)) "__getattribute__") (some (some (.builtin "type.__getattribute__"))) && ((match PySem.W.findCls K (.ref (cH K)) (.type "type") "of" with
  | some (.get (.builtin b) (.ref p) .none (.ref c)) => decide (b = "classmethod.__get__") && (decide (p = hM K "of") && decide (c = cH K))
  | _ => false) && ((match PySem.W.recIn K (hM K "of") "classmethod" with
  | some (.ref _ :: _) => true
  | _ => false) && PySem.W.fnIn K (gOf K "of" "classmethod"))))
def sideB (K : PySem.W.Frag) : Bool := He.eqO (PySem.W.findIn K (.ref (cH K)) "__class__") (some (some (.builtin "object.__class__"))) && (He.eqO (PySem.W.specialIn K (.builtin "object.__class__") "__get__") (some (some (.builtin "getset_descriptor.__get__"))) && (decide (PySem.W.takesIn K (.builtin "object.__class__") = some true) &&
  (decide (PySem.W.mroIn K (cH K) (.type "object") = some true) && (decide (PySem.W.kitOne K (.ref (cH K)) (.ref (cH K)) = some true) && ((tys.all fun n => decide (PySem.W.kitOne K (.type n) (.ref (cH K)) = some false) && PySem.W.notFirst K (cH K) (.type n)) &&
  (He.eqO (PySem.W.findIn K (.ref (cH K)) "__ne__") (some (some (.builtin "object.__ne__"))) && decide (PySem.W.kitOne K (.ref (cH K)) (.type "tuple") = some false)))))))
/-- a def at an address of one's own -/
def fnWa (K : PySem.W.Frag) (a : Addr) : He.FnW := match K.lookup a with
  | some ⟨_, _, .func fd, _⟩ => some (fd.name, fd.qualname, fd.params, fd.body, fd.scope, fd.globals, fd.closure, fd.builtins)
  | _ => none
def okAt (K : PySem.W.Frag) (a : Addr) (d : He.DefD) : Bool := PySem.W.keepIn K (.ref a) && (match K.lookup a with
  | some ⟨_, _, .func fd, _⟩ => PySem.W.codeIn K fd.code d.qual && (He.dflB K fd.defaults (d.dvs K) && He.kwdB K fd.kwdefaults (d.kws K))
  | _ => false)
theorem funA {K : PySem.W.Frag} {a : Addr} {d : He.DefD} (e : fnWa K a = d.val) (c : okAt K a d = true) : ∃ fd, FunD K d.name d.qual d.params d.body d.scope (d.dvs K) (d.kws K) a fd := by
  obtain ⟨kp, c2⟩ := He.ba c
  unfold fnWa at e
  cases q : K.lookup a with
  | none =>
    rw [q] at c2
    cases c2
  | some o =>
    obtain ⟨oc, od, dt, osl⟩ := o
    rw [q] at c2 e
    cases dt with
    | func fd =>
      obtain ⟨n1, n2, n3, n4, n5, n6, n7, n8, n9, n10, n11, n12, n13, n14, n15⟩ := fd
      have e2 : (some (n1, n2, n3, n4, n5, n6, n7, n15) : He.FnW) = some (d.name, d.qual, d.params, .stmts d.body, d.scope, mainGlobals, [], builtinsNs) := e
      simp only [Option.some.injEq, Prod.mk.injEq] at e2
      obtain ⟨h1, h2, h3, h4, h5, h6, h7, h8⟩ := e2
      subst h1 h2 h3 h4 h5 h6 h7 h8
      have c3 : (PySem.W.codeIn K n13 d.qual && (He.dflB K n8 (d.dvs K) && He.kwdB K n9 (d.kws K))) = true := c2
      obtain ⟨k1, k2⟩ := He.ba c3
      obtain ⟨k3, k4⟩ := He.ba k2
      exact ⟨_, ⟨oc, od, n8, n9, n10, n11, n12, n13, n14, osl, rfl, q, k1, He.dflB_ok k3, He.kwdB_ok k4⟩, kp⟩
    | _ => cases c2
def dOf : He.DefD := dfr "of" "Hole.of" 1
def dRuns : He.DefD := dfr "runs" "Hole.runs" 2
def okB (K : PySem.W.Frag) : Bool := sysB K && (ownB K "__eq__" && (ownB K "__len__" && (ownB K "__str__" && (propB K && (methB K && (sideB K && (okAt K (gOf K "of" "classmethod") dOf && okAt K (gOf K "runs" "property") dRuns)))))))
abbrev AlA : Type := He.AlD × (Bool × (He.FnW × He.FnW))
def obsA (K : PySem.W.Frag) : AlA := (He.obsD fa fn K, (okB K, (fnWa K (gOf K "of" "classmethod"), fnWa K (gOf K "runs" "property"))))
def valA : AlA := (He.valD fn, (true, (dOf.val, dRuns.val)))
def SaysA (K : PySem.W.Frag) : Prop := obsA K = valA
def obsAG (g : Addr → Option Obj) : AlA := obsA (He.frG g (sysModules :: cStatics :: He.asD g 6))
def hookA : PySem.W.Hook where
  α := AlA
  obs := fun s => obsAG s.heap.get?
  val := fun _ => valA
  says := fun _ h => ∃ K : PySem.W.Frag, K.In h ∧ SaysA K
  of := fun _ _ e => ⟨_, He.frG_in, e⟩
  keeps := fun _ _ _ ⟨K, hK, c⟩ k => ⟨K, PySem.W.Frag.In.keeps hK k, c⟩
def obA (s : PySem.W.SharedT) : AlA := obsAG (HandSHeadRun.getT s)
theorem obA_eq (s : PySem.W.SharedT) : obA s = hookA.obs s.abs := by
  have e : HandSHeadRun.getT s = s.abs.heap.get? := funext (HandSHeadRun.getT_eq s)
  show obsAG _ = obsAG _
  rw [e]
theorem runA (w : World) : HandSHeadRun.RunEq R (PySem.W.view R.prog [49]) hookA obA 20000 names w := by
  intro os
  kernel_rfl
end K0
end
/-! ### KF -/
section
set_option Elab.async false
set_option linter.all false
set_option maxRecDepth 100000
set_option maxHeartbeats 0
/-! The facts unpacked; each def keeps its promise. -/
namespace K0
open PySem PySem.Spec PyProof.Rows L2 Rd DN StX OE
theorem dty_mem (d : PyData) : dty d ∈ tys := by
  cases d <;> simp [dty, tys]
theorem facts {P : Program} {w : World} {K : PySem.W.Frag} {h : Heap} {mg : Str → Option Value} {f : Addr} (X : K.In h) (G : h.Ns mainGlobals mg) (hfa : mg ("law" : Str) = some (.ref f)) (c : SaysA K) :
    ∃ fd : FuncData, (∀ (s : Shared) (v : Value), BindsTo s fd ⟨[v], []⟩ [("script", v)]) ∧ ∀ base : Heap, K.In base → base.Ns mainGlobals mg → FnG P w K mg base CX0 9 f fd ["script"] (spLaw K) := by
  have d : He.SaysD fa fn K := congrArg (fun z : AlA => z.1) c
  have eOf : fnWa K (gOf K "of" "classmethod") = dOf.val := congrArg (fun z : AlA => z.2.2.1) c
  have eRu : fnWa K (gOf K "runs" "property") = dRuns.val := congrArg (fun z : AlA => z.2.2.2) c
  have ok : okB K = true := congrArg (fun z : AlA => z.2.1) c
  unfold okB at ok
  obtain ⟨sb, ok⟩ := He.ba ok
  obtain ⟨oEq, ok⟩ := He.ba ok
  obtain ⟨oLen, ok⟩ := He.ba ok
  obtain ⟨oStr, ok⟩ := He.ba ok
  obtain ⟨oProp, ok⟩ := He.ba ok
  obtain ⟨oMeth, ok⟩ := He.ba ok
  obtain ⟨oSide, ok⟩ := He.ba ok
  obtain ⟨oOf, oRu⟩ := He.ba ok
  obtain ⟨fdOf, FOf⟩ := funA eOf oOf
  obtain ⟨fdRu, FRu⟩ := funA eRu oRu
  unfold ownB at oEq oLen oStr
  obtain ⟨eq1, eq2⟩ := He.ba oEq
  obtain ⟨len1, len2⟩ := He.ba oLen
  obtain ⟨str1, str2'⟩ := He.ba oStr
  unfold propB at oProp
  obtain ⟨pr1, oProp⟩ := He.ba oProp
  obtain ⟨pr2, oProp⟩ := He.ba oProp
  obtain ⟨pr3, pr4⟩ := He.ba oProp
  unfold methB at oMeth
  obtain ⟨me1, oMeth⟩ := He.ba oMeth
  obtain ⟨me2, oMeth⟩ := He.ba oMeth
  obtain ⟨me3, oMeth⟩ := He.ba oMeth
  obtain ⟨me4, me5⟩ := He.ba oMeth
  unfold sideB at oSide
  obtain ⟨sd1, oSide⟩ := He.ba oSide
  obtain ⟨sd2, oSide⟩ := He.ba oSide
  obtain ⟨sd3, oSide⟩ := He.ba oSide
  obtain ⟨sd4, oSide⟩ := He.ba oSide
  obtain ⟨sd5, oSide⟩ := He.ba oSide
  obtain ⟨sd6, oSide⟩ := He.ba oSide
  obtain ⟨sd7, sd8⟩ := He.ba oSide
  have tyK : ∀ d : PyData, PySem.W.kitOne K (.type (dty d)) (.ref (cH K)) = some false ∧ PySem.W.notFirst K (cH K) (.type (dty d)) = true := fun d => by
    obtain ⟨z1, z2⟩ := He.ba (List.all_eq_true.mp sd6 _ (dty_mem d))
    exact ⟨of_decide_eq_true z1, z2⟩
  obtain ⟨fdNu, FNu⟩ := d.def_ 0 (d := dfn "is_number" 2) rfl
  have gNu := He.glo_ok X G (d.fact 0 (f := .glo "is_number") rfl)
  have bNu : Binds K fdNu ["value", "low", "high"] [] := FNu.bindsN fun _ _ _ _ _ _ us hl => match us, hl with | [_, _, _], _ => rfl
  obtain ⟨fdSg, FSg⟩ := d.def_ 1 (d := dfn "is_sign" 9) rfl
  have gSg := He.glo_ok X G (d.fact 1 (f := .glo "is_sign") rfl)
  have bSg : Binds K fdSg ["value"] [] := FSg.bindsN fun _ _ _ _ _ _ us hl => match us, hl with | [_], _ => rfl
  obtain ⟨fdTx, FTx⟩ := d.def_ 2 (d := dfn "is_text" 10) rfl
  have gTx := He.glo_ok X G (d.fact 2 (f := .glo "is_text") rfl)
  have bTx : Binds K fdTx ["value"] [] := FTx.bindsN fun _ _ _ _ _ _ us hl => match us, hl with | [_], _ => rfl
  obtain ⟨fdAs, FAs⟩ := d.def_ 3 (d := dfn "are_signs" 11) rfl
  have gAs := He.glo_ok X G (d.fact 3 (f := .glo "are_signs") rfl)
  have bAs : Binds K fdAs ["value"] [] := FAs.bindsN fun _ _ _ _ _ _ us hl => match us, hl with | [_], _ => rfl
  obtain ⟨fdRe, FRe⟩ := d.def_ 4 (d := dfn "reader_of" 13) rfl
  have gRe := He.glo_ok X G (d.fact 4 (f := .glo "reader_of") rfl)
  have bRe : Binds K fdRe ["runs"] [] := FRe.bindsN fun _ _ _ _ _ _ us hl => match us, hl with | [_], _ => rfl
  obtain ⟨fdAh, FAh⟩ := d.def_ 5 (d := dfn "places_ahead" 14) rfl
  have gAh := He.glo_ok X G (d.fact 5 (f := .glo "places_ahead") rfl)
  have bAh : Binds K fdAh ["runs", "run", "count"] [] := FAh.bindsN fun _ _ _ _ _ _ us hl => match us, hl with | [_, _, _], _ => rfl
  obtain ⟨fdBe, FBe⟩ := d.def_ 6 (d := dfn "places_behind" 15) rfl
  have gBe := He.glo_ok X G (d.fact 6 (f := .glo "places_behind") rfl)
  have bBe : Binds K fdBe ["runs", "places", "sign"] [] := FBe.bindsN fun _ _ _ _ _ _ us hl => match us, hl with | [_, _, _], _ => rfl
  obtain ⟨fdCo, FCo⟩ := d.def_ 7 (d := dfn "count_behind" 16) rfl
  have gCo := He.glo_ok X G (d.fact 7 (f := .glo "count_behind") rfl)
  have bCo : Binds K fdCo ["run", "count"] [] := FCo.bindsN fun _ _ _ _ _ _ us hl => match us, hl with | [_, _], _ => rfl
  obtain ⟨fdIr, FIr⟩ := d.def_ 8 (d := dfn "is_run" 30) rfl
  have gIr := He.glo_ok X G (d.fact 8 (f := .glo "is_run") rfl)
  have bIr : Binds K fdIr ["value"] [] := FIr.bindsN fun _ _ _ _ _ _ us hl => match us, hl with | [_], _ => rfl
  obtain ⟨fdDi, FDi⟩ := d.def_ 9 (d := dfn "_law_dice" 32) rfl
  have gDi := He.glo_ok X G (d.fact 9 (f := .glo "_law_dice") rfl)
  have bDi : Binds K fdDi ["script", "at"] [] := FDi.bindsN fun _ _ _ _ _ _ us hl => match us, hl with | [_, _], _ => rfl
  obtain ⟨fdRo, FRo⟩ := d.def_ 10 (d := dfn "_law_roll" 33) rfl
  have gRo := He.glo_ok X G (d.fact 10 (f := .glo "_law_roll") rfl)
  have bRo : Binds K fdRo ["dice", "total"] [] := FRo.bindsN fun _ _ _ _ _ _ us hl => match us, hl with | [_, _], _ => rfl
  obtain ⟨fdOn, FOn⟩ := d.def_ 11 (d := dfn "_law_one_of" 34) rfl
  have gOn := He.glo_ok X G (d.fact 11 (f := .glo "_law_one_of") rfl)
  have bOn : Binds K fdOn ["dice", "items"] [] := FOn.bindsN fun _ _ _ _ _ _ us hl => match us, hl with | [_, _], _ => rfl
  obtain ⟨fdMi, FMi⟩ := d.def_ 12 (d := dfn "_law_mixed" 35) rfl
  have gMi := He.glo_ok X G (d.fact 12 (f := .glo "_law_mixed") rfl)
  have bMi : Binds K fdMi ["dice", "items"] [] := FMi.bindsN fun _ _ _ _ _ _ us hl => match us, hl with | [_, _], _ => rfl
  obtain ⟨fdAl, FAl⟩ := d.def_ 13 (d := dfn "_law_all_signs" 36) rfl
  have gAl := He.glo_ok X G (d.fact 13 (f := .glo "_law_all_signs") rfl)
  have bAl : Binds K fdAl [] [] := FAl.bindsN fun _ _ _ _ _ _ us hl => match us, hl with | [], _ => rfl
  obtain ⟨fdLs, FLs⟩ := d.def_ 14 (d := dfn "_law_signs" 37) rfl
  have gLs := He.glo_ok X G (d.fact 14 (f := .glo "_law_signs") rfl)
  have bLs : Binds K fdLs ["dice", "upto"] [] := FLs.bindsN fun _ _ _ _ _ _ us hl => match us, hl with | [_, _], _ => rfl
  obtain ⟨fdLr, FLr⟩ := d.def_ 15 (d := dfn "_law_run" 38) rfl
  have gLr := He.glo_ok X G (d.fact 15 (f := .glo "_law_run") rfl)
  have bLr : Binds K fdLr ["dice", "signs"] [] := FLr.bindsN fun _ _ _ _ _ _ us hl => match us, hl with | [_, _], _ => rfl
  obtain ⟨fdLh, FLh⟩ := d.def_ 16 (d := dfn "_law_hole" 39) rfl
  have gLh := He.glo_ok X G (d.fact 16 (f := .glo "_law_hole") rfl)
  have bLh : Binds K fdLh ["dice", "signs"] [] := FLh.bindsN fun _ _ _ _ _ _ us hl => match us, hl with | [_, _], _ => rfl
  obtain ⟨fdOd, FOd⟩ := d.def_ 17 (d := dfn "_law_odd" 40) rfl
  have gOd := He.glo_ok X G (d.fact 17 (f := .glo "_law_odd") rfl)
  have bOd : Binds K fdOd ["dice"] [] := FOd.bindsN fun _ _ _ _ _ _ us hl => match us, hl with | [_], _ => rfl
  obtain ⟨fdLt, FLt⟩ := d.def_ 18 (d := dfn "_law_is_text" 41) rfl
  have gLt := He.glo_ok X G (d.fact 18 (f := .glo "_law_is_text") rfl)
  have bLt : Binds K fdLt ["value"] [] := FLt.bindsN fun _ _ _ _ _ _ us hl => match us, hl with | [_], _ => rfl
  obtain ⟨fdLi, FLi⟩ := d.def_ 19 (d := dfn "_law_is_integer" 42) rfl
  have gLi := He.glo_ok X G (d.fact 19 (f := .glo "_law_is_integer") rfl)
  have bLi : Binds K fdLi ["value"] [] := FLi.bindsN fun _ _ _ _ _ _ us hl => match us, hl with | [_], _ => rfl
  obtain ⟨fdLa, FLa⟩ := d.def_ 20 (d := dfn "_law_are_signs" 43) rfl
  have gLa := He.glo_ok X G (d.fact 20 (f := .glo "_law_are_signs") rfl)
  have bLa : Binds K fdLa ["value"] [] := FLa.bindsN fun _ _ _ _ _ _ us hl => match us, hl with | [_], _ => rfl
  obtain ⟨fdTo, FTo⟩ := d.def_ 21 (d := dfn "_law_told" 44) rfl
  have gTo := He.glo_ok X G (d.fact 21 (f := .glo "_law_told") rfl)
  have bTo : Binds K fdTo ["runs"] [] := FTo.bindsN fun _ _ _ _ _ _ us hl => match us, hl with | [_], _ => rfl
  obtain ⟨fdTa, FTa⟩ := d.def_ 22 (d := dfn "_law_told_alone" 45) rfl
  have gTa := He.glo_ok X G (d.fact 22 (f := .glo "_law_told_alone") rfl)
  have bTa : Binds K fdTa ["way", "one", "two"] [] := FTa.bindsN fun _ _ _ _ _ _ us hl => match us, hl with | [_, _, _], _ => rfl
  obtain ⟨fdLx, FLx⟩ := d.def_ 23 (d := dfn "_law_is_run" 46) rfl
  have gLx := He.glo_ok X G (d.fact 23 (f := .glo "_law_is_run") rfl)
  have bLx : Binds K fdLx ["value"] [] := FLx.bindsN fun _ _ _ _ _ _ us hl => match us, hl with | [_], _ => rfl
  obtain ⟨fdSp, FSp⟩ := d.def_ 24 (d := dfn "_law_spoilt" 47) rfl
  have gSp := He.glo_ok X G (d.fact 24 (f := .glo "_law_spoilt") rfl)
  have bSp : Binds K fdSp ["dice", "run"] [] := FSp.bindsN fun _ _ _ _ _ _ us hl => match us, hl with | [_, _], _ => rfl
  obtain ⟨fdRi, FRi⟩ := d.def_ 25 (d := dfn "_law_right" 48) rfl
  have gRi := He.glo_ok X G (d.fact 25 (f := .glo "_law_right") rfl)
  have bRi : Binds K fdRi ["dice"] [] := FRi.bindsN fun _ _ _ _ _ _ us hl => match us, hl with | [_], _ => rfl
  obtain ⟨fdLw, FLw⟩ := d.def_ 26 (d := dfn "law" 49) rfl
  have gLw := He.glo_ok X G (d.fact 26 (f := .glo "law") rfl)
  have bLw : Binds K fdLw ["script"] [] := FLw.bindsN fun _ _ _ _ _ _ us hl => match us, hl with | [_], _ => rfl
  obtain ⟨fdIn, FIn⟩ := d.def_ 27 (d := dfr "__init__" "Hole.__init__" 0) rfl
  obtain ⟨fdEq, FEq⟩ := d.def_ 28 (d := dfr "__eq__" "Hole.__eq__" 8) rfl
  obtain ⟨fdLe, FLe⟩ := d.def_ 29 (d := dfr "__len__" "Hole.__len__" 9) rfl
  obtain ⟨fdSt, FSt⟩ := d.def_ 30 (d := dfr "__str__" "Hole.__str__" 11) rfl
  have mabs := He.free_ok X G (d.fact 27 (f := .free "abs") rfl)
  have mint := He.free_ok X G (d.fact 28 (f := .free "int") rfl)
  have mmax := He.free_ok X G (d.fact 29 (f := .free "max") rfl)
  have mmin := He.free_ok X G (d.fact 30 (f := .free "min") rfl)
  have mlen := He.free_ok X G (d.fact 31 (f := .free "len") rfl)
  have mrange := He.free_ok X G (d.fact 32 (f := .free "range") rfl)
  have misinstance := He.free_ok X G (d.fact 33 (f := .free "isinstance") rfl)
  have mrepr := He.free_ok X G (d.fact 34 (f := .free "repr") rfl)
  have mstr := He.free_ok X G (d.fact 35 (f := .free "str") rfl)
  have mbool := He.free_ok X G (d.fact 36 (f := .free "bool") rfl)
  have mtuple := He.free_ok X G (d.fact 37 (f := .free "tuple") rfl)
  have mlist := He.free_ok X G (d.fact 38 (f := .free "list") rfl)
  have msorted := He.free_ok X G (d.fact 39 (f := .free "sorted") rfl)
  have mset := He.free_ok X G (d.fact 40 (f := .free "set") rfl)
  have mall := He.free_ok X G (d.fact 41 (f := .free "all") rfl)
  have mzip := He.free_ok X G (d.fact 42 (f := .free "zip") rfl)
  have gH : mg "Hole" = some (.ref (cH K)) := He.glo_ok X G (d.fact 43 (f := .glo "Hole") rfl)
  have gE := He.glo_ok X G (d.fact 44 (f := .glo "InvalidHole") rfl)
  have ms := He.str_ok X G (d.fact 45 (f := .str "SIGNS" allSigns) rfl)
  have mM := He.int_ok X G (d.fact 46 (f := .int "MAX_RUNS" 4) rfl)
  have mR := He.int_ok X G (d.fact 47 (f := .int "MAX_REPEATS" 3) rfl)
  have cl : L2.Cls K (cH K) := He.cls_ok (d.fact 48 (f := .cls "Hole") rfl)
  have nr : L2.NoAttr K (cH K) "_runs" := He.noat_ok (d.fact 49 (f := .noat "Hole" "_runs") rfl)
  have ndr : L2.NoAttr K (cH K) "_reader" := He.noat_ok (d.fact 50 (f := .noat "Hole" "_reader") rfl)
  have mk : L2.Mk K (cH K) (hM K "__init__") := He.mkr_ok (d.fact 51 (f := .mkr "Hole") rfl)
  obtain ⟨x1, x2, x3, x4⟩ := He.exc_ok (d.fact 52 (f := .exc "InvalidHole") rfl)
  have hm : PySem.W.exmOne K (.ref (He.ga K "InvalidHole")) (.ref (He.ga K "InvalidHole")) = some true := He.exm_ok (d.fact 53 (f := .exm "InvalidHole" "InvalidHole" true) rfl)
  have kH : PySem.W.keepIn K (.ref (cH K)) = true := He.keep_ok (d.fact 54 (f := .keep "Hole") rfl)
  have HK : HoleK K (cH K) (He.ga K "InvalidHole") := ⟨cl, nr, ndr, x1, x2, x3, x4⟩
  have HM : HoleM K (cH K) := ⟨cl, nr, He.eqO_ok sd1, He.eqO_ok sd2, of_decide_eq_true sd3, of_decide_eq_true sd4, of_decide_eq_true sd5, fun d => (tyK d).1, kH⟩
  have HQ : OEq K (cH K) (hM K "__eq__") := ⟨He.eqO_ok eq1, eq2, He.eqO_ok sd7, of_decide_eq_true sd4⟩
  have HN : ∀ d : PyData, PySem.W.notFirst K (cH K) (.type (dty d)) = true := fun d => (tyK d).2
  have HP : PropOf K (cH K) "runs" (hM K "runs") (gOf K "runs" "property") := by
    refine ⟨He.eqO_ok pr1, He.eqO_ok pr2, of_decide_eq_true pr3, ?_⟩
    unfold gOf
    cases e : PySem.W.recIn K (hM K "runs") "property" with
    | none => rw [e] at pr4; cases pr4
    | some vs =>
      rw [e] at pr4
      cases vs with
      | nil => cases pr4
      | cons v vs =>
        cases v with
        | ref g => exact ⟨vs, rfl⟩
        | _ => cases pr4
  have HR : ClX.CRead K (cH K) (.type "type") := ⟨me1, He.eqO_ok me2⟩
  have HC : ClX.CMet K (cH K) (.type "type") "of" (hM K "of") (gOf K "of" "classmethod") := by
    refine ⟨?_, ?_, me5⟩
    · split at me3
      · rename_i b p c e
        obtain ⟨z1, z2⟩ := He.ba me3
        obtain ⟨z2, z3⟩ := He.ba z2
        rw [e, of_decide_eq_true z1, of_decide_eq_true z2, of_decide_eq_true z3]
      · cases me3
    · unfold gOf
      cases e : PySem.W.recIn K (hM K "of") "classmethod" with
      | none => rw [e] at me4; cases me4
      | some vs =>
        rw [e] at me4
        cases vs with
        | nil => cases me4
        | cons v vs =>
          cases v with
          | ref g => exact ⟨vs, rfl⟩
          | _ => cases me4
  have e := hfa.symm.trans gLw
  cases e
  have b := FunD.bindsA (ps := ["script"]) FLw fun _ _ _ _ _ _ us hl => match us, hl with | [_], _ => rfl
  refine ⟨fdLw, fun s v => b s [v] rfl, fun base _ _ => ?_⟩
  have bOf : Binds K fdOf ["cls", "runs"] [] := FunD.bindsN FOf fun _ _ _ _ _ _ us hl => match us, hl with | [_, _], _ => rfl
  have bRu : Binds K fdRu ["self"] [] := FunD.bindsN FRu fun _ _ _ _ _ _ us hl => match us, hl with | [_], _ => rfl
  have bEq : Binds K fdEq ["self", "other"] [] := FEq.bindsN fun _ _ _ _ _ _ us hl => match us, hl with | [_, _], _ => rfl
  have bLe : Binds K fdLe ["self"] [] := FLe.bindsN fun _ _ _ _ _ _ us hl => match us, hl with | [_], _ => rfl
  have bSt : Binds K fdSt ["self"] [] := FSt.bindsN fun _ _ _ _ _ _ us hl => match us, hl with | [_], _ => rfl
  have roll : ∀ k, FnOk P w K mg base CX0 (k + 1) _ fdRo ["dice", "total"] spRoll := fun k => ok_roll FRo mint
  have one : ∀ k, FnOk P w K mg base CX0 (k + 2) _ fdOn ["dice", "items"] (spOne K) := fun k => ok_one FOn (roll k) gRo FRo.kp bRo mlen
  have mixed : ∀ k, FnOk P w K mg base CX0 (k + 2) _ fdMi ["dice", "items"] (spMixed K) := fun k => ok_mixed FMi mlist mlen mrange (roll k) gRo FRo.kp bRo
  have all' : ∀ k, FnOk P w K mg base CX0 (k + 1) _ fdAl [] spAll := fun k => ok_all FAl
  have num : ∀ k, FnOk P w K mg base CX0 (k + 1) _ fdNu ["value", "low", "high"] (spNum K) := fun k => ok_num FNu misinstance mint mbool
  have sign : ∀ k, FnOk P w K mg base CX0 (k + 1) _ fdSg ["value"] (spD K isSignD) := fun k => ok_sign FSg misinstance mstr mlen ms
  have signs : ∀ k, FnOk P w K mg base CX0 (k + 2) _ fdAs ["value"] (spD K areSignsD) := fun k => ok_signs FAs misinstance mtuple mall mzip (sign k) gSg FSg.kp bSg
  have isRun : ∀ k, FnOk P w K mg base CX0 (k + 3) _ fdIr ["value"] (spD K isRunD) := fun k => ok_isRun FIr misinstance mtuple mlen mmax mR (signs k) gAs FAs.kp bAs (num (k + 1)) gNu FNu.kp bNu
  have ahead' : ∀ k, FnOk P w K mg base CX0 (k + 1) _ fdAh ["runs", "run", "count"] (spAhead K) := fun k => ok_ahead FAh mlen
  have behind : ∀ k, FnOk P w K mg base CX0 (k + 2) _ fdBe ["runs", "places", "sign"] (spBehind K) := fun k => ok_behind FBe mlen mtuple msorted mset (ok_count FCo mmin) gCo FCo.kp bCo (ahead' k) gAh FAh.kp bAh
  have reader : ∀ k, FnOk P w K mg base CX0 (k + 3) _ fdRe ["runs"] (spReader K) := fun k => ok_reader FRe mlen mtuple ms (behind k) gBe FBe.kp bBe (ahead' (k + 1)) gAh FAh.kp bAh
  have init : ∀ k, FnR P w K mg base (L2.CX P w) (k + 4) (hM K "__init__") (spInit2 K (cH K) (He.ga K "InvalidHole")) := fun k => ok_hinit FIn HK mlen mall gE mM (isRun k) gIr FIr.kp bIr (reader k) gRe FRe.kp bRe
  have ofD : ∀ k, FnOk P w K mg base (L2.CX P w) (k + 6) (gOf K "of" "classmethod") fdOf ["cls", "runs"] (spOf K (cH K) (He.ga K "InvalidHole")) := fun k => ok_hof FOf HK mk misinstance mtuple gE (init k)
  have ofH : ∀ k, FnOk P w K mg base (L2.CX P w) (k + 6) (gOf K "of" "classmethod") fdOf ["cls", "runs"] (spOfH K (cH K) (He.ga K "InvalidHole")) := fun k => ok_hofH FOf HK HM (of_decide_eq_true sd8) mk misinstance mtuple gE (init k)
  have told : ∀ k, FnOk P w K mg base CX0 (k + 7) _ fdTo ["runs"] (spToldA K (cH K)) := fun k => fnOk_or (ok_told FTo gH gE hm kH HR HC (ofD k) bOf) (ok_toldH FTo gH gE hm HR HC (ofH k) bOf)
  have alone : ∀ k, FnOk P w K mg base CX0 (k + 6) _ fdTa ["way", "one", "two"] (spAlone K (cH K)) := fun k => ok_alone FTa gH gE hm mk (init k)
  have ltext : ∀ k, FnOk P w K mg base CX0 (k + 1) _ fdLt ["value"] (spD K isTextD) := fun k => ok_ltext FLt misinstance mstr
  have lare : ∀ k, FnOk P w K mg base CX0 (k + 2) _ fdLa ["value"] (spDS K areSignsD) := fun k => ok_lare FLa misinstance mtuple mlen mlist msorted mset (ltext k) gLt FLt.kp bLt
  have lisRun : ∀ k, FnOk P w K mg base CX0 (k + 3) _ fdLx ["value"] (spDR K isRunD) := fun k => ok_lisRun FLx misinstance mtuple mlen (lare k) gLa FLa.kp bLa (ok_lint FLi misinstance mint mbool) gLi FLi.kp bLi
  have lsigns : ∀ k, FnOk P w K mg base CX0 (k + 3) _ fdLs ["dice", "upto"] spSigns := fun k => ok_lsigns FLs mlist mtuple msorted (roll (k + 1)) gRo FRo.kp bRo (all' (k + 1)) gAl FAl.kp bAl (mixed k) gMi FMi.kp bMi
  have lrun : ∀ k, FnOk P w K mg base CX0 (k + 3) _ fdLr ["dice", "signs"] (spLRun K) := fun k => ok_lrun FLr mlist mtuple msorted mlen (roll (k + 1)) gRo FRo.kp bRo (mixed k) gMi FMi.kp bMi (one k) gOn FOn.kp bOn
  have lhole : ∀ k, FnOk P w K mg base CX0 (k + 4) _ fdLh ["dice", "signs"] (spLHole K) := fun k => ok_lhole FLh mtuple mrange (lrun k) gLr FLr.kp bLr (one (k + 1)) gOn FOn.kp bOn
  have odd : ∀ k, FnOk P w K mg base CX0 (k + 3) _ fdOd ["dice"] (spOdd K) := fun k => ok_odd FOd (one k) gOn FOn.kp bOn
  have spoilt : ∀ k, FnOk P w K mg base CX0 (k + 5) _ fdSp ["dice", "run"] (spSpoilt K) := fun k => ok_spoilt FSp mlist mtuple (roll (k + 3)) gRo FRo.kp bRo (odd (k + 1)) gOd FOd.kp bOd (one (k + 2)) gOn FOn.kp bOn (all' (k + 3)) gAl FAl.kp bAl
  have eqF : FnOk P w K mg base CX0 1 (hM K "__eq__") fdEq ["self", "other"] (spHEq K (cH K)) := ok_heq FEq HM misinstance gH
  have ruF : FnOk P w K mg base CX0 1 (gOf K "runs" "property") fdRu ["self"] (spHRuns K (cH K)) := ok_hruns FRu HM
  have leF : FnR P w K mg base CX0 1 (hM K "__len__") (spHLen2 K (cH K)) := (ok_hlen (k := 0) FLe HM mlen).raw bLe .nil
  have stF : FnR P w K mg base CX0 1 (hM K "__str__") (spHStr2 K (cH K)) := (ok_hstr (k := 0) FSt HM mlen).raw bSt .nil
  have right : FnG P w K mg base CX0 8 _ fdRi ["dice"] spRight := ok_right (n := 0) FRi sb mrepr mlen mstr mlist mrange HM HQ HN eqF bEq HP ruF bRu (He.eqO_ok len1) len2 leF (He.eqO_ok str1) str2' stF gH HR HC (ofD 0) bOf
    (lsigns 4) gLs FLs.kp bLs (lhole 3) gLh FLh.kp bLh (told 0) gTo FTo.kp bTo (odd 4) gOd FOd.kp bOd (roll 6) gRo FRo.kp bRo (spoilt 2) gSp FSp.kp bSp (alone 1) gTa FTa.kp bTa (lisRun 4) gLx FLx.kp bLx (one 5) gOn FOn.kp bOn
  exact ok_law (n := 0) FLw mlen mstr mrange mmax mmin HM HQ HN eqF bEq HP ruF bRu (He.eqO_ok len1) len2 leF (He.eqO_ok str1) str2' stF gH HR HC (ofD 0) bOf mk (init 0) (ok_dice (k := 7) FDi mlen mint mabs mmax) gDi FDi.kp bDi right gRi FRi.kp bRi
end K0
end
/-! ### KE -/
set_option Elab.async false
set_option linter.all false
set_option maxRecDepth 100000
set_option maxHeartbeats 0
namespace K0
open PySem PySem.Spec PyProof.Rows L2
/-- the end over a head by facts, for a promise that is kept where nothing is being shown -/
theorem walkG {l : PySem.W.OpenLaw} {n k : Nat} {q : Program} {loose : List Str} {XP : (Str → Option Value) → Heap → Prop} {YP : World → Heap → Prop} {d : DefRec} {x : Str}
    (hn : l.most = some n) (hn2 : n ≤ sizeLine) (hdf : d.params.defaults = []) (room : Room k callerA)
    (F : ∀ (w : World) (mg : Str → Option Value) (f : Addr) (h : Heap), YP w h → h.Ns mainGlobals mg → mg d.name = some (.ref f) → ∃ K : PySem.W.Frag, K.In h ∧
      ∃ fd : FuncData, (∀ (s : Shared) (u : Value), BindsTo s fd ⟨[u], []⟩ [(x, u)]) ∧ ∀ base : Heap, K.In base → base.Ns mainGlobals mg → FnG l.prog w K mg base CX0 k f fd [x] (spLaw K)) :
    PySem.W.WalkO q loose XP YP l.row.toRowW d [] (fun f vs => PySem.call f vs) := by
  refine Att.attach_call hn hdf fun w s₀ s₁ mg mb f o pm cd doc a vs ns G Y ho hd hcd hmg hobj its len gens => ?_
  obtain ⟨K, KX, fd, b, G2⟩ := F w mg f _ Y G.T.g hmg
  exact lawG KX G.T.g G.T.b G.T.builtins G.T.nolimit gens hobj its (Nat.le_trans len hn2) room G2 b (fun H _ seq => ⟨a, ns, rfl, seq, fun _ => rfl⟩) fun H e s' z => z
end K0
open PySem PySem.W PySem.Calls PyProof.Rows
theorem PySem.Challenge.cw_cleandress_k02_holes_as_values_holds : PySem.Challenge.rw_cleandress_k02_holes_as_values.Holds := by
  w_on; o_law
  refine HandSHeadRun.head_any (r := K0.R) (q := view K0.R.prog [49]) (H := K0.hookA) (ob := K0.obA) (M := 20000) (loose := K0.names) (d := HandSHeadRun.topDef K0.R.prog 49) (kwd := []) K0.obA_eq
    (by kernel_rfl) (fun s => by kernel_rfl) K0.runA (by kernel_rfl) (by kernel_rfl) (by kernel_rfl) (by rfl) (by first | assumption | decide +kernel) (by decide +kernel) ⟨rfl, rfl, rfl, rfl, rfl, by decide +kernel⟩ ?hw ?hc
  case hw => w_witness2
  case hc =>
    refine K0.walkG (l := PySem.Challenge.rw_cleandress_k02_holes_as_values) (n := 63) (k := 9) (x := "script") rfl (by decide) (by kernel_rfl) ⟨rfl, by decide, by decide⟩ ?F
    intro w mg f h Y G hmg0
    obtain ⟨K, KX, c⟩ := Y
    have hmg : mg ("law" : PySem.Str) = some (.ref f) := by
      have e : (HandSHeadRun.topDef K0.R.prog 49).name = ("law" : PySem.Str) := by kernel_rfl
      rw [← e]
      exact hmg0
    exact ⟨K, KX, K0.facts KX G hmg c⟩
