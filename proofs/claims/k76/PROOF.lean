import PyProof.Rows.All
import Wide.All
import OpenK.AllK
import Wide.FinOn
import KE.KStateDown
import Lean
import HandS.ForMost
import HandS.Exc
import HandS.ExcInit
import HandS.WordsExc
import HandS.Defaults
import HandS.Head0
import HandS.Head1
import HandS.Head2
import HandS.HeadEnd
import HandS.HeadHook1
import HandS.HeadHook2
import PyProof.StrLawsTight
import PyProof.StrLawsChain
import HandS.Wide
import HandS.Codes
import HandS.IsInst
import HandS.StrMore
import HandS.Steps
import Wide.Txt
import PyProof.ListStr
import HandS.Walk
import HandS.Lambda
import HandS.Zip
import HandS.TupAny
import HandS.DictEq
import HandS.More
import PyProof.EqKinds
import KE.KUnpackStar
import HandS.Star
import HandS.ForExc
import HandS.Small
import HandS.IterVal
import KE.KExcIs
import KE.KTryMore
import HandS.HotCalls
import HandS.ExcValue
import HandS.TryMany
import HandS.DictComp
import HandS.Iter
import HandS.Dict
import HandS.Text
import HandS.Base
import PyProof.SeqIndex
import HandS.TupMul
import HandS.HeadHook3
import HandS.HeadHook4
import PyProof.ExcBaseAll.ValueError
import HandS.EndTab
import PySem.Challenge.RW_cleandress_k76_histories_there_and_back
/-! ### H0 -/
section
set_option Elab.async false
set_option linter.all false
set_option maxRecDepth 100000
set_option maxHeartbeats 0
namespace K0
open PySem PySem.Spec PyProof.Rows L2
def top (i : Nat) : Stmt := PySem.Challenge.pw_cleandress_k76_histories_there_and_back.main.body.getD i (.Pass ⟨0, 0, 0, 0⟩)
abbrev dfn (x : Str) (i : Nat) : He.DefD := ⟨(x, none), x, x, defArgs (top i), defBody (top i), defScope (top i), [], []⟩
abbrev iParse : Nat := 4
abbrev iIsText : Nat := 7
abbrev iIsName : Nat := 11
abbrev iIsPath : Nat := 14
abbrev iIsDeed : Nat := 16
abbrev iIsHist : Nat := 19
abbrev iTextWord : Nat := 21
abbrev iLineOf : Nat := 22
abbrev iWordsOf : Nat := 23
abbrev iIsTW : Nat := 24
abbrev iRows : Nat := 25
abbrev iDeedRow : Nat := 28
abbrev iWrite : Nat := 31
abbrev iWordsDeed : Nat := 32
abbrev iRead : Nat := 33
abbrev iDice : Nat := 35
abbrev iRoll : Nat := 36
abbrev iOne : Nat := 37
abbrev iAll : Nat := 38
abbrev iLWord : Nat := 39
abbrev iLPath : Nat := 40
abbrev iLDeed : Nat := 41
abbrev iLLine : Nat := 42
abbrev iLTexts : Nat := 43
abbrev iLRead : Nat := 44
abbrev iLIsDeed : Nat := 45
abbrev iLBent : Nat := 46
abbrev iLTold : Nat := 47
abbrev iLDue : Nat := 48
abbrev iRight : Nat := 49
abbrev iWordOf : Nat := 50
abbrev iRefused : Nat := 51
abbrev iLaw : Nat := 52
end K0
end
/-! ### M76 -/
section
set_option Elab.async false
set_option linter.all false
set_option maxRecDepth 100000
set_option maxHeartbeats 4000000
/-! Histories: lines, words, deeds, as plain functions over texts. -/
namespace K0
open PySem PySem.Spec PyProof.Rows L2
/-! ### texts as lists of codes -/
def cd (z : Str) : List Nat := z.cps.toList
def tx (l : List Nat) : Str := ⟨l.toArray⟩
theorem cd_tx (l : List Nat) : cd (tx l) = l := by show l.toArray.toList = l; simp
theorem tx_cd (z : Str) : tx (cd z) = z := by
  obtain ⟨a⟩ := z
  show (⟨a.toList.toArray⟩ : Str) = ⟨a⟩
  rw [Array.toArray_toList]
theorem cd_inj {a b : Str} (h : cd a = cd b) : a = b := by rw [← tx_cd a, ← tx_cd b, h]
theorem cd_app (a b : Str) : cd (a ++ b) = cd a ++ cd b := by
  show (a.cps ++ b.cps).toList = _
  exact Array.toList_append
theorem cd_len (z : Str) : (cd z).length = z.length := by
  show z.cps.toList.length = z.cps.size
  simp
theorem cd_nil {z : Str} (h : cd z = []) : z = "" := cd_inj (h.trans rfl)
abbrev one (c : Nat) : Str := ⟨#[c]⟩
def joinC (c : Nat) : List (List Nat) → List Nat
  | [] => []
  | [x] => x
  | x :: y :: r => x ++ c :: joinC c (y :: r)
theorem cd_join (c : Nat) : ∀ ys : List Str, cd (Str.join (one c) ys) = joinC c (ys.map cd)
  | [] => rfl
  | [x] => rfl
  | x :: y :: r => by
    show cd (x ++ one c ++ Str.join (one c) (y :: r)) = cd x ++ c :: joinC c ((y :: r).map cd)
    rw [cd_app, cd_app, cd_join c (y :: r)]
    show cd x ++ [c] ++ _ = _
    rw [List.append_assoc]
    rfl
theorem txt_join (c : Nat) (ys : List Str) : Txt.join (one c) ys = Str.join (one c) ys := StrLaws.glued_eq_join (one c) ys
/-- what lies before the first c is told by the text -/
theorem cut_at {c : Nat} : ∀ {x y r s : List Nat}, c ∉ x → c ∉ y → x ++ c :: r = y ++ c :: s → x = y ∧ r = s
  | [], [], r, s, _, _, h => by
    have h : c :: r = c :: s := h
    exact ⟨rfl, by injection h⟩
  | [], b :: y, r, s, _, hy, h => by
    have h : c :: r = b :: (y ++ c :: s) := h
    injection h with h1 h2
    exact absurd (h1 ▸ List.mem_cons_self) hy
  | a :: x, [], r, s, hx, _, h => by
    have h : a :: (x ++ c :: r) = c :: s := h
    injection h with h1 h2
    exact absurd (h1 ▸ List.mem_cons_self) hx
  | a :: x, b :: y, r, s, hx, hy, h => by
    have h : a :: (x ++ c :: r) = b :: (y ++ c :: s) := h
    injection h with h1 h2
    obtain ⟨e1, e2⟩ := cut_at (fun z => hx (List.mem_cons_of_mem _ z)) (fun z => hy (List.mem_cons_of_mem _ z)) h2
    exact ⟨by rw [h1, e1], e2⟩
theorem joinC_has {c : Nat} {x y : List Nat} {r : List (List Nat)} : c ∈ joinC c (x :: y :: r) := by
  show c ∈ x ++ c :: joinC c (y :: r)
  simp
theorem joinC_inj {c : Nat} : ∀ {xs ys : List (List Nat)}, xs ≠ [] → ys ≠ [] → (∀ x ∈ xs, c ∉ x) → (∀ y ∈ ys, c ∉ y) → joinC c xs = joinC c ys → xs = ys
  | [], _, h, _, _, _, _ => absurd rfl h
  | _, [], _, h, _, _, _ => absurd rfl h
  | [x], [y], _, _, _, _, h => by
    have h : x = y := h
    rw [h]
  | [x], y :: y2 :: s, _, _, hx, _, h => by
    have h : x = joinC c (y :: y2 :: s) := h
    exact absurd (h ▸ joinC_has) (hx x List.mem_cons_self)
  | x :: x2 :: r, [y], _, _, _, hy, h => by
    have h : joinC c (x :: x2 :: r) = y := h
    exact absurd (h ▸ joinC_has) (hy y List.mem_cons_self)
  | x :: x2 :: r, y :: y2 :: s, _, _, hx, hy, h => by
    obtain ⟨e1, e2⟩ := cut_at (hx x List.mem_cons_self) (hy y List.mem_cons_self) h
    rw [e1, joinC_inj (by simp) (by simp) (fun z hz => hx z (List.mem_cons_of_mem _ hz)) (fun z hz => hy z (List.mem_cons_of_mem _ hz)) e2]
theorem split_ne (x y : Str) : Txt.split x y ≠ [] := fun z => by
  have := PyProof.Rows.split_pos x y
  rw [z] at this
  exact absurd this (by decide)
theorem map_inj {α β : Type} {f : α → β} (hf : ∀ a b, f a = f b → a = b) : ∀ {xs ys : List α}, xs.map f = ys.map f → xs = ys
  | [], [], _ => rfl
  | [], _ :: _, h => by cases h
  | _ :: _, [], h => by cases h
  | x :: xs, y :: ys, h => by
    rw [List.map_cons, List.map_cons] at h
    injection h with h1 h2
    rw [hf _ _ h1, map_inj hf h2]
/-- parts without the sign come back from the text that is joined by it -/
theorem split_joined {c : Nat} {ys : List Str} (ne : ys ≠ []) (free : ∀ y ∈ ys, c ∉ cd y) : Txt.split (Txt.join (one c) ys) (one c) = ys := by
  have h := StrLaws.join_split (Txt.join (one c) ys) (one c)
  have h2 := congrArg cd h
  rw [cd_join] at h2
  have h3 : cd (Txt.join (one c) ys) = joinC c (ys.map cd) := by rw [txt_join, cd_join]
  rw [h3] at h2
  refine map_inj (f := cd) (fun a b => cd_inj) (joinC_inj (c := c) ?_ ?_ ?_ ?_ h2)
  · intro z
    exact split_ne _ _ (List.map_eq_nil_iff.mp z)
  · intro z
    exact ne (List.map_eq_nil_iff.mp z)
  · intro x hx
    obtain ⟨p, hp, rfl⟩ := List.mem_map.mp hx
    exact StrLaws.split_free _ c p hp
  · intro x hx
    obtain ⟨p, hp, rfl⟩ := List.mem_map.mp hx
    exact free p hp
end K0
end
/-! ### G0 -/
section
set_option Elab.async false
set_option linter.all false
set_option maxRecDepth 100000
set_option maxHeartbeats 4000000
/-! Defs whose promise is kept where nothing is being shown (no repr runs around them): FnG, its rule, its calls, the law's entry. -/
namespace K0
open PySem PySem.Spec PyProof.Rows L2
structure FnG (P : Program) (w : World) (K : PySem.W.Frag) (mg : Str → Option Value) (base : Heap) (CX : CXT) (k : Nat) (f : Addr) (fd : FuncData) (ps : List Str) (sp : Sp) : Prop where
  many : ∀ vs H Q E, sp vs H Q E → vs.length = ps.length
  go : ∀ (A : Around) (outer : List Env) (s : Shared) (H : Hp) (args : Args) (us : List Value) (vs : List V) (Q : VK) (E : XK), A.guards = some [] → Room k A → Env0 P w K mg base A outer s H → BindsTo s fd args (ps.zip us) → Vals vs us → sp vs H Q E → codeAny (model P w) A (.call (.ref f) args) (CR CX outer P w H s Q E) s
section
variable {P : Program} {w : World} {K : PySem.W.Frag} {mg : Str → Option Value} {base : Heap} {CX : CXT} {k : Nat} {f : Addr} {fd : FuncData}
theorem fnG_ofC {x qual : Str} {params : Arguments} {body : List Stmt} {scope : Scope} {dvs : List V} {kws : List (Str × V)} {N ps : List Str} {sp : Sp} (F : FunD K x qual params body scope dvs kws f fd) (S : FnScope N ps scope) (many : ∀ vs H Q E, sp vs H Q E → vs.length = ps.length)
    (hb : ∀ (cdv : Value), fd.code = cdv → ∀ (A : Around) (outer : List Env) (s : Shared) (H : Hp) (vs : List V) (Q : VK) (E : XK), (A.deeper (envOfC qual scope s.heap.objs.size f cdv)).guards = some [] → Room k (A.deeper (envOfC qual scope s.heap.objs.size f cdv)) → sp vs H Q E →
      ∃ t, PSs (cxOf CX P w K mg base N qual scope f cdv A outer s H E) body t ∧ t { nx := fun _ H' => Q .non H', rt := Q } (L2.start N vs) H) : FnG P w K mg base CX (k + 1) f fd ps sp := by
  obtain ⟨oc, od, dV, kV, doc, pm, an, cdv, ct, osl, rfl, lk, code, _, _⟩ := F.ex
  refine ⟨many, fun A outer s H args us vs Q E gd room e0 bd rel prom => ?_⟩
  have size := many _ _ _ _ prom
  have KX : K.In s.heap := e0.mod.kin.keeps fun b o z => (e0.bs b o z).1
  have lim : s.heap.NoLimit := e0.mod.nolimit.keeps fun b o z => (e0.bs b o z).1
  have kinds : ∀ y ∈ ps.zip us, scope.names.lookup y.1 = some .local ∨ (scope.names.lookup y.1 = some .cell ∧ ((cellsFrom (s.heap.objs.size + 1) scope.names []).lookup y.1).isSome = true) := fun ⟨n, v⟩ hy => (S.par n (List.of_mem_zip hy).1).elim .inl fun z => .inr ⟨z, PySem.W.cellsFrom_some _ _ _ (.inl z)⟩
  refine codeAny_call_function room.depth (KX _ _ lk) rfl S.co S.gen rfl (PySem.W.codeRec_of KX code) (bd _ _ _ _ (wpAny_newFunctionEnv_cells S.kind kinds fun env he s1 y => ?_))
  subst he
  obtain ⟨t, pf, rd⟩ := hb cdv rfl A outer s H vs Q E gd (room.deeper _) prom
  refine ⟨lim.keeps y.toInCall.keep, codeAny_func (wpAny_mono (pf.run [] s1 _ H _ (inv_start S room.hd e0 size rel y) rd) (fun fl s' z => ?_) fun e s' z => z)⟩
  cases fl with
  | ret u => obtain ⟨v, σ', H', J, rv, q⟩ := z; exact ⟨v, H', J.os, J.bare, J.base, J.hok, rv, q⟩
  | next => obtain ⟨σ', H', J, q⟩ := z; exact ⟨V.non, H', J.os, J.bare, J.base, J.hok, rfl, q⟩
  | brk => exact z.elim fun _ z => z.elim fun _ z => z.2.elim
  | cont => exact z.elim fun _ z => z.elim fun _ z => z.2.elim
theorem lawG {a : Addr} {mb : Str → Option Value} {x : Str} {sp : Sp} {s₁ : Shared} {vs : List Value} {ns : List Int} (KX : K.In s₁.heap) (hns : s₁.heap.Ns mainGlobals mg) (hmb : s₁.heap.Ns builtinsNs mb) (hbb : ∀ x : Str, x ≠ "__name__" → mb x = bootBuiltins x) (lim : s₁.heap.NoLimit) (gens : s₁.gens = #[])
    (obj : s₁.heap.get? a = some { cls := .type "list", data := .seq vs.toArray }) (its : IntsAre vs ns) (most : ns.length ≤ sizeLine) (room : Room k callerA) (F : ∀ base : Heap, K.In base → base.Ns mainGlobals mg → FnG P w K mg base CX k f fd [x] sp)
    (bind : ∀ (s : Shared) (u : Value), BindsTo s fd ⟨[u], []⟩ [(x, u)]) (prom : ∀ H : Hp, Only H → SqL K H a (ns.map V.int) → sp [.ref a] H (fun v _ => v = .bl true) fun _ _ _ => False) (none_out : ∀ H e s', CX [] H s₁ (fun _ _ _ => False) e s' → False) :
    codeAny (model P w) callerA (.call (.ref f) ⟨[.ref a], []⟩) (fun r s' => r = .ok (.ret (.bool true)) ∧ OldK s₁.heap s'.heap ∧ s'.os = s₁.os ∧ AllBare s'.gens) s₁ := by
  have rel := vals_ints its
  have size := its.length
  have main : ∀ H : Hp, Only H → SqL K H a (ns.map V.int) → HOk P w H s₁.heap → (∀ b, H b ≠ none → b = a) → (H a ≠ none → K.lookup a = none) → codeAny (model P w) callerA (.call (.ref f) ⟨[.ref a], []⟩) (fun r s' => r = .ok (.ret (.bool true)) ∧ OldK s₁.heap s'.heap ∧ s'.os = s₁.os ∧ AllBare s'.gens) s₁ := by
    intro H only seq hok just apart
    have at_a : ∀ {b : Addr}, H b ≠ none → b = a := fun {b} z => just b z
    have noDict : ∀ {b : Addr} {o : Obj} {es : Array DictEntry} {ep : Nat}, s₁.heap.get? b = some o → o.data = .dict es ep → H b = none := fun {b o es ep} e d => Classical.byContradiction fun z => by
      have e1 := at_a z
      subst e1
      rw [obj] at e
      cases e
      exact absurd (show Data.seq vs.toArray _ = Data.dict es ep from d) (fun q => by cases q)
    have keepNs : ∀ {b : Addr} {m : Str → Option Value}, s₁.heap.Ns b m → (hidT s₁.heap H).Ns b m := fun {b m} ⟨o, es, ep, e, d, r⟩ => ⟨o, es, ep, hidT_get e (noDict e d), d, r⟩
    have kin : K.In (hidT s₁.heap H) := fun b o e => hidT_get (KX b o e) (Classical.byContradiction fun z => by
      have e1 := at_a z
      subst e1
      rw [apart z] at e
      cases e)
    have mod : Mod K mg (hidT s₁.heap H) := ⟨kin, keepNs hns, ⟨mb, keepNs hmb, hbb⟩, lim.elim fun mc z => ⟨mc, keepNs z.1, z.2⟩⟩
    have e0 : Env0 P w K mg (hidT s₁.heap H) callerA [] s₁ H := ⟨rfl, mod, fun b o e => of_hidT e, Nat.le_of_eq (hidT_size _ _), trivial, (fun b z => nomatch (show b ∈ ([] : List Addr) from z)), hok, .of_eq gens⟩
    refine codeAny_mono ((F _ kin (keepNs hns)).go callerA [] s₁ H ⟨[.ref a], []⟩ [.ref a] [.ref a] _ _ rfl room e0 (bind s₁ (.ref a)) (.cons rfl .nil) (prom H only seq)) fun r s' z => ?_
    rcases r with e | fl
    · exact (none_out H e s' z).elim
    cases fl with
    | next => exact z.elim
    | brk => exact z.elim
    | cont => exact z.elim
    | ret u =>
      obtain ⟨v, H', os, bare, un, hok', rv, rfl⟩ := z
      obtain rfl : u = Value.bool true := rv
      refine ⟨rfl, OldK.of_keep fun b o e => ?_, os, bare⟩
      cases q : H b with
      | none => exact un.keep b o e q (fun z => nomatch (show b ∈ ([] : List Addr) from z)) (fun z => nomatch z)
      | some u =>
        rcases only b with z | ⟨ob, xs, z⟩
        · rw [q] at z
          cases z
        · obtain ⟨e1, _⟩ := hok b _ z
          obtain ⟨e2, _⟩ := hok' b _ (un.frzs b ob _ z)
          rw [e] at e1
          cases e1
          exact e2
  cases own : K.lookup a with
  | some o =>
    have e := KX a o own
    rw [obj] at e
    cases e
    exact main (fun _ => none) (fun _ => .inl rfl) (.inr ⟨_, vs.toArray, _, own, rfl, rfl, rfl, by rw [List.size_toArray, size]; exact most, by simpa using rel⟩) (fun b u z => nomatch (show (none : Option HO) = some u from z)) (fun b z => absurd rfl z) fun z => absurd rfl z
  | none =>
    have yes : ∀ {b : Addr}, b = a → (if b = a then some (HO.frz { cls := .type "list", data := .seq vs.toArray } (.lst (ns.map V.int))) else none) = some (HO.frz { cls := .type "list", data := .seq vs.toArray } (.lst (ns.map V.int))) := fun z => if_pos z
    refine main (fun b => if b = a then some (.frz { cls := .type "list", data := .seq vs.toArray } (.lst (ns.map V.int))) else none) (fun b => ?_) (.inl (.inr ⟨_, yes rfl⟩)) (fun b u z => ?_) (fun b z => Classical.byContradiction fun n => z (if_neg n)) fun _ => own
    · by_cases n : b = a
      · exact .inr ⟨_, _, yes n⟩
      · exact .inl (if_neg n)
    · by_cases n : b = a
      · have z2 := (yes n).symm.trans z
        cases z2
        subst n
        exact ⟨obj, by rw [List.length_map]; exact most, vs, _, rel, obj⟩
      · have z2 := (if_neg n).symm.trans z
        cases z2
end
section
variable {X : Cx} {CX : CXT} {k : Nat} {f : Addr} {fd : FuncData} {ps : List Str} {sp : Sp} {x : Str} {p pos : Pos} {e : Expr} {es : List Expr} {t : TA} {E : XK}
theorem peG (F : FnG X.prog X.w X.K X.mg X.base CX k f fd ps sp) (gd : X.A.guards = some []) (room : Room k X.A) (hg : Gl X x) (hm : X.mg x = some (.ref f)) (kp : PySem.W.keepIn X.K (.ref f) = true) (bd : Binds X.K fd ps []) (ps' : Passes CX X E) (ha : PA X (e :: es) t)
    (hdb : (x == ("__debug__" : Str)) = false := by decide) (he : starEach (e :: es) X.env = (false, eval e X.env) :: starEach es X.env := by rfl) (hpl : (backTo pos (starEach es X.env)).any (·.1) = false := by rfl) : PE X (.Call (.Name x p) (e :: es) [] pos) (tCall sp [] E t) :=
  ⟨fun pins s σ H Q I h => wpAny_Call_Name_kw (ld_glob I hg hm (PySem.W.callWith_K (h₀ := X.base) I.ok.mod.kin kp (thn (ha.run pos pins s σ H _ I h) fun us s1 ⟨vs, H1, I1, r, q⟩ => ⟨I1.kIn, by
    have q : sp (vs ++ []) H1 Q E := q
    rw [List.append_nil] at q
    have size : (us ++ []).length = ps.length := by rw [List.append_nil, ← r.length]; exact F.many _ _ _ _ q
    have bd2 := bd s1 us I1.kIn size
    rw [List.append_nil] at bd2
    refine wpAny_call (codeAny_mono (F.go X.A X.stack s1 H1 ⟨us, []⟩ us vs Q E gd room I1.env0 bd2 r q) fun res s' z => ?_)
    rcases res with err | fl
    · exact ps' pins σ H1 s1 err s' I1 z
    · cases fl with
      | ret u => exact I1.after z
      | next => exact z.elim
      | brk => exact z.elim
      | cont => exact z.elim⟩) he hpl) hdb)⟩
end
end K0
end
/-! ### D0 -/
section
set_option Elab.async false
set_option linter.all false
set_option maxRecDepth 100000
set_option maxHeartbeats 4000000
namespace K0
open PySem PySem.Spec PyProof.Rows L2
abbrev FnP (K : PySem.W.Frag) (x : Str) (i : Nat) (f : Addr) (fd : FuncData) : Prop := FunD K x x (defArgs (top i)) (defBody (top i)) (defScope (top i)) [] [] f fd
/-- a power whose base has few bits -/
def PowBits (i j : Int) : Prop := 0 ≤ j ∧ (Builtin.Int.intBits i : Int) * j ≤ 2 ^ 27
theorem op_powBits {X : Cx} : OpR X (binaryOp .Pow) (rI PowBits fun i j => .int (i ^ j.toNat)) := opI fun _ _ _ _ _ _ _ hc q => pow_int hc.1 hc.2 q
/-- three ints in a list: the dice -/
abbrev dk (a b c : Int) : HO := .lst [.int a, .int b, .int c]
theorem scDice : FnScope ["script", "at", "cell", "great", "mixed"] ["script", "at"] (defScope (top iDice)) := ⟨rfl, rfl, rfl, by decide +kernel, rfl, by decide +kernel, by decide +kernel⟩
def spDice (K : PySem.W.Frag) : Sp := fun vs H Q _ => ∃ (p : Addr) (ns : List Int) (j : Nat), vs = [.ref p, .int j] ∧ SqL K H p (ns.map V.int) ∧ ∀ d a b c, H d = none → Q (.ref d) (upd H d (dk a b c))
section
variable {P : Program} {w : World} {K : PySem.W.Frag} {mg : Str → Option Value} {base : Heap} {f fR fO : Addr} {fd fdR fdO : FuncData}
theorem ok_dice {k : Nat} (F : FnP K "_law_dice" iDice f fd) (mlen : mg "len" = none) (mint : mg "int" = none) (mabs : mg "abs" = none) (mmax : mg "max" = none) : FnOk P w K mg base CX0 (k + 1) f fd ["script", "at"] (spDice K) := by
  refine F.ok scDice (fun vs H Q E h => ?_) (fun cdv A outer s H vs Q E hr h => ?_)
  · obtain ⟨p, ns, j, rfl, _⟩ := h
    rfl
  · obtain ⟨p, ns, j, rfl, hS, q⟩ := h
    refine ⟨_, PSs.nox (pss_cons (ps_set (i := 2) scDice.nd rfl (.inl rfl) (pe_op op_add (pe_op op_mul pe_int (pv 1)) pe_int))
      (C8.pss_cut (ps_if (pt_cmpR op_lt (pv 1) (pe_callB call_len_seq (by rfl) mlen PySem.boot_len (pa_cons (pv 0) pa_nil)) (nomark _))
        (pss_one (ps_set (i := 2) scDice.nd rfl (.inl rfl) (pe_ix ix_list (pv 0) (pv 1) (fun _ _ => rfl)))) pss_nil)
      (pss_cons (ps_set (i := 3) scDice.nd rfl (.inl rfl) (pe_op op_mod (pe_callTy call_int1 (by rfl) mint boot_int (pa_cons (pe_callB call_abs (by rfl) mabs boot_abs (pa_cons (pv 2) pa_nil)) pa_nil))
        (pe_op op_powBits (pe_op op_powBits pe_int pe_int) pe_int)))
      (pss_cons (ps_set (i := 4) scDice.nd rfl (.inl rfl) (pe_op op_add (pe_op op_add (pe_op op_add (pe_op op_mul (pe_op op_mod (pe_callTy call_int1 (by rfl) mint boot_int (pa_cons (pv 3) pa_nil)) pe_int) pe_int) (pe_op op_mul pe_int (pv 1)))
        (pe_op op_mul pe_int (pe_callTy call_int1 (by rfl) mint boot_int (pa_cons (pe_cmpR op_lt (pv 2) pe_int (nomark _)) pa_nil)))) pe_int))
      (pss_one (ps_ret (pe_lst (pa_cons (pe_callB (call_max2 rfl) (by rfl) mmax boot_max (pa_cons pe_int (pa_cons (pe_op op_sub (pv 3) (pe_op op_powBits pe_int pe_int)) pa_nil)))
        (pa_cons (pe_op op_mod (pe_callTy call_int1 (by rfl) mint boot_int (pa_cons (pv 4) pa_nil)) pe_int) (pa_cons pe_int pa_nil)))))))))), ?_⟩
    refine ⟨_, rfl, _, _, rfl, rfl, .inl ⟨by decide, by decide⟩, _, _, rfl, rfl, ?_⟩
    refine ⟨fun σ' H' => ∃ cell : Int, σ' = [some (.ref p), some (.int j), some (.int cell), none, none] ∧ H' = H, ⟨_, rfl, _, rfl, p, _, rfl, .inl hS, _, _, rfl, rfl, _, rfl, ite2 (fun e => ?_) (fun e => ⟨_, rfl, rfl⟩)⟩, fun σ' H' hM => ?_⟩
    · have hj : j < ns.length := by
        have e2 : (j : Int) < ((ns.map V.int).length : Int) := of_decide_eq_true e
        rw [List.length_map] at e2
        omega
      have hg : (ns.map V.int)[j]? = some (.int ns[j]) := by
        rw [List.getElem?_map, List.getElem?_eq_getElem hj]
        rfl
      exact ⟨_, rfl, _, rfl, p, _, _, _, rfl, rfl, hS, atI_nat hg, _, rfl, rfl⟩
    · obtain ⟨cell, rfl, rfl⟩ := hM
      refine ⟨_, rfl, _, rfl, .inl ⟨_, rfl, _, _, rfl, rfl, ⟨by decide, by decide +kernel⟩, _, _, rfl, rfl, ⟨by decide, by decide +kernel⟩, _, _, rfl, rfl, (by show (0 : Int) < (10 ^ Int.toNat 60) ^ Int.toNat 12; decide +kernel), ?_⟩⟩
      refine ⟨_, rfl, .inl ⟨_, rfl, _, _, rfl, rfl, (by show (0 : Int) < 2147483399; decide), _, _, rfl, rfl, .inr ⟨by decide, by decide⟩, _, rfl, _, _, rfl, rfl, .inl ⟨by decide, by decide⟩, _, _, rfl, rfl, ?_⟩⟩
      refine ⟨_, rfl, _, _, rfl, rfl, .inr ⟨_, rfl, _, _, rfl, rfl, .inl ⟨by decide, by decide⟩, _, _, rfl, rfl, _, _, rfl, rfl, ?_⟩⟩
      refine ⟨_, rfl, _, _, rfl, rfl, ⟨by decide, by decide +kernel⟩, _, _, rfl, rfl, _, _, rfl, ?_⟩
      refine ⟨_, rfl, .inl ⟨_, rfl, _, _, rfl, rfl, (by show (0 : Int) < 2305843009213693907; decide), (by show 3 ≤ sizeLine; decide), fun d hd => ?_⟩⟩
      exact q d _ _ _ hd
end
end K0
end
/-! ### D1 -/
section
set_option Elab.async false
set_option linter.all false
set_option maxRecDepth 100000
set_option maxHeartbeats 4000000
namespace K0
open PySem PySem.Spec PyProof.Rows L2
theorem scRoll : FnScope ["dice", "total", "found", "one", "two"] ["dice", "total"] (defScope (top iRoll)) := ⟨rfl, rfl, rfl, by decide +kernel, rfl, by decide +kernel, by decide +kernel⟩
def spRoll : Sp := fun vs H Q _ => ∃ (p : Addr) (a b c t : Int), vs = [.ref p, .int t] ∧ H p = some (dk a b c) ∧ CDivW a t ∧ ∀ a' b' c' r, 0 ≤ r → r < t → Q (.int r) (upd H p (dk a' b' c'))
theorem mod_small {x m : Int} (h : 0 < m) (h2 : m ≤ 2 ^ 62) : -(2 ^ 64) < x % m ∧ x % m < 2 ^ 64 := by
  have h0 := Int.emod_nonneg x (show m ≠ 0 by omega)
  have h1 := Int.emod_lt_of_pos x h
  omega
theorem scOne : FnScope ["dice", "items"] ["dice", "items"] (defScope (top iOne)) := ⟨rfl, rfl, rfl, by decide +kernel, rfl, by decide +kernel, by decide +kernel⟩
/-- the items are a list or a tuple xs, or the signs of a text -/
def Its (K : PySem.W.Frag) (H : Hp) (v : V) (xs : List V) : Prop := (∃ q, v = .ref q ∧ (SqL K H q xs ∨ SqT K H q xs)) ∨ ∃ z : Str, v = .str z ∧ z.length ≤ sizeLine ∧ xs = z.cps.toList.map fun c => V.str ⟨#[c]⟩
theorem len_div {a : Int} {n : Nat} (h : 0 < n) (hz : n ≤ sizeLine) : CDivW a (n : Int) := by
  have e := sizeLine_eq
  refine wide_div (b := 25) (by omega) ?_ (by decide) (by decide)
  have e2 : (2 : Nat) ^ 25 = 33554432 := by decide
  have e3 : (sizeLine : Nat) = 16777216 := e
  omega
theorem its_len {K : PySem.W.Frag} {H : Hp} {v : V} {xs : List V} (h : Its K H v xs) : LenV K v H xs.length := by
  rcases h with ⟨a, rfl, h | h⟩ | ⟨z, rfl, hz, rfl⟩
  · exact .inl ⟨xs, h, rfl⟩
  · exact .inr ⟨xs, h, rfl⟩
  · refine ⟨hz, ?_⟩
    rw [List.length_map]
    first | rfl | simp [Str.length]
theorem its_at {K : PySem.W.Frag} {H : Hp} {v x : V} {xs : List V} {i : Nat} {Q : VK} (h : Its K H v xs) (e : xs[i]? = some x) (q : Q x H) : rIx K v (.int (i : Int)) H Q := by
  rcases h with ⟨a, rfl, h | h⟩ | ⟨z, rfl, hz, rfl⟩
  · exact .inl ⟨a, xs, _, x, rfl, rfl, h, atI_nat e, q⟩
  · exact .inr (.inl ⟨a, xs, _, x, rfl, rfl, h, atI_nat e, q⟩)
  · rw [List.getElem?_map] at e
    cases hc : z.cps.toList[i]? with
    | none => rw [hc] at e; cases e
    | some c =>
      rw [hc] at e
      cases e
      exact .inr (.inr ⟨z, _, c, rfl, rfl, hz, atI_nat hc, q⟩)
section
variable {P : Program} {w : World} {K : PySem.W.Frag} {mg : Str → Option Value} {base : Heap} {f fR fO : Addr} {fd fdR fdO : FuncData}
theorem ok_roll {k : Nat} (F : FnP K "_law_roll" iRoll f fd) (mint : mg "int" = none) : FnOk P w K mg base CX0 (k + 1) f fd ["dice", "total"] spRoll := by
  refine F.ok scRoll (fun vs H Q E h => ?_) (fun cdv A outer s H vs Q E hr h => ?_)
  · obtain ⟨p, a, b, c, t, rfl, _⟩ := h
    rfl
  · obtain ⟨p, a, b, c, t, rfl, hp, ht, q⟩ := h
    have t0 : 0 < t := ht.1
    refine ⟨_, PSs.nox (pss_cons (ps_if (pt_cmpR op_gt (pe_ix ix_list (pv 0) pe_int (fun _ _ => rfl)) pe_int (nomark _))
        (pss_cons (ps_set (i := 2) scRoll.nd rfl (.inl rfl) (pe_op op_mod (pe_callTy call_int1 (by rfl) mint boot_int (pa_cons (pe_ix ix_list (pv 0) pe_int (fun _ _ => rfl)) pa_nil)) (pv 1)))
        (pss_cons (ps_asg (pe_op op_fdivW (pe_ix ix_list (pv 0) pe_int (fun _ _ => rfl)) (pv 1)) (pg_sub (pv 0) pe_int set_list)) (pss_one (ps_ret (pv 2))))) pss_nil)
      (pss_cons (ps_asg (pe_op op_add (pe_ix ix_list (pv 0) pe_int (fun _ _ => rfl)) pe_int) (pg_sub (pv 0) pe_int set_list))
      (pss_cons (ps_set (i := 3) scRoll.nd rfl (.inl rfl) (pe_op op_mod (pe_callTy call_int1 (by rfl) mint boot_int (pa_cons (pe_op op_add (pe_ix ix_list (pv 0) pe_int (fun _ _ => rfl)) (pe_op op_mul pe_int (pe_ix ix_list (pv 0) pe_int (fun _ _ => rfl)))) pa_nil)) pe_int))
      (pss_cons (ps_set (i := 4) scRoll.nd rfl (.inl rfl) (pe_op op_add (pe_op op_mul (pe_op op_mod (pe_callTy call_int1 (by rfl) mint boot_int (pa_cons (pe_op op_mul (pv 3) (pv 3)) pa_nil)) pe_int) (pv 3)) (pe_op op_mul pe_int (pe_ix ix_list (pv 0) pe_int (fun _ _ => rfl)))))
      (pss_cons (ps_set (i := 4) scRoll.nd rfl (.inl rfl) (pe_op op_mod (pe_callTy call_int1 (by rfl) mint boot_int (pa_cons (pv 4) pa_nil)) pe_int))
      (pss_one (ps_ret (pe_op op_mod (pe_callTy call_int1 (by rfl) mint boot_int (pa_cons (pe_op op_fdiv (pv 4) pe_int) pa_nil)) (pv 1))))))))), ?_⟩
    have hS : ∀ x y z : Int, SqL K (upd H p (dk x y z)) p [.int x, .int y, .int z] := fun x y z => .of upd_same
    refine ⟨_, rfl, p, _, _, _, rfl, rfl, .of hp, atI_nat (j := 0) rfl, _, _, rfl, rfl, _, rfl, ite2 (fun e => ?_) (fun e => ?_)⟩
    · refine ⟨_, rfl, p, _, _, _, rfl, rfl, .of hp, atI_nat (j := 0) rfl, .inl ⟨_, rfl, _, rfl, _, _, rfl, rfl, t0, ?_⟩⟩
      refine ⟨_, rfl, p, _, _, _, rfl, rfl, .of hp, atI_nat (j := 0) rfl, _, rfl, _, _, rfl, rfl, ht, ?_⟩
      refine ⟨_, rfl, p, _, _, 0, rfl, rfl, hp, rfl, ?_⟩
      exact ⟨_, rfl, q _ _ _ _ (Int.emod_nonneg _ (by omega)) (Int.emod_lt_of_pos _ t0)⟩
    · refine ⟨_, rfl, p, _, _, _, rfl, rfl, .of hp, atI_nat (j := 2) rfl, _, _, rfl, rfl, ?_⟩
      refine ⟨_, rfl, p, _, _, 2, rfl, rfl, hp, rfl, ?_⟩
      refine ⟨_, rfl, p, _, _, _, rfl, rfl, hS a b _, atI_nat (j := 1) rfl, _, rfl, p, _, _, _, rfl, rfl, hS a b _, atI_nat (j := 2) rfl, _, _, rfl, rfl, .inl ⟨by decide, by decide⟩, _, _, rfl, rfl, .inl ⟨_, rfl, _, _, rfl, rfl, (by show (0 : Int) < 2305843009213693951; decide), ?_⟩⟩
      refine ⟨_, rfl, _, rfl, _, _, rfl, rfl, .inl (mod_small (by decide) (by decide)), .inl ⟨_, rfl, _, _, rfl, rfl, (by show (0 : Int) < 2305843009213693921; decide), ?_⟩⟩
      refine ⟨_, rfl, _, _, rfl, rfl, .inl (mod_small (by decide) (by decide)), _, rfl, p, _, _, _, rfl, rfl, hS a b _, atI_nat (j := 2) rfl, _, _, rfl, rfl, .inl ⟨by decide, by decide⟩, _, _, rfl, rfl, ?_⟩
      refine ⟨_, rfl, .inl ⟨_, rfl, _, _, rfl, rfl, (by show (0 : Int) < 2305843009213693907; decide), ?_⟩⟩
      refine ⟨_, rfl, _, _, rfl, rfl, ⟨by decide, by decide⟩, .inl ⟨_, rfl, _, rfl, _, _, rfl, rfl, t0, ?_⟩⟩
      exact q _ _ _ _ (Int.emod_nonneg _ (by omega)) (Int.emod_lt_of_pos _ t0)
def spOne (K : PySem.W.Frag) : Sp := fun vs H Q _ => ∃ (p : Addr) (a b c : Int) (v : V) (xs : List V), vs = [.ref p, v] ∧ H p = some (dk a b c) ∧ Its K H v xs ∧ xs ≠ [] ∧ xs.length ≤ sizeLine ∧ (∀ a' b' c', Its K (upd H p (dk a' b' c')) v xs) ∧
  ∀ a' b' c' (i : Nat) x, xs[i]? = some x → Q x (upd H p (dk a' b' c'))
theorem ok_one {k : Nat} (F : FnP K "_law_one_of" iOne f fd) (FR : FnOk P w K mg base CX0 (k + 1) fR fdR ["dice", "total"] spRoll) (gR : mg "_law_roll" = some (.ref fR)) (kR : PySem.W.keepIn K (.ref fR) = true) (bR : Binds K fdR ["dice", "total"] []) (mlen : mg "len" = none) :
    FnOk P w K mg base CX0 (k + 2) f fd ["dice", "items"] (spOne K) := by
  refine F.ok scOne (fun vs H Q E h => ?_) (fun cdv A outer s H vs Q E hr h => ?_)
  · obtain ⟨p, a, b, c, v, xs, rfl, _⟩ := h
    rfl
  · obtain ⟨p, a, b, c, v, xs, rfl, hp, hI, hx, hz, hI2, q⟩ := h
    refine ⟨_, PSs.nox (pss_one (ps_ret (pe_ix ix_seq (pv 1) (pe_call FR hr (by rfl) gR kR bR .nil pass0 (pa_cons (pv 0) (pa_cons (pe_callB call_len (by rfl) mlen PySem.boot_len (pa_cons (pv 1) pa_nil)) pa_nil))) (fun _ _ => rfl)))), ?_⟩
    have hl0 : 0 < xs.length := List.length_pos_iff.mpr hx
    refine ⟨_, rfl, _, rfl, _, rfl, _, xs.length, rfl, its_len hI, ?_⟩
    refine ⟨p, a, b, c, _, rfl, hp, len_div hl0 hz, fun a' b' c' r h0 h1 => ?_⟩
    have hr2 : r.toNat < xs.length := by omega
    have er : r = (r.toNat : Int) := by omega
    have hg : xs[r.toNat]? = some xs[r.toNat] := List.getElem?_eq_getElem hr2
    have q2 := q a' b' c' r.toNat _ hg
    rw [er]
    exact its_at (hI2 a' b' c') hg q2
end
end K0
end
/-! ### D2 -/
section
set_option Elab.async false
set_option linter.all false
set_option maxRecDepth 100000
set_option maxHeartbeats 4000000
namespace K0
open PySem PySem.Spec PyProof.Rows L2
/-- all but the dice at p is as it was; the dice are dice -/
def Keep (p : Addr) (H H' : Hp) : Prop := (∀ b o, b ≠ p → H b = some o → H' b = some o) ∧ ∃ a b c, H' p = some (dk a b c)
theorem Keep.refl {p : Addr} {H : Hp} {a b c : Int} (h : H p = some (dk a b c)) : Keep p H H := ⟨fun _ _ _ e => e, a, b, c, h⟩
theorem Keep.trans {p : Addr} {H H1 H2 : Hp} (h : Keep p H H1) (k : Keep p H1 H2) : Keep p H H2 := ⟨fun b o n e => k.1 b o n (h.1 b o n e), k.2⟩
theorem Keep.new {p q : Addr} {H : Hp} {o : HO} {a b c : Int} (h : H p = some (dk a b c)) (n : H q = none) : Keep p H (upd H q o) :=
  ⟨fun b u hb e => by rw [upd_ne (ne_of_none e n)]; exact e, a, b, c, by rw [upd_ne (ne_of_none h n)]; exact h⟩
theorem Keep.new2 {p q : Addr} {H H' : Hp} {o : HO} (h : Keep p H H') (n : H' q = none) : Keep p H (upd H' q o) := by
  obtain ⟨a, b, c, e⟩ := h.2
  exact h.trans (.new e n)
theorem Keep.dice {p : Addr} {H : Hp} (a b c : Int) : Keep p H (upd H p (dk a b c)) := ⟨fun d o n e => by rw [upd_ne n]; exact e, a, b, c, upd_same⟩
theorem scAll : FnScope [] [] (defScope (top iAll)) := ⟨rfl, rfl, rfl, by decide +kernel, rfl, by decide +kernel, by decide +kernel⟩
def allSigns : Str := "#$0123:_abcdefg"
def spAll : Sp := fun vs H Q _ => vs = [] ∧ Q (.str allSigns) H
theorem mapV_str (sg : Str) : sg.cps.toList.map (fun c => V.str ⟨#[c]⟩) = (sg.cps.toList.map fun c => (⟨#[c]⟩ : Str)).map V.str := by rw [List.map_map]; rfl
section
variable {P : Program} {w : World} {K : PySem.W.Frag} {mg : Str → Option Value} {base : Heap} {f fR fO : Addr} {fd fdR fdO : FuncData}
theorem ok_all {k : Nat} (F : FnP K "_law_all_signs" iAll f fd) : FnOk P w K mg base CX0 (k + 1) f fd [] spAll := by
  refine F.ok scAll (fun vs H Q E h => ?_) (fun cdv A outer s H vs Q E hr h => ?_)
  · rw [h.1]; rfl
  · obtain ⟨rfl, q⟩ := h
    exact ⟨_, PSs.nox (pss_one (ps_ret pe_str)), q⟩
end
end K0
end
/-! ### V0 -/
section
set_option Elab.async false
set_option linter.all false
set_option maxRecDepth 100000
set_option maxHeartbeats 4000000
/-! Values of any depth with dicts (Dv), read off the heap; repr of them. -/
namespace K0
open PySem PySem.Spec PyProof.Rows L2
def keyD : Key → PyData
  | .inl i => .int i
  | .inr x => .str x
mutual
inductive Dv (K : PySem.W.Frag) (H : Hp) : V → PyData → Prop
  | non : Dv K H .non .none
  | bl (b : Bool) : Dv K H (.bl b) (.bool b)
  | int (i : Int) : Dv K H (.int i) (.int i)
  | str (x : Str) : Dv K H (.str x) (.str x)
  | lst {a : Addr} {xs : List V} {ds : List PyData} : SqL K H a xs → DvAll K H xs ds → Dv K H (.ref a) (.list ds)
  | tup {a : Addr} {xs : List V} {ds : List PyData} : SqT K H a xs → DvAll K H xs ds → Dv K H (.ref a) (.tuple ds)
  | dic {a : Addr} {kvs : List (Key × V)} {ds : List (PyData × PyData)} : H a = some (.dK kvs) → ds.map (·.1) = kvs.map (fun p => keyD p.1) → DvAll K H (kvs.map (·.2)) (ds.map (·.2)) → Dv K H (.ref a) (.dict ds)
inductive DvAll (K : PySem.W.Frag) (H : Hp) : List V → List PyData → Prop
  | nil : DvAll K H [] []
  | cons {v : V} {vs : List V} {d : PyData} {ds : List PyData} : Dv K H v d → DvAll K H vs ds → DvAll K H (v :: vs) (d :: ds)
end
theorem same_tup {K : PySem.W.Frag} {H H' : Hp} {a : Addr} {xs : List V} (e : Same H H') (h : SqT K H a xs) : SqT K H' a xs := by
  rcases h with (h | ⟨o, h⟩) | h
  · exact .inl (.inl (e _ _ h))
  · exact .inl (.inr ⟨o, e _ _ h⟩)
  · exact .inr h
mutual
theorem Dv.same {K : PySem.W.Frag} {H H' : Hp} (e : Same H H') : ∀ (d : PyData) (v : V), Dv K H v d → Dv K H' v d
  | .none, _, h => by cases h; exact .non
  | .bool b, _, h => by cases h; exact .bl b
  | .int i, _, h => by cases h; exact .int i
  | .str x, _, h => by cases h; exact .str x
  | .list ds, _, h => by cases h with | lst h1 h2 => exact .lst (e.seq h1) (DvAll.same e ds _ h2)
  | .tuple ds, _, h => by cases h with | tup h1 h2 => exact .tup (same_tup e h1) (DvAll.same e ds _ h2)
  | .dict ds, _, h => by cases h with | dic h1 h2 h3 => exact .dic (e _ _ h1) h2 (DvAll.sameKv e ds _ h3)
theorem DvAll.same {K : PySem.W.Frag} {H H' : Hp} (e : Same H H') : ∀ (ds : List PyData) (vs : List V), DvAll K H vs ds → DvAll K H' vs ds
  | [], _, h => by cases h; exact .nil
  | d :: ds, _, h => by cases h with | cons h1 h2 => exact .cons (Dv.same e d _ h1) (DvAll.same e ds _ h2)
theorem DvAll.sameKv {K : PySem.W.Frag} {H H' : Hp} (e : Same H H') : ∀ (ds : List (PyData × PyData)) (vs : List V), DvAll K H vs (ds.map (·.2)) → DvAll K H' vs (ds.map (·.2))
  | [], _, h => by cases h; exact .nil
  | (k, d) :: ds, _, h => by cases h with | cons h1 h2 => exact .cons (Dv.same e d _ h1) (DvAll.sameKv e ds _ h2)
end
theorem Dv.same' {K : PySem.W.Frag} {H H' : Hp} {v : V} {d : PyData} (h : Dv K H v d) (e : Same H H') : Dv K H' v d := Dv.same e d v h
/-- the written part knows where sys.modules stands -/
def sysB (K : PySem.W.Frag) : Bool := match K.lookup sysModules with
  | some o => o.cls == .type "dict"
  | none => false
section
variable {X : Cx} {pins : List (Addr × Obj)} {σ : L2.St} {H : Hp} {s : Shared}
theorem sys_obj (I : Inv X pins σ H s) (b : sysB X.K = true) : ∃ o, s.heap.get? sysModules = some o ∧ o.cls = .type "dict" ∧ H sysModules = none := by
  unfold sysB at b
  cases e : X.K.lookup sysModules with
  | none => rw [e] at b; cases b
  | some o =>
    rw [e] at b
    have z := I.bs _ _ (I.ok.mod.kin _ _ e)
    exact ⟨o, z.1, by simpa using b, z.2⟩
theorem keys_read {h : Heap} {P : Program} {w : World} : ∀ {es : List DictEntry} {kvs : List (Key × Value)}, Pairs (mixKind P w) es kvs → ReadsAll h (es.map (·.key)) (kvs.map fun p => keyD p.1) []
  | _, _, .nil => .nil
  | _, _, .cons (e := e) (kv := kv) h1 h2 h3 => by
    have r : Reads h e.key (keyD kv.1) [] := by
      rcases keyIs_shape (show keyIs kv.1 e.key = true from h1) with ⟨i, t, e1, e2⟩ | ⟨y, t, e1, e2⟩
      · rw [e1, e2]; exact .int i t
      · rw [e1, e2]; exact .str y t
    have q := ReadsAll.cons r (keys_read (h := h) h3)
    simpa using q
theorem vals_of_pairs {P : Program} {w : World} : ∀ {es : List DictEntry} {kvs : List (Key × Value)}, Pairs (mixKind P w) es kvs → es.map (·.val) = kvs.map (·.2)
  | _, _, .nil => rfl
  | _, _, .cons h1 h2 h3 => by rw [List.map_cons, List.map_cons, h2, vals_of_pairs h3]
theorem kv_fst : ∀ {kvs : List (Key × V)} {vs : List (Key × Value)}, KV kvs vs → kvs.map (fun p => keyD p.1) = vs.map (fun p => keyD p.1)
  | _, _, .nil => rfl
  | _, _, .cons h1 h2 => by rw [List.map_cons, List.map_cons, h1.1, kv_fst h2]
theorem kv_snd : ∀ {kvs : List (Key × V)} {vs : List (Key × Value)}, KV kvs vs → Vals (kvs.map (·.2)) (vs.map (·.2))
  | _, _, .nil => .nil
  | _, _, .cons h1 h2 => .cons h1.2 (kv_snd h2)
theorem nomem_cons {a : Addr} {as : List Addr} {z : Addr} (h : z ≠ a) (h2 : z ∉ as) : z ∉ a :: as := fun m => (List.mem_cons.mp m).elim h h2
theorem nomem_app {as bs : List Addr} {z : Addr} (h : z ∉ as) (h2 : z ∉ bs) : z ∉ as ++ bs := fun m => (List.mem_append.mp m).elim h h2
mutual
theorem Dv.reads (I : Inv X pins σ H s) (b : sysB X.K = true) : ∀ (d : PyData) (v : V) (u : Value), Dv X.K H v d → RelV v u → ∃ as, Reads s.heap u d as ∧ sysModules ∉ as
  | .none, _, _, h, r => by cases h; cases r; exact ⟨_, .none, fun z => nomatch z⟩
  | .bool _, _, _, h, r => by cases h; cases r; exact ⟨_, .bool _, fun z => nomatch z⟩
  | .int _, _, _, h, r => by cases h; obtain ⟨t, rfl⟩ := r; exact ⟨_, .int _ t, fun z => nomatch z⟩
  | .str _, _, _, h, r => by cases h; obtain ⟨t, rfl⟩ := r; exact ⟨_, .str _ t, fun z => nomatch z⟩
  | .list ds, _, _, h, r => by
    cases h with
    | lst h1 h2 =>
      cases r
      obtain ⟨its, rv, ⟨o, n, ho, hc, _, hd⟩, _⟩ := I.list h1
      obtain ⟨as, q, z⟩ := DvAll.reads I b ds _ its h2 rv
      refine ⟨_, .list ho hc hd q, nomem_cons (fun e => ?_) z⟩
      obtain ⟨o2, e1, e2, _⟩ := sys_obj I b
      rw [e, ho] at e1
      cases e1
      rw [hc] at e2
      exact absurd e2 (by decide)
  | .tuple ds, _, _, h, r => by
    cases h with
    | tup h1 h2 =>
      cases r
      obtain ⟨its, rv, ⟨o, ho, hc, n, hd⟩, _⟩ := I.tuple h1
      obtain ⟨as, q, z⟩ := DvAll.reads I b ds _ its h2 rv
      exact ⟨_, .tuple ho hc hd q, z⟩
  | .dict ds, _, _, h, r => by
    cases h with
    | dic h1 h2 h3 =>
      cases r
      obtain ⟨_, hsys, vs, kv, o, es, ep, ho, ex, hd, _, pr, _⟩ := I.hok _ _ h1
      obtain ⟨as, q, z⟩ := DvAll.readsKv I b ds _ (es.toList.map (·.val)) h3 (by rw [vals_of_pairs pr]; exact kv_snd kv)
      have ks : ReadsAll s.heap (es.toList.map (·.key)) (ds.map (·.1)) [] := by rw [h2, kv_fst kv]; exact keys_read pr
      refine ⟨_, .dict ho ex.1 hd ks q, ?_⟩
      exact nomem_cons (fun e => by rw [← e] at hsys; simp at hsys) z
theorem DvAll.reads (I : Inv X pins σ H s) (b : sysB X.K = true) : ∀ (ds : List PyData) (vs : List V) (us : List Value), DvAll X.K H vs ds → Vals vs us → ∃ as, ReadsAll s.heap us ds as ∧ sysModules ∉ as
  | [], _, _, h, r => by cases h; cases r; exact ⟨_, .nil, fun z => nomatch z⟩
  | d :: ds, _, _, h, r => by
    cases h with
    | cons h1 h2 =>
      cases r with
      | cons r1 r2 =>
        obtain ⟨as, q1, z1⟩ := Dv.reads I b d _ _ h1 r1
        obtain ⟨bs, q2, z2⟩ := DvAll.reads I b ds _ _ h2 r2
        exact ⟨_, .cons q1 q2, nomem_app z1 z2⟩
theorem DvAll.readsKv (I : Inv X pins σ H s) (b : sysB X.K = true) : ∀ (ds : List (PyData × PyData)) (vs : List V) (us : List Value), DvAll X.K H vs (ds.map (·.2)) → Vals vs us → ∃ as, ReadsAll s.heap us (ds.map (·.2)) as ∧ sysModules ∉ as
  | [], _, _, h, r => by cases h; cases r; exact ⟨_, .nil, fun z => nomatch z⟩
  | (k, d) :: ds, _, _, h, r => by
    cases h with
    | cons h1 h2 =>
      cases r with
      | cons r1 r2 =>
        obtain ⟨as, q1, z1⟩ := Dv.reads I b d _ _ h1 r1
        obtain ⟨bs, q2, z2⟩ := DvAll.readsKv I b ds _ _ h2 r2
        exact ⟨_, .cons q1 q2, nomem_app z1 z2⟩
end
/-- small enough to be shown -/
structure Fit (d : PyData) : Prop where
  able : d.showable = true
  leaf : d.leavesShort 60 = true
  bulk : d.bulk ≤ 100000
  depth : d.depth ≤ 8
theorem Fit.size {d : PyData} (f : Fit d) : d.shown.length ≤ sizeLine := by
  have h := PyData.shown_le_bulk 60 (by decide) d f.leaf
  have h2 := f.bulk
  rw [sizeLine_eq]
  omega
def rRepr (K : PySem.W.Frag) : List V → Hp → VK → Prop := fun xs H Q => ∃ x d, xs = [x] ∧ Dv K H x d ∧ Fit d ∧ Q (.str d.shown) H
theorem call_repr (b : sysB X.K = true) (gd : X.A.guards = some []) (hu : X.A.units + 64 < cLine) : CallR X (.builtin "repr") (rRepr X.K) := by
  intro pins s σ H xs us Q I r h
  obtain ⟨x, d, rfl, hd, ft, q⟩ := h
  obtain ⟨u, rfl, rx⟩ := vals1 r
  obtain ⟨as, rd, nos⟩ := Dv.reads I b d x u hd rx
  have fin : ∀ t s2, Inv X pins σ H s2 → EP X pins σ Q (.str d.shown t) s2 := fun t s2 J => ⟨.str d.shown, H, J, ⟨t, rfl⟩, q⟩
  have dp := ft.depth
  cases hd with
  | non => cases rx; exact PySem.P.repr_of_none (by simpa [PyData.shown] using fin _ _ (I.tok _))
  | bl c => cases rx; exact PySem.P.repr_of_bool (by simpa [PyData.shown] using fin _ _ (I.tok _))
  | int i => obtain ⟨t, rfl⟩ := rx; exact PySem.P.repr_of_int (by have z := ft.able; simpa [PyData.showable] using z) (by simpa [PyData.shown] using fin _ _ (I.tok _))
  | str z => obtain ⟨t, rfl⟩ := rx; exact PySem.P.repr_of_str (by simpa [PyData.shown] using fin _ _ (I.tok _)) (by simpa [PyData.shown] using ft.size)
  | lst h1 h2 => cases rx; exact repr_of_reads' rd ft.able (fun _ => nos) gd (by omega) (fun _ _ e => e) (fun h' u tk k => fin _ _ (I.kept k)) ft.size
  | tup h1 h2 => cases rx; exact repr_of_reads' rd ft.able (fun _ => nos) gd (by omega) (fun _ _ e => e) (fun h' u tk k => fin _ _ (I.kept k)) ft.size
  | dic h1 h2 h3 => cases rx; exact repr_of_reads' rd ft.able (fun _ => nos) gd (by omega) (fun _ _ e => e) (fun h' u tk k => fin _ _ (I.kept k)) ft.size
end
end K0
end
/-! ### O0 -/
section
set_option Elab.async false
set_option linter.all false
set_option maxRecDepth 100000
set_option maxHeartbeats 4000000
/-! Displays of data: what they evaluate to (Ev1, EvN), beside the dice at p; a text repeated; the drawn odd value. -/
namespace K0
open PySem PySem.Spec PyProof.Rows L2
def rep (z : Str) (n : Int) : Str := ⟨(List.replicate n.toNat z.cps).foldl (· ++ ·) #[]⟩
theorem fold_size {α : Type} (cs : Array α) : ∀ (k : Nat) (acc : Array α), ((List.replicate k cs).foldl (· ++ ·) acc).size = acc.size + k * cs.size
  | 0, acc => by simp
  | k + 1, acc => by
    rw [List.replicate_succ, List.foldl_cons, fold_size cs k, Array.size_append, Nat.succ_mul]
    omega
theorem rep_len (z : Str) (n : Int) : (rep z n).length = n.toNat * z.length := by
  show ((List.replicate n.toNat z.cps).foldl (· ++ ·) #[]).size = _
  rw [fold_size]
  show 0 + _ = _
  rw [Nat.zero_add]
  rfl
def rStrMul : R2 := fun x y H Q => ∃ (z : Str) (n : Int), x = .str z ∧ y = .int n ∧ 2 ≤ n ∧ n ≤ 10000 ∧ 1 ≤ z.length ∧ z.length ≤ 1000 ∧ Q (.str (rep z n)) H
theorem op_strMul {X : Cx} : OpR X (binaryOp .Mult) rStrMul := by
  intro pins s σ H x y v u Q I rx ry h
  obtain ⟨z, n, rfl, rfl, n2, n1, z1, z2, q⟩ := h
  obtain ⟨t, rfl⟩ := rx
  obtain ⟨t', rfl⟩ := ry
  have e2 : (2 : Int) ^ 63 = 9223372036854775808 := by decide
  have hn1 : (n == 1) = false := by simp; omega
  have hz0 : (z.length == 0) = false := by simp; omega
  have big : z.length * n.toNat ≤ 1000 * 10000 := Nat.mul_le_mul z2 (by omega)
  refine PySem.P.mul_str (by simp; omega) (fun _ _ => ?_) (fun _ _ => ?_) ?_
  · have h1 : (1000 : Int) ≤ (2 ^ 63 - 1) / n := (Int.le_ediv_iff_mul_le (by omega)).mpr (by omega)
    omega
  · unfold Builtin.Str.tooLong
    rw [sizeLine_eq]
    exact decide_eq_false (by omega)
  · rw [if_neg (by omega), if_neg (by rw [hn1, hz0]; simp)]
    have hl := rep_len z n
    refine ⟨by show (rep z n).length ≤ sizeLine; rw [hl, Nat.mul_comm, sizeLine_eq]; omega, ?_⟩
    exact ⟨.str (rep z n), H, I.tok _, ⟨_, rfl⟩, q⟩
/-- the heap without what stands at p -/
def hid (p : Addr) (H : Hp) : Hp := fun b => if b = p then none else H b
theorem hid_ne {p b : Addr} {H : Hp} (h : b ≠ p) : hid p H b = H b := if_neg h
theorem hid_same {p : Addr} {H H' : Hp} (h : ∀ b o, b ≠ p → H b = some o → H' b = some o) : Same (hid p H) (hid p H') := fun b o e => by
  by_cases hb : b = p
  · subst hb
    have z : (none : Option HO) = some o := (if_pos rfl).symm.trans e
    cases z
  · rw [hid_ne hb] at e ⊢
    exact h b o hb e
theorem hid_out {p : Addr} {H : Hp} : Same (hid p H) H := fun b o e => by
  by_cases hb : b = p
  · subst hb
    have z : (none : Option HO) = some o := (if_pos rfl).symm.trans e
    cases z
  · rw [hid_ne hb] at e
    exact e
theorem same_upd {H : Hp} {q : Addr} {o : HO} (h : H q = none) : Same H (upd H q o) := fun b u e => by
  rw [upd_ne (ne_of_none e h)]
  exact e
def Dice (p : Addr) (H : Hp) : Prop := ∃ a b c, H p = some (dk a b c)
theorem Dice.same {p : Addr} {H H' : Hp} (h : Dice p H) (e : Same H H') : Dice p H' := by
  obtain ⟨a, b, c, z⟩ := h
  exact ⟨a, b, c, e _ _ z⟩
theorem Dice.ne {p q : Addr} {H : Hp} (h : Dice p H) (n : H q = none) : q ≠ p := by
  obtain ⟨a, b, c, z⟩ := h
  exact (ne_of_none z n).symm
theorem DvAll.length {K : PySem.W.Frag} {H : Hp} : ∀ {xs : List V} {ds : List PyData}, DvAll K H xs ds → xs.length = ds.length
  | _, [], h => by cases h; rfl
  | _, d :: ds, h => by cases h with | cons h1 h2 => rw [List.length_cons, List.length_cons, DvAll.length h2]
theorem DvAll.get {K : PySem.W.Frag} {H : Hp} : ∀ {ds : List PyData} {xs : List V} {i : Nat} {x : V}, DvAll K H xs ds → xs[i]? = some x → ∃ d, ds[i]? = some d ∧ Dv K H x d
  | [], _, i, x, h, e => by cases h; simp at e
  | d :: ds, _, 0, x, h, e => by cases h with | cons h1 h2 => simp at e; subst e; exact ⟨d, rfl, h1⟩
  | d :: ds, _, i + 1, x, h, e => by cases h with | cons h1 h2 => exact DvAll.get (i := i) h2 (by simpa using e)
theorem DvAll.append {K : PySem.W.Frag} {H : Hp} : ∀ {ds es : List PyData} {xs ys : List V}, DvAll K H xs ds → DvAll K H ys es → DvAll K H (xs ++ ys) (ds ++ es)
  | [], _, _, _, h, g => by cases h; exact g
  | d :: ds, _, _, _, h, g => by cases h with | cons h1 h2 => exact .cons h1 (DvAll.append h2 g)
section
variable {K : PySem.W.Frag} {p : Addr} {σ : L2.St}
def Ev1 (K : PySem.W.Frag) (p : Addr) (σ : L2.St) (te : TE) (d : PyData) : Prop := ∀ H Q, Dice p H → (∀ x H', Same H H' → Dv K (hid p H') x d → Q x H') → te σ H Q
def EvN (K : PySem.W.Frag) (p : Addr) (σ : L2.St) (ta : TA) (ds : List PyData) : Prop := ∀ H Q, Dice p H → (∀ xs H', Same H H' → DvAll K (hid p H') xs ds → Q xs H') → ta σ H Q
theorem ev_non : Ev1 K p σ (tC .non) .none := fun H Q _ q => q _ H (Same.refl H) .non
theorem ev_bl {b : Bool} : Ev1 K p σ (tC (.bl b)) (.bool b) := fun H Q _ q => q _ H (Same.refl H) (.bl b)
theorem ev_int {i : Int} : Ev1 K p σ (tC (.int i)) (.int i) := fun H Q _ q => q _ H (Same.refl H) (.int i)
theorem ev_str {z : Str} : Ev1 K p σ (tC (.str z)) (.str z) := fun H Q _ q => q _ H (Same.refl H) (.str z)
theorem ev_neg {i : Int} : Ev1 K p σ (tUn (rU fun i => .int (-i)) (tC (.int i))) (.int (-i)) := fun H Q _ q => ⟨i, rfl, q _ H (Same.refl H) (.int _)⟩
theorem ev_pow {i j : Int} (h : PowBits i j) : Ev1 K p σ (tOp (rI PowBits fun i j => .int (i ^ j.toNat)) (tC (.int i)) (tC (.int j))) (.int (i ^ j.toNat)) := fun H Q _ q => ⟨i, j, rfl, rfl, h, q _ H (Same.refl H) (.int _)⟩
theorem ev_rep {z : Str} {n : Int} (h : 2 ≤ n ∧ n ≤ 10000 ∧ 1 ≤ z.length ∧ z.length ≤ 1000) : Ev1 K p σ (tOp rStrMul (tC (.str z)) (tC (.int n))) (.str (rep z n)) := fun H Q _ q => ⟨z, n, rfl, rfl, h.1, h.2.1, h.2.2.1, h.2.2.2, q _ H (Same.refl H) (.str _)⟩
theorem ev_nil : EvN K p σ tNil [] := fun H Q _ q => q _ H (Same.refl H) .nil
theorem ev_cons {te : TE} {ta : TA} {d : PyData} {ds : List PyData} (h : Ev1 K p σ te d) (g : EvN K p σ ta ds) : EvN K p σ (tCons te ta) (d :: ds) := fun H Q D q =>
  h H _ D fun x H1 e1 v1 => g H1 _ (D.same e1) fun xs H2 e2 v2 => q _ H2 (e1.trans e2) (.cons (v1.same (hid_same fun b o _ z => e2 b o z)) v2)
theorem ev_tup {ta : TA} {ds : List PyData} (g : EvN K p σ ta ds) (hl : ds.length ≤ 1000) : Ev1 K p σ (tTup ta) (.tuple ds) := fun H Q D q =>
  g H _ D fun xs H1 e1 v1 => ⟨by rw [v1.length]; exact Nat.le_of_lt (small1000 hl), fun a na => q _ _ (e1.trans (same_upd na)) (.tup (xs := xs) (.of (by rw [hid_ne ((D.same e1).ne na), upd_same])) (v1.same (hid_same fun b o _ z => same_upd na b o z)))⟩
theorem ev_lst {ta : TA} {ds : List PyData} (g : EvN K p σ ta ds) (hl : ds.length ≤ 1000) : Ev1 K p σ (tLst ta) (.list ds) := fun H Q D q =>
  g H _ D fun xs H1 e1 v1 => ⟨by rw [v1.length]; exact Nat.le_of_lt (small1000 hl), fun a na => q _ _ (e1.trans (same_upd na)) (.lst (xs := xs) (.of (by rw [hid_ne ((D.same e1).ne na), upd_same])) (v1.same (hid_same fun b o _ z => same_upd na b o z)))⟩
theorem ev_dict0 : Ev1 K p σ tDNewK (.dict []) := fun H Q D q => fun a na => q _ _ (same_upd na) (.dic (kvs := []) (by rw [hid_ne (D.ne na), upd_same]) rfl .nil)
theorem ev_dict1 {k : Str} {i : Int} : Ev1 K p σ (tDisp [(tC (.str k), tC (.int i))]) (.dict [(.str k, .int i)]) := fun H Q D q => fun a na => by
  refine ⟨upd_same, [(.inr k, .int i)], rfl, (by show 1 ≤ 15; decide), ?_⟩
  rw [upd_upd]
  exact q _ _ (same_upd na) (.dic (kvs := [(.inr k, .int i)]) (by rw [hid_ne (D.ne na), upd_same]; rfl) rfl (.cons (.int i) .nil))
end
end K0
end
/-! ### A1 -/
section
set_option Elab.async false
set_option linter.all false
set_option maxRecDepth 100000
set_option maxHeartbeats 4000000
/-! Values by their data: types, signs, texts, numbers; strip of a set of signs leaves nothing just of texts of them. -/
namespace K0
open PySem PySem.Spec PyProof.Rows L2
def dty : PyData → String
  | .none => "NoneType"
  | .bool _ => "bool"
  | .int _ => "int"
  | .str _ => "str"
  | .list _ => "list"
  | .tuple _ => "tuple"
  | .dict _ => "dict"
theorem Dv.ty {K : PySem.W.Frag} {H : Hp} {v : V} {d : PyData} (h : Dv K H v d) : TyX K H v (.type (dty d)) := by
  cases h with
  | non => exact .base .non
  | bl b => exact .base (.bl b)
  | int i => exact .base (.int i)
  | str x => exact .base (.str x)
  | lst h1 h2 =>
    rcases h1 with (h1 | ⟨o, h1⟩) | ⟨o, its, n, h1, c, _⟩
    · exact .base (.lst h1)
    · exact .base (.frz h1)
    · exact .kList h1 c
  | tup h1 h2 =>
    rcases h1 with (h1 | ⟨o, h1⟩) | ⟨o, its, n, h1, c, _⟩
    · exact .base (.tup h1)
    · exact .fTuple h1
    · exact .kTuple h1 c
  | dic h1 h2 h3 => exact .base (.dK h1)
def isStrD : PyData → Bool
  | .str _ => true
  | _ => false
def isIntD : PyData → Bool
  | .int _ => true
  | .bool _ => true
  | _ => false
def isBoolD : PyData → Bool
  | .bool _ => true
  | _ => false
def isTupD : PyData → Bool
  | .tuple _ => true
  | _ => false
section
variable {K : PySem.W.Frag}
theorem kit_str (d : PyData) : PySem.W.kitOne K (.type (dty d)) (.type "str") = some (isStrD d) := by cases d <;> (dsimp only [dty, isStrD, isIntD, isBoolD, isTupD]; exact kit_ty (by decide +kernel))
theorem kit_int (d : PyData) : PySem.W.kitOne K (.type (dty d)) (.type "int") = some (isIntD d) := by cases d <;> (dsimp only [dty, isStrD, isIntD, isBoolD, isTupD]; exact kit_ty (by decide +kernel))
theorem kit_bool (d : PyData) : PySem.W.kitOne K (.type (dty d)) (.type "bool") = some (isBoolD d) := by cases d <;> (dsimp only [dty, isStrD, isIntD, isBoolD, isTupD]; exact kit_ty (by decide +kernel))
theorem kit_tup (d : PyData) : PySem.W.kitOne K (.type (dty d)) (.type "tuple") = some (isTupD d) := by cases d <;> (dsimp only [dty, isStrD, isIntD, isBoolD, isTupD]; exact kit_ty (by decide +kernel))
/-- isinstance(v, T) of a value that is data -/
theorem rd_isi {H : Hp} {Q : VK} {v : V} {d : PyData} {n : String} {b : Bool} (h : Dv K H v d) (k : PySem.W.kitOne K (.type (dty d)) (.type n) = some b) (q : Q (.bl b) H) : rIsi K [v, .ty n] H Q := ⟨v, .ty n, _, _, b, rfl, .ty n, h.ty, k, q⟩
end
/-! ### strip -/
theorem takeWhile_all {g : Nat → Bool} : ∀ {l : List Nat}, l.all g = true → l.takeWhile g = l
  | [], _ => rfl
  | c :: l, h => by
    rw [List.all_cons, Bool.and_eq_true] at h
    rw [List.takeWhile_cons_of_pos h.1, takeWhile_all h.2]
theorem takeWhile_len {g : Nat → Bool} : ∀ (l : List Nat), (l.takeWhile g).length ≤ l.length
  | [] => Nat.le_refl _
  | c :: l => by
    by_cases h : g c = true
    · rw [List.takeWhile_cons_of_pos h]
      exact Nat.succ_le_succ (takeWhile_len l)
    · rw [List.takeWhile_cons_of_neg h]
      exact Nat.zero_le _
theorem takeWhile_full {g : Nat → Bool} : ∀ {l : List Nat}, (l.takeWhile g).length = l.length → l.all g = true
  | [], _ => rfl
  | c :: l, h => by
    by_cases z : g c = true
    · rw [List.takeWhile_cons_of_pos z, List.length_cons, List.length_cons] at h
      rw [List.all_cons, z, Bool.true_and]
      exact takeWhile_full (by omega)
    · rw [List.takeWhile_cons_of_neg z] at h
      simp at h
theorem drop_takeWhile {g : Nat → Bool} : ∀ (l : List Nat), l.drop (l.takeWhile g).length = [] ∨ ∃ c r, l.drop (l.takeWhile g).length = c :: r ∧ g c = false
  | [] => .inl rfl
  | c :: l => by
    by_cases h : g c = true
    · rw [List.takeWhile_cons_of_pos h]
      exact drop_takeWhile l
    · rw [List.takeWhile_cons_of_neg h]
      exact .inr ⟨c, l, rfl, by simpa using h⟩
theorem strSub_len (x : Str) (i j : Nat) : (Builtin.Str.strSub x i j).length = min j x.length - i := by
  show (x.cps.extract i j).size = _
  rw [Array.size_extract]
  rfl
theorem str_nil {x : Str} : x = ("" : Str) ↔ x.length = 0 := by
  constructor
  · rintro rfl
    rfl
  · intro h
    obtain ⟨a⟩ := x
    have z : a = #[] := Array.eq_empty_of_size_eq_zero h
    rw [z]
    rfl
theorem strip_len (x y : Str) : (Txt.stripChars x y).length = 0 ↔ x.cps.toList.all (fun c => y.cps.contains c) = true := by
  have e : Txt.stripChars x y = PySem.W.stripped (fun c => y.cps.contains c) true true x := by
    rw [Txt.stripChars, stripBy_eq]
    rfl
  rw [e]
  unfold PySem.W.stripped
  simp only [if_true]
  rw [strSub_len]
  generalize hg : (fun c => y.cps.contains c) = g
  have hl : x.length = x.cps.toList.length := by
    show x.cps.size = _
    simp
  have h1 := takeWhile_len (g := g) x.cps.toList
  have h2 := takeWhile_len (g := g) (x.cps.toList.drop (x.cps.toList.takeWhile g).length).reverse
  rw [List.length_reverse, List.length_drop] at h2
  constructor
  · intro h
    refine takeWhile_full (g := g) ?_
    rcases drop_takeWhile (g := g) x.cps.toList with z | ⟨c, r, z, hc⟩
    · have z2 := congrArg List.length z
      rw [List.length_drop, List.length_nil] at z2
      omega
    · have z3 : (((x.cps.toList.drop (x.cps.toList.takeWhile g).length).reverse).takeWhile g).length < (x.cps.toList.drop (x.cps.toList.takeWhile g).length).length := by
        refine Nat.lt_of_le_of_ne (by rw [List.length_drop]; exact h2) fun w => ?_
        have w2 := takeWhile_full (g := g) (l := (x.cps.toList.drop (x.cps.toList.takeWhile g).length).reverse) (by rw [List.length_reverse]; exact w)
        rw [z, List.reverse_cons, List.all_append, Bool.and_eq_true] at w2
        have w3 := w2.2
        rw [List.all_cons, hc] at w3
        cases w3
      rw [List.length_drop] at z3
      omega
  · intro h
    rw [takeWhile_all h, List.drop_length]
    simp [hl]
end K0
end
/-! ### A2 -/
section
set_option Elab.async false
set_option linter.all false
set_option maxRecDepth 100000
set_option maxHeartbeats 4000000
/-! is_number, is_sign, is_text, and the same told sign by sign. -/
namespace K0
open PySem PySem.Spec PyProof.Rows L2
def sgAll (z : Str) : Bool := z.cps.toList.all fun c => allSigns.cps.contains c
def isTextD : PyData → Bool
  | .str z => sgAll z
  | _ => false
def isSignD : PyData → Bool
  | .str z => decide (z.length = 1) && sgAll z
  | _ => false
def isNumD (lo hi : Int) : PyData → Bool
  | .int i => decide (lo ≤ i) && decide (i ≤ hi)
  | _ => false
theorem sg_mem (c : Nat) : allSigns.cps.contains c = decide (c ∈ allSigns.cps.toList) := by
  rw [Array.contains_eq_mem]
  exact decide_eq_decide.mpr Array.mem_toList_iff.symm
theorem one_cp {z : Str} (h : z.length = 1) : ∃ c, z = ⟨#[c]⟩ := by
  obtain ⟨⟨l⟩⟩ := z
  match l, h with
  | [c], _ => exact ⟨c, rfl⟩
theorem not_str {d : PyData} (h : ¬ isStrD d = true) : isTextD d = false ∧ isSignD d = false := by
  cases d <;> first | exact ⟨rfl, rfl⟩ | exact absurd rfl h
theorem is_str {K : PySem.W.Frag} {H : Hp} {v : V} {d : PyData} (hd : Dv K H v d) (h : isStrD d = true) : ∃ z, v = .str z ∧ d = .str z := by
  cases hd <;> first | exact ⟨_, rfl, rfl⟩ | cases h
theorem scText : FnScope ["value"] ["value"] (defScope (top iIsText)) := ⟨rfl, rfl, rfl, by decide +kernel, rfl, by decide +kernel, by decide +kernel⟩
def spNum (K : PySem.W.Frag) : Sp := fun vs H Q _ => ∃ (v : V) (d : PyData) (lo hi : Int), vs = [v, .int lo, .int hi] ∧ Dv K H v d ∧ Q (.bl (isNumD lo hi d)) H
/-- a bool that hangs on the value's data; what is told is that f of it; texts are short enough -/
def spD (K : PySem.W.Frag) (f : PyData → Bool) : Sp := fun vs H Q _ => ∃ (v : V) (d : PyData), vs = [v] ∧ Dv K H v d ∧ d.bulk ≤ 100000 ∧ ∀ H', Same H H' → Q (.bl (f d)) H'
theorem small5 {n : Nat} (h : n ≤ 100000) : n < sizeLine := by rw [sizeLine_eq]; omega
section
variable {P : Program} {w : World} {K : PySem.W.Frag} {mg : Str → Option Value} {base : Heap} {f : Addr} {fd : FuncData}
theorem ok_text {k : Nat} (F : FnP K "is_text" iIsText f fd) (misi : mg "isinstance" = none) (mstr : mg "str" = none) (ms : ∃ t, mg "SIGNS" = some (.str allSigns t)) : FnOk P w K mg base CX0 (k + 1) f fd ["value"] (spD K isTextD) := by
  refine F.ok scText (fun vs H Q E h => ?_) (fun cdv A outer s H vs Q E hr h => ?_)
  · obtain ⟨v, d, rfl, _⟩ := h
    rfl
  · obtain ⟨v, d, rfl, hd, sz, q⟩ := h
    obtain ⟨t, ms⟩ := ms
    refine ⟨_, PSs.nox (pss_one (ps_ret (pe_and (pe_callB call_isi (by rfl) misi boot_isinstance (pa_cons (pv 0) (pa_cons (pe_bltn (v := .ty "str") (by rfl) mstr (by decide +kernel) rfl) pa_nil)))
      (pe_one (pe_cmpR op_eq (pe_bm PySem.F.plainAttrs_str PySem.F.slot_str_strip PySem.F.type_str_strip mt_stripChars (pv 0) (pa_cons (pe_glob (v := .str allSigns) (by rfl) ms ⟨t, rfl⟩) pa_nil)) pe_str (nomark _)))))), ?_⟩
    refine ⟨_, rfl, v, _, _, _, _, rfl, .ty _, hd.ty, kit_str d, _, rfl, ite2 (fun e => ?_) (fun e => ?_)⟩
    · obtain ⟨z, rfl, rfl⟩ := is_str hd e
      refine ⟨_, rfl, rfl, z, allSigns, rfl, rfl, Nat.le_of_lt (small5 sz), rfl, ?_⟩
      have y : isTextD (.str z) = decide (V.str (Txt.stripChars z allSigns) = V.str ("" : Str)) := by
        have x := (strip_len z allSigns)
        by_cases u : (Txt.stripChars z allSigns).length = 0
        · rw [decide_eq_true (by rw [str_nil.mpr u])]
          exact x.mp u
        · rw [decide_eq_false (fun w => u (by injection w with w; exact str_nil.mp w))]
          exact Bool.eq_false_iff.mpr fun w => u (x.mpr w)
      have q2 := q H (Same.refl H)
      rw [y] at q2
      exact q2
    · have q2 := q H (Same.refl H)
      rw [(not_str e).1] at q2
      exact q2
end
end K0
end
/-! ### M77 -/
section
set_option Elab.async false
set_option linter.all false
set_option maxRecDepth 100000
set_option maxHeartbeats 4000000
/-! Deeds: their words, what is read of a row of words. -/
namespace K0
open PySem PySem.Spec PyProof.Rows L2
inductive DeedV where
  | use (n : Str)
  | store (p : Str)
  | put (p t : Str)
  | move (p q : Str)
  | take (p : Str) (ts : List Str)
deriving DecidableEq
def eqw (z : Str) : Str := ("=" : Str) ++ z
def DeedV.data : DeedV → PyData
  | .use n => .tuple [.str "use", .str n]
  | .store p => .tuple [.str "store", .str p]
  | .put p t => .tuple [.str "put", .str p, .str t]
  | .move p q => .tuple [.str "move", .str p, .str q]
  | .take p ts => .tuple [.str "take", .str p, .tuple (ts.map PyData.str)]
def DeedV.words : DeedV → List Str
  | .use n => ["use", n]
  | .store p => ["store", eqw p]
  | .put p t => ["put", eqw p, eqw t]
  | .move p q => ["move", eqw p, eqw q]
  | .take p ts => "take" :: eqw p :: ts.map eqw
def sgB (c : Nat) : Bool := allSigns.cps.contains c
theorem sgAll_cd (z : Str) : sgAll z = (cd z).all sgB := rfl
def twB (w : Str) : Bool := match cd w with
  | c :: r => c == 61 && r.all sgB
  | [] => false
def bodyS (w : Str) : Str := tx ((cd w).drop 1)
theorem cd_eqw (z : Str) : cd (eqw z) = 61 :: cd z := by unfold eqw; rw [cd_app]; rfl
theorem body_eqw (z : Str) : bodyS (eqw z) = z := by unfold bodyS; rw [cd_eqw]; exact tx_cd z
theorem tw_eqw (z : Str) : twB (eqw z) = sgAll z := by
  unfold twB
  rw [cd_eqw]
  show ((61 : Nat) == 61 && (cd z).all sgB) = _
  rw [show ((61 : Nat) == 61) = true from rfl, Bool.true_and]
  rfl
theorem tw_body {w : Str} (h : twB w = true) : w = eqw (bodyS w) ∧ sgAll (bodyS w) = true := by
  unfold twB at h
  cases e : cd w with
  | nil => rw [e] at h; cases h
  | cons c r =>
    rw [e] at h
    obtain ⟨h1, h2⟩ := Bool.and_eq_true_iff.mp h
    have h1 : c = 61 := by simpa using h1
    subst h1
    have eb : bodyS w = tx r := by unfold bodyS; rw [e]; rfl
    rw [eb]
    refine ⟨cd_inj ?_, ?_⟩
    · rw [cd_eqw, cd_tx, e]
    · rw [sgAll_cd, cd_tx]
      exact h2
def nameB (c : Nat) : Bool := decide (97 ≤ c) && decide (c ≤ 122)
def nameS (z : Str) : Bool := decide (1 ≤ z.length) && (decide (z.length ≤ 8) && (cd z).all nameB)
def pathS (z : Str) : Bool := sgAll z && (decide (1 ≤ z.length) && decide (z.length ≤ 12))
def DeedV.ok : DeedV → Bool
  | .use n => nameS n
  | .store p => pathS p
  | .put p t => pathS p && sgAll t
  | .move p q => pathS p && pathS q
  | .take p ts => pathS p && ts.all sgAll
def rowOf (W : List Str) : Option DeedV :=
  if ("" : Str) ∈ W then none else
  match W with
  | word :: told :: rest =>
    if word = "use" then (if rest = [] then some (.use told) else none)
    else if (told :: rest).all twB = false then none
    else if word = "take" then some (.take (bodyS told) (rest.map bodyS))
    else match rest with
      | [] => if word = "store" then some (.store (bodyS told)) else none
      | [t] => if word = "put" then some (.put (bodyS told) (bodyS t)) else if word = "move" then some (.move (bodyS told) (bodyS t)) else none
      | _ => none
  | _ => none
/-- what is read of a line -/
def lineOf (z : Str) : Option DeedV := rowOf (Txt.split z (one 32))
def lineD (d : DeedV) : Str := Txt.join (one 32) d.words
theorem eqw_ne (z : Str) : eqw z ≠ "" := fun h => by
  have := congrArg cd h
  rw [cd_eqw] at this
  cases this
theorem name_ne {z : Str} (h : nameS z = true) : z ≠ "" := fun e => by
  rw [e] at h
  revert h
  decide
theorem all_eqw {ts : List Str} (h : ts.all sgAll = true) : (ts.map eqw).all twB = true := by
  rw [List.all_map]
  have : (twB ∘ eqw) = sgAll := funext tw_eqw
  rw [this]
  exact h
theorem map_body (ts : List Str) : (ts.map eqw).map bodyS = ts := by
  rw [List.map_map]
  have : (bodyS ∘ eqw) = id := funext body_eqw
  rw [this, List.map_id]
theorem words_free {d : DeedV} (h : d.ok = true) : ("" : Str) ∉ d.words := by
  have ne : ∀ {z : Str}, ("" : Str) = eqw z → False := fun h => eqw_ne _ h.symm
  have w1 : ∀ {z : Str}, z ≠ "" → ("" : Str) ≠ z := fun h e => h e.symm
  cases d with
  | use n =>
    intro m
    rcases List.mem_cons.mp m with e | m
    · exact absurd e (by decide)
    · exact name_ne h (List.mem_singleton.mp m).symm
  | store p =>
    intro m
    rcases List.mem_cons.mp m with e | m
    · exact absurd e (by decide)
    · exact ne (List.mem_singleton.mp m)
  | put p t =>
    intro m
    rcases List.mem_cons.mp m with e | m
    · exact absurd e (by decide)
    rcases List.mem_cons.mp m with e | m
    · exact ne e
    · exact ne (List.mem_singleton.mp m)
  | move p t =>
    intro m
    rcases List.mem_cons.mp m with e | m
    · exact absurd e (by decide)
    rcases List.mem_cons.mp m with e | m
    · exact ne e
    · exact ne (List.mem_singleton.mp m)
  | take p ts =>
    intro m
    rcases List.mem_cons.mp m with e | m
    · exact absurd e (by decide)
    rcases List.mem_cons.mp m with e | m
    · exact ne e
    · obtain ⟨z, _, e⟩ := List.mem_map.mp m
      exact ne e.symm
theorem path_sg {p : Str} (h : pathS p = true) : sgAll p = true := (Bool.and_eq_true_iff.mp h).1
theorem row_words {d : DeedV} (h : d.ok = true) : rowOf d.words = some d := by
  have fr := words_free h
  unfold rowOf
  rw [if_neg fr]
  cases d with
  | use n => rfl
  | store p =>
    have a : ([eqw p] : List Str).all twB = true := by
      rw [List.all_cons, tw_eqw, path_sg h]; rfl
    show (if ("store" : Str) = "use" then _ else if ([eqw p] : List Str).all twB = false then none else if ("store" : Str) = "take" then _ else if ("store" : Str) = "store" then some (DeedV.store (bodyS (eqw p))) else none) = _
    rw [if_neg (by decide), a, if_neg (by decide), if_neg (by decide), if_pos rfl, body_eqw]
  | put p t =>
    obtain ⟨h1, h2⟩ := Bool.and_eq_true_iff.mp (show (pathS p && sgAll t) = true from h)
    have a : ([eqw p, eqw t] : List Str).all twB = true := by
      rw [List.all_cons, List.all_cons, tw_eqw, tw_eqw, path_sg h1, h2]; rfl
    show (if ("put" : Str) = "use" then _ else if ([eqw p, eqw t] : List Str).all twB = false then none else if ("put" : Str) = "take" then _ else if ("put" : Str) = "put" then some (DeedV.put (bodyS (eqw p)) (bodyS (eqw t))) else _) = _
    rw [if_neg (by decide), a, if_neg (by decide), if_neg (by decide), if_pos rfl, body_eqw, body_eqw]
  | move p t =>
    obtain ⟨h1, h2⟩ := Bool.and_eq_true_iff.mp (show (pathS p && pathS t) = true from h)
    have a : ([eqw p, eqw t] : List Str).all twB = true := by
      rw [List.all_cons, List.all_cons, tw_eqw, tw_eqw, path_sg h1, path_sg h2]; rfl
    show (if ("move" : Str) = "use" then _ else if ([eqw p, eqw t] : List Str).all twB = false then none else if ("move" : Str) = "take" then _ else if ("move" : Str) = "put" then _ else if ("move" : Str) = "move" then some (DeedV.move (bodyS (eqw p)) (bodyS (eqw t))) else none) = _
    rw [if_neg (by decide), a, if_neg (by decide), if_neg (by decide), if_neg (by decide), if_pos rfl, body_eqw, body_eqw]
  | take p ts =>
    obtain ⟨h1, h2⟩ := Bool.and_eq_true_iff.mp (show (pathS p && ts.all sgAll) = true from h)
    have a : (eqw p :: ts.map eqw).all twB = true := by
      rw [List.all_cons, tw_eqw, path_sg h1, all_eqw h2]; rfl
    show (if ("take" : Str) = "use" then _ else if (eqw p :: ts.map eqw).all twB = false then none else if ("take" : Str) = "take" then some (DeedV.take (bodyS (eqw p)) ((ts.map eqw).map bodyS)) else _) = _
    rw [if_neg (by decide), a, if_neg (by decide), if_pos rfl, body_eqw, map_body]
/-! ### no blanks, no line ends -/
theorem sg_no {c : Nat} (h : c = 32 ∨ c = 10 ∨ c = 61) : sgB c = false := by
  rcases h with rfl | rfl | rfl <;> decide +kernel
theorem name_no {c : Nat} (h : c = 32 ∨ c = 10) : nameB c = false := by
  rcases h with rfl | rfl <;> decide
theorem free_of {p : Nat → Bool} {l : List Nat} {c : Nat} (h : l.all p = true) (n : p c = false) : c ∉ l := fun m => by
  have := List.all_eq_true.mp h c m
  rw [n] at this
  cases this
theorem eqw_free {z : Str} {c : Nat} (h : sgAll z = true) (hc : c = 32 ∨ c = 10) : c ∉ cd (eqw z) := by
  rw [cd_eqw]
  intro m
  rcases List.mem_cons.mp m with e | m
  · rcases hc with rfl | rfl <;> cases e
  · exact free_of (p := sgB) h (sg_no (by rcases hc with e | e; exact .inl e; exact .inr (.inl e))) m
theorem words_clean {d : DeedV} (h : d.ok = true) {c : Nat} (hc : c = 32 ∨ c = 10) : ∀ y ∈ d.words, c ∉ cd y := by
  have lit : ∀ {z : Str}, (cd z).all nameB = true → c ∉ cd z := fun h => free_of h (name_no hc)
  cases d with
  | use n =>
    intro y hy
    rcases List.mem_cons.mp hy with rfl | hy
    · exact lit (by decide)
    · rw [List.mem_singleton.mp hy]
      exact lit (Bool.and_eq_true_iff.mp (Bool.and_eq_true_iff.mp h).2).2
  | store p =>
    intro y hy
    rcases List.mem_cons.mp hy with rfl | hy
    · exact lit (by decide)
    · rw [List.mem_singleton.mp hy]
      exact eqw_free (path_sg h) hc
  | put p t =>
    obtain ⟨h1, h2⟩ := Bool.and_eq_true_iff.mp (show (pathS p && sgAll t) = true from h)
    intro y hy
    rcases List.mem_cons.mp hy with rfl | hy
    · exact lit (by decide)
    rcases List.mem_cons.mp hy with rfl | hy
    · exact eqw_free (path_sg h1) hc
    · rw [List.mem_singleton.mp hy]
      exact eqw_free h2 hc
  | move p t =>
    obtain ⟨h1, h2⟩ := Bool.and_eq_true_iff.mp (show (pathS p && pathS t) = true from h)
    intro y hy
    rcases List.mem_cons.mp hy with rfl | hy
    · exact lit (by decide)
    rcases List.mem_cons.mp hy with rfl | hy
    · exact eqw_free (path_sg h1) hc
    · rw [List.mem_singleton.mp hy]
      exact eqw_free (path_sg h2) hc
  | take p ts =>
    obtain ⟨h1, h2⟩ := Bool.and_eq_true_iff.mp (show (pathS p && ts.all sgAll) = true from h)
    intro y hy
    rcases List.mem_cons.mp hy with rfl | hy
    · exact lit (by decide)
    rcases List.mem_cons.mp hy with rfl | hy
    · exact eqw_free (path_sg h1) hc
    · obtain ⟨z, hz, rfl⟩ := List.mem_map.mp hy
      exact eqw_free (List.all_eq_true.mp h2 z hz) hc
theorem words_ne (d : DeedV) : d.words ≠ [] := by cases d <;> exact fun h => nomatch h
theorem line_line {d : DeedV} (h : d.ok = true) : lineOf (lineD d) = some d := by
  unfold lineOf lineD
  rw [split_joined (words_ne d) (words_clean h (.inl rfl)), row_words h]
theorem joinC_mem {c : Nat} : ∀ {xs : List (List Nat)} {a : Nat}, a ∈ joinC c xs → a = c ∨ ∃ x ∈ xs, a ∈ x
  | [], _, h => absurd h List.not_mem_nil
  | [x], _, h => .inr ⟨x, List.mem_cons_self, h⟩
  | x :: y :: r, a, h => by
    rcases List.mem_append.mp (show a ∈ x ++ c :: joinC c (y :: r) from h) with h | h
    · exact .inr ⟨x, List.mem_cons_self, h⟩
    rcases List.mem_cons.mp h with h | h
    · exact .inl h
    · rcases joinC_mem h with h | ⟨z, hz, hm⟩
      · exact .inl h
      · exact .inr ⟨z, List.mem_cons_of_mem _ hz, hm⟩
theorem line_clean {d : DeedV} (h : d.ok = true) : 10 ∉ cd (lineD d) := by
  unfold lineD
  rw [txt_join, cd_join]
  intro m
  rcases joinC_mem m with e | ⟨x, hx, hm⟩
  · cases e
  · obtain ⟨y, hy, rfl⟩ := List.mem_map.mp hx
    exact words_clean h (.inr rfl) y hy hm
/-! ### a whole text -/
def firstBad : List (Option DeedV) → Option Nat
  | [] => none
  | none :: _ => some 0
  | some _ :: r => (firstBad r).map (· + 1)
/-- what is told of rows of lines: the number of the first that is not read, of all lines, or the deeds -/
def dueOf (L : List Str) : PyData := match firstBad (L.map lineOf) with
  | some n => .int (n : Nat)
  | none => if 40 < L.length ∨ ((L.filterMap lineOf).all DeedV.ok) = false then .int (L.length : Nat) else .tuple ((L.filterMap lineOf).map DeedV.data)
end K0
end
/-! ### A5 -/
section
set_option Elab.async false
set_option linter.all false
set_option maxRecDepth 100000
set_option maxHeartbeats 4000000
/-! list(text); items in a drawn order. -/
namespace K0
open PySem PySem.Spec PyProof.Rows L2
def signsV (z : Str) : List V := z.cps.toList.map fun c => V.str ⟨#[c]⟩
theorem signs_vals {z : Str} {acc : Array Value} (h : ItemsOf (SignAt z) acc z.cps.size) : Vals (signsV z) acc.toList := by
  obtain ⟨h1, h2⟩ := h
  have go : ∀ (l : List Nat) (us : List Value), us.length = l.length → (∀ (j : Nat) (v : Value), us[j]? = some v → ∃ (c : Nat) (u : Tok), l[j]? = some c ∧ v = Value.str ⟨#[c]⟩ u) → Vals (l.map fun c => V.str ⟨#[c]⟩) us := by
    intro l
    induction l with
    | nil =>
      intro us e _
      rw [List.eq_nil_of_length_eq_zero e]
      exact .nil
    | cons c l ih =>
      intro us e f
      cases us with
      | nil => cases e
      | cons u us =>
        obtain ⟨c', t, e1, e2⟩ := f 0 u rfl
        cases e1
        refine .cons ⟨t, e2⟩ (ih us (by simpa using e) fun j v z => ?_)
        exact f (j + 1) v z
  refine go _ _ (by simpa using h1) fun j v e => ?_
  obtain ⟨c, u, e1, e2⟩ := h2 j v (by simpa using e)
  exact ⟨c, u, by simpa using e1, e2⟩
section
variable {X : Cx}
theorem call_list_txt (hc : X.calm = true) : CallR X (.type "list") (fun xs H Q => ∃ z, xs = [.str z] ∧ z.length ≤ sizeLine ∧ ∀ l, H l = none → Q (.ref l) (upd H l (.lst (signsV z)))) := by
  intro pins s σ H xs us Q I r h
  obtain ⟨z, rfl, hz, q⟩ := h
  obtain ⟨u, rfl, t, rfl⟩ := vals1 r
  refine call_list_str (I.ok.hd hc) z t (fun h' tk acc c kp e it => ?_) hz
  refine ⟨.ref s.heap.objs.size, _, I.laid (t' := tk) kp (Nat.le_refl _) (show ObjOk X.prog X.w _ h' _ (.lst (signsV z)) from ⟨?_, acc.toList, c, signs_vals it, e⟩), rfl, q _ (I.hok.fresh (Nat.le_refl _))⟩
  show (signsV z).length ≤ sizeLine
  unfold signsV
  rw [List.length_map]
  exact hz
end
theorem mr_popAt {X : Cx} : MtR X "list.pop" rPopAt := mt_popAt
def rLenS (K : PySem.W.Frag) : List V → Hp → VK → Prop := fun xs H Q => ∃ p ys, xs = [.ref p] ∧ (SqL K H p ys ∨ SqT K H p ys) ∧ Q (.int ys.length) H
/-- within a comprehension, where the written part must be named -/
theorem call_lenK {X : Cx} (K : PySem.W.Frag) (e : X.K = K) : CallR X (.builtin "len") (rLenS K) := by
  subst e
  exact call_len_seq
theorem pe_asK {X : Cx} {e : Expr} {T : String} {r : V → List V → Hp → VK → Prop} {to : TE} {t : TA} (K : PySem.W.Frag) (hK : X.K = K) (h : PE X e (tBM X.K T r to t)) : PE X e (tBM K T r to t) := hK ▸ h
end K0
end
/-! ### P1 -/
section
set_option Elab.async false
set_option linter.all false
set_option maxRecDepth 100000
set_option maxHeartbeats 4000000
/-! is_name, is_path. -/
namespace K0
open PySem PySem.Spec PyProof.Rows L2
def letters : Str := "abcdefghijklmnopqrstuvwxyz"
def isNameD : PyData → Bool
  | .str z => nameS z
  | _ => false
def isPathD : PyData → Bool
  | .str z => pathS z
  | _ => false
theorem let_mem (c : Nat) : letters.cps.contains c = nameB c := by
  have e : letters.cps = (List.range 26).toArray.map (· + 97) := by decide +kernel
  rw [e, Array.contains_eq_mem]
  unfold nameB
  rw [Bool.eq_iff_iff, decide_eq_true_iff, Bool.and_eq_true, decide_eq_true_iff, decide_eq_true_iff]
  simp only [Array.mem_map, List.mem_toArray, List.mem_range]
  constructor
  · rintro ⟨a, h, rfl⟩
    omega
  · intro h
    exact ⟨c - 97, by omega, by omega⟩
theorem name_strip (z : Str) : (cd z).all nameB = decide (V.str (Txt.stripChars z letters) = V.str ("" : Str)) := by
  have x := strip_len z letters
  have e : (z.cps.toList.all fun c => letters.cps.contains c) = (cd z).all nameB := by
    have : (fun c => letters.cps.contains c) = nameB := funext let_mem
    rw [this]
    rfl
  rw [e] at x
  by_cases u : (Txt.stripChars z letters).length = 0
  · rw [decide_eq_true (by rw [str_nil.mpr u])]
    exact x.mp u
  · rw [decide_eq_false (fun w => u (by injection w with w; exact str_nil.mp w))]
    exact Bool.eq_false_iff.mpr fun w => u (x.mpr w)
theorem scIsName : FnScope ["value"] ["value"] (defScope (top iIsName)) := ⟨rfl, rfl, rfl, by decide +kernel, rfl, by decide +kernel, by decide +kernel⟩
theorem scIsPath : FnScope ["value"] ["value"] (defScope (top iIsPath)) := ⟨rfl, rfl, rfl, by decide +kernel, rfl, by decide +kernel, by decide +kernel⟩
theorem str_len_chain {z : Str} {a b : Int} {n : Nat} (hb : b = ((n : Nat) : Int)) : (decide ((1 : Int) ≤ ((z.length : Nat) : Int)) && decide (((z.length : Nat) : Int) ≤ b)) = (decide (1 ≤ z.length) && decide (z.length ≤ n)) := by
  subst hb
  rw [decide_eq_decide.mpr (show (1 : Int) ≤ ((z.length : Nat) : Int) ↔ 1 ≤ z.length by omega), decide_eq_decide.mpr (show ((z.length : Nat) : Int) ≤ ((n : Nat) : Int) ↔ z.length ≤ n by omega)]
section
variable {P : Program} {w : World} {K : PySem.W.Frag} {mg : Str → Option Value} {base : Heap} {f fT : Addr} {fd fdT : FuncData}
theorem ok_isName {k : Nat} (F : FnP K "is_name" iIsName f fd) (mlen : mg "len" = none) (misi : mg "isinstance" = none) (mstr : mg "str" = none) (mM : ∃ t, mg "MAX_NAME" = some (.int 8 t)) (ms : ∃ t, mg "LETTERS" = some (.str letters t)) :
    FnOk P w K mg base CX0 (k + 1) f fd ["value"] (spD K isNameD) := by
  refine F.ok scIsName (fun vs H Q E h => ?_) (fun cdv A outer s H vs Q E hr h => ?_)
  · obtain ⟨v, d, rfl, _⟩ := h
    rfl
  · obtain ⟨v, d, rfl, hd, sz, q⟩ := h
    obtain ⟨tM, mM⟩ := mM
    obtain ⟨ts, ms⟩ := ms
    refine ⟨_, PSs.nox (pss_one (ps_ret (pe_and (pe_callB call_isi (by rfl) misi boot_isinstance (pa_cons (pv 0) (pa_cons (pe_bltn (v := .ty "str") (by rfl) mstr (by decide +kernel) rfl) pa_nil)))
      (pe_and (pe_chain op_le op_le pe_int (pe_callB call_len_str (by rfl) mlen PySem.boot_len (pa_cons (pv 0) pa_nil)) (pe_glob (v := .int 8) (by rfl) mM ⟨tM, rfl⟩))
      (pe_one (pe_cmpR op_eq (pe_bm PySem.F.plainAttrs_str PySem.F.slot_str_strip PySem.F.type_str_strip mt_stripChars (pv 0) (pa_cons (pe_glob (v := .str letters) (by rfl) ms ⟨ts, rfl⟩) pa_nil)) pe_str (nomark _))))))), ?_⟩
    refine ⟨_, rfl, v, _, _, _, _, rfl, .ty _, hd.ty, kit_str d, _, rfl, ite2 (fun e => ?_) (fun e => ?_)⟩
    · obtain ⟨z, rfl, rfl⟩ := is_str hd e
      have sz : z.length ≤ 100000 := sz
      have q2 : Q (.bl (decide (1 ≤ z.length) && (decide (z.length ≤ 8) && (cd z).all nameB))) H := q H (Same.refl H)
      refine ⟨_, rfl, z, rfl, Nat.le_of_lt (small5 sz), _, _, rfl, rfl, _, rfl, ite2 (fun e1 => ?_) (fun e1 => ?_)⟩
      · have h1 : 1 ≤ z.length := by
          have e1 := of_decide_eq_true e1
          omega
        rw [decide_eq_true h1, Bool.true_and] at q2
        refine ⟨_, _, rfl, rfl, _, rfl, ite2 (fun e2 => ?_) (fun e2 => ?_)⟩
        · have h2 : z.length ≤ 8 := by
            have e2 := of_decide_eq_true e2
            omega
          rw [decide_eq_true h2, Bool.true_and, name_strip] at q2
          exact ⟨_, rfl, rfl, z, letters, rfl, rfl, Nat.le_of_lt (small5 sz), rfl, q2⟩
        · have h2 : ¬ z.length ≤ 8 := fun y => e2 (decide_eq_true (by omega))
          rw [decide_eq_false h2, Bool.false_and] at q2
          exact q2
      · have h1 : ¬ 1 ≤ z.length := fun y => e1 (decide_eq_true (by omega))
        rw [decide_eq_false h1, Bool.false_and] at q2
        exact ⟨_, rfl, ite2 (fun e => by cases e) (fun e => q2)⟩
    · have q2 := q H (Same.refl H)
      have e0 : isNameD d = false := by cases d <;> first | rfl | exact absurd rfl e
      rw [e0] at q2
      exact q2
theorem ok_isPath {k : Nat} (F : FnP K "is_path" iIsPath f fd) (mlen : mg "len" = none) (mM : ∃ t, mg "MAX_PATH" = some (.int 12 t))
    (FT : FnOk P w K mg base CX0 (k + 1) fT fdT ["value"] (spD K isTextD)) (gT : mg "is_text" = some (.ref fT)) (kT : PySem.W.keepIn K (.ref fT) = true) (bT : Binds K fdT ["value"] []) :
    FnOk P w K mg base CX0 (k + 2) f fd ["value"] (spD K isPathD) := by
  refine F.ok scIsPath (fun vs H Q E h => ?_) (fun cdv A outer s H vs Q E hr h => ?_)
  · obtain ⟨v, d, rfl, _⟩ := h
    rfl
  · obtain ⟨v, d, rfl, hd, sz, q⟩ := h
    obtain ⟨tM, mM⟩ := mM
    refine ⟨_, PSs.nox (pss_one (ps_ret (pe_and (pe_call FT hr (by rfl) gT kT bT .nil pass0 (pa_cons (pv 0) pa_nil)) (pe_one (pe_chain op_le op_le pe_int (pe_callB call_len_str (by rfl) mlen PySem.boot_len (pa_cons (pv 0) pa_nil)) (pe_glob (v := .int 12) (by rfl) mM ⟨tM, rfl⟩)))))), ?_⟩
    refine ⟨_, rfl, v, d, rfl, hd, sz, fun H1 s1 => ⟨_, rfl, ite2 (fun e => ?_) (fun e => ?_)⟩⟩
    · cases d with
      | str z =>
        cases hd
        have sz : z.length ≤ 100000 := sz
        have e : sgAll z = true := e
        have q2 : Q (.bl (sgAll z && (decide (1 ≤ z.length) && decide (z.length ≤ 12)))) H1 := q H1 s1
        rw [e, Bool.true_and] at q2
        refine ⟨_, rfl, z, rfl, Nat.le_of_lt (small5 sz), _, _, rfl, rfl, _, rfl, ite2 (fun e1 => ?_) (fun e1 => ?_)⟩
        · refine ⟨_, _, rfl, rfl, ?_⟩
          have h1 : 1 ≤ z.length := by
            have e1 := of_decide_eq_true e1
            omega
          rw [decide_eq_true h1, Bool.true_and] at q2
          have e2 : decide (((z.length : Nat) : Int) ≤ 12) = decide (z.length ≤ 12) := decide_eq_decide.mpr (by omega)
          rw [← e2] at q2
          exact q2
        · have h1 : ¬ 1 ≤ z.length := fun y => e1 (decide_eq_true (by omega))
          rw [decide_eq_false h1, Bool.false_and] at q2
          exact q2
      | _ => cases e
    · have q2 := q H1 s1
      have e0 : isPathD d = false := by
        cases d with
        | str z =>
          show (sgAll z && _) = false
          have : sgAll z = false := Bool.eq_false_iff.mpr e
          rw [this]; rfl
        | _ => rfl
      rw [e0] at q2
      exact q2
end
end K0
end
/-! ### A5b -/
section
set_option Elab.async false
set_option linter.all false
set_option maxRecDepth 100000
set_option maxHeartbeats 4000000
/-! Tuples that are known to stand as they were made: tuple(list), displays. -/
namespace K0
open PySem PySem.Spec PyProof.Rows L2
/-- a tuple that stands as it was made -/
def FrT (H : Hp) (t : Addr) (xs : List V) : Prop := ∃ o : Obj, H t = some (.frz o (.tup xs)) ∧ o.cls = .type "tuple" ∧ o.dict = none
theorem FrT.sq {K : PySem.W.Frag} {H : Hp} {t : Addr} {xs : List V} (h : FrT H t xs) : SqT K H t xs := let ⟨o, e, _⟩ := h; .inl (.inr ⟨o, e⟩)
theorem FrT.same {H H' : Hp} {t : Addr} {xs : List V} (h : FrT H t xs) (s : Same H H') : FrT H' t xs := let ⟨o, e, z⟩ := h; ⟨o, s _ _ e, z⟩
/-- what a fresh address holds behind a tuple's making -/
def frzT (us : List Value) (xs : List V) : HO := .frz { cls := .type "tuple", data := .seq us.toArray } (.tup xs)
theorem frzT_at {H : Hp} {t : Addr} {us : List Value} {xs : List V} : FrT (upd H t (frzT us xs)) t xs := ⟨_, upd_same, rfl, rfl⟩
section
variable {X : Cx}
theorem call_tuple_frz : CallR X (.type "tuple") (fun xs H Q => ∃ p ys, xs = [.ref p] ∧ SqL X.K H p ys ∧ ∀ t us, H t = none → Q (.ref t) (upd H t (frzT us ys))) := by
  intro pins s σ H xs us Q I r h
  obtain ⟨p, ys, rfl, hq, q⟩ := h
  obtain ⟨u, rfl, rx⟩ := vals1 r
  cases rx
  obtain ⟨its, r', pl, hz⟩ := I.list hq
  have size := r'.length
  refine call_tuple_list pl.isList (fun h' kp => ?_) (by simp only [List.size_toArray] <;> omega)
  have J : Inv X pins σ H { s with heap := h' } := I.kept (t' := s.toks) kp
  refine ⟨.ref h'.objs.size, _, J.laid (t' := s.toks) (fun b o e => Heap.get?_push_of_some _ e) (Nat.le_refl _) (show ObjOk X.prog X.w _ _ _ (frzT its ys) from ⟨Heap.get?_push_size _ rfl, hz, its, r', IsTup.new _ _⟩), rfl, q _ its (J.hok.fresh (Nat.le_refl _))⟩
def tTupF (t : TA) : TE := fun σ H Q => t σ H fun xs H1 => xs.length ≤ sizeLine ∧ ∀ a us, H1 a = none → Q (.ref a) (upd H1 a (frzT us xs))
theorem pe_tupF {es : List Expr} {k : Nat} {pos : Pos} {t : TA} (h : PA X es t) : PE X (.Tuple es k pos) (tTupF t) := by
  refine ⟨fun pins s σ H Q I hq => wpAny_Tuple_spliced (thn (h.run pos pins s σ H _ I hq) fun us s1 ⟨xs, H1, J, r, z, q⟩ => ⟨by rw [← r.length]; exact z, ?_⟩)⟩
  refine ⟨.ref s1.heap.objs.size, _, J.laid (t' := s1.toks) (fun b u e => Heap.get?_push_of_some _ e) (Nat.le_refl _) (show ObjOk X.prog X.w _ _ _ (frzT us xs) from ⟨Heap.get?_push_size _ rfl, z, us, r, ⟨_, Heap.get?_push_size _ rfl, rfl, _, rfl⟩⟩), rfl, q _ us (J.hok.fresh (Nat.le_refl _))⟩
end
end K0
end
/-! ### LC -/
section
set_option Elab.async false
set_option linter.all false
set_option maxRecDepth 100000
set_option maxHeartbeats 4000000
/-! Comprehensions read at once: items told by their places; items drawn. -/
namespace K0
open PySem PySem.Spec PyProof.Rows L2 LamX
def fzO : HO → Option HO
  | .tup xs => some (.tup xs)
  | .ins c d f => some (.ins c d f)
  | .dK k => some (.dK k)
  | .frz o u => some (.frz o u)
  | _ => none
def fz (H : Hp) : Hp := fun b => (H b).bind fzO
theorem fz_of {H : Hp} {b : Addr} {o : HO} (e : H b = some o) : fz H b = fzO o := by
  unfold fz
  rw [e]
  rfl
theorem fz_out {H : Hp} {b : Addr} {o : HO} (h : fz H b = some o) : H b = some o ∧ (∀ xs, o ≠ .lst xs) ∧ ∀ ps, o ≠ .tbl ps := by
  rcases e : H b with _ | u
  · unfold fz at h; rw [e] at h; cases h
  · rw [fz_of e] at h
    cases u with
    | tup xs => cases h; exact ⟨rfl, (fun _ z => by cases z), (fun _ z => by cases z)⟩
    | ins c d f => cases h; exact ⟨rfl, (fun _ z => by cases z), (fun _ z => by cases z)⟩
    | dK k => cases h; exact ⟨rfl, (fun _ z => by cases z), (fun _ z => by cases z)⟩
    | frz ob u => cases h; exact ⟨rfl, (fun _ z => by cases z), (fun _ z => by cases z)⟩
    | _ => cases h
theorem fz_same {H : Hp} : Same (fz H) H := fun b o h => (fz_out h).1
theorem fz_keep {p : Addr} {H H' : Hp} (d : Dice p H) (k : Keep p H H') : Same (fz H) H' := fun b o h => by
  obtain ⟨e, nl, _⟩ := fz_out h
  obtain ⟨i, j, l, z⟩ := d
  exact k.1 b o (fun q => by rw [q, z] at e; exact nl _ (Option.some.inj e).symm) e
theorem fz_ext {H H' : Hp} (k : ExtN H H') : Same (fz H) H' := fun b o h => k b o (fz_out h).1 (fz_out h).2.2
theorem fz_hid {p : Addr} {H : Hp} (d : Dice p H) : Same (fz H) (hid p H) := fun b o h => by
  obtain ⟨e, nl, _⟩ := fz_out h
  obtain ⟨i, j, l, z⟩ := d
  rw [hid_ne (fun q => by rw [q, z] at e; exact nl _ (Option.some.inj e).symm)]
  exact e
theorem sqT_fz {K : PySem.W.Frag} {H : Hp} {a : Addr} {xs : List V} (h : SqT K H a xs) : SqT K (fz H) a xs := by
  rcases h with (h | ⟨o, h⟩) | h
  · exact .inl (.inl (fz_of h))
  · exact .inl (.inr ⟨o, fz_of h⟩)
  · exact .inr h
theorem FrT.fz {H : Hp} {t : Addr} {xs : List V} (h : FrT H t xs) : FrT (K0.fz H) t xs := let ⟨o, e, z⟩ := h; ⟨o, fz_of e, z⟩
mutual
def tupD : PyData → Bool
  | .list _ => false
  | .dict _ => false
  | .tuple ds => tupDs ds
  | _ => true
def tupDs : List PyData → Bool
  | [] => true
  | d :: ds => tupD d && tupDs ds
end
mutual
theorem dv_fz {K : PySem.W.Frag} {H : Hp} : ∀ {d : PyData} {v : V}, Dv K H v d → tupD d = true → Dv K (fz H) v d
  | .none, _, h, _ => by cases h; exact .non
  | .bool b, _, h, _ => by cases h; exact .bl b
  | .int i, _, h, _ => by cases h; exact .int i
  | .str x, _, h, _ => by cases h; exact .str x
  | .list ds, _, h, z => by cases z
  | .dict ds, _, h, z => by cases z
  | .tuple ds, _, h, z => by
    cases h with
    | tup h1 h2 => exact .tup (sqT_fz h1) (dvs_fz h2 z)
theorem dvs_fz {K : PySem.W.Frag} {H : Hp} : ∀ {ds : List PyData} {vs : List V}, DvAll K H vs ds → tupDs ds = true → DvAll K (fz H) vs ds
  | [], _, h, _ => by cases h; exact .nil
  | d :: ds, _, h, z => by
    obtain ⟨z1, z2⟩ := Bool.and_eq_true_iff.mp (show (tupD d && tupDs ds) = true from z)
    cases h with
    | cons h1 h2 => exact .cons (dv_fz h1 z1) (dvs_fz h2 z2)
end
section
variable {J : It} {n : Nat} {G : Hp → Prop} {Y : Nat → Hp → V → Hp → Prop}
theorem fm_succ {α : Type} (f : Nat → Option α) (m : Nat) : (List.range (m + 1)).filterMap f = (List.range m).filterMap f ++ (f m).toList := by
  rw [List.range_succ, List.filterMap_append]
  congr 1
theorem fm_len {α : Type} (f : Nat → Option α) (m : Nat) : ((List.range m).filterMap f).length ≤ m := by
  have := List.length_filterMap_le f (List.range m)
  rwa [List.length_range] at this
theorem fm_get {α : Type} (ys : List α) : (List.range ys.length).filterMap (fun i => ys[i]?) = ys := by
  have : ∀ m, m ≤ ys.length → (List.range m).filterMap (fun i => ys[i]?) = ys.take m := by
    intro m
    induction m with
    | zero => intro _; simp
    | succ m ih =>
      intro h
      rw [fm_succ, ih (by omega), List.take_succ]
  rw [this _ (Nat.le_refl _), List.take_length]
/-- what is put for the item in place i is told by i (none: left out) -/
theorem lc_map (w : Walk J n G Y) {g : TG} {tt : TT} {te : TE} {vs : List Nat} {σ : L2.St} {H1 : Hp} {D : Addr} {Qd : Hp → Prop} {xs : List V} (f : Nat → Option V) (hY : ∀ i H x H', i < n → Y i H x H' → H' = H ∧ xs[i]? = some x) (nD : H1 D = none) (hG : ∀ H', Same H1 H' → G H') (sz : n < sizeLine)
    (each : ∀ i x H' (R : Option V → Hp → Prop), i < n → xs[i]? = some x → Same H1 H' → (∀ o H4, o = f i → Same H' H4 → R o H4) → g x (wipe σ vs) H' fun σ2 H2 => wipe σ2 vs = wipe σ vs ∧ tt σ2 H2 fun b H3 => if b = true then te σ2 H3 fun y H4 => R (some y) H4 else R none H3)
    (hd : ∀ H', Same H1 H' → H' D = some (.lst ((List.range n).filterMap f)) → Qd H') :
    ∃ W : Nat → Nat → Hp → Prop, (∃ m, W 0 m (upd H1 D (.lst []))) ∧ ∀ i m H, W i m H →
      (J.stop i H ∧ Qd H) ∨ (J.go i H ∧ ∃ Nx : Hp → Prop, (∀ H', Nx H' → ∃ m', m' < m ∧ W (i + 1) m' H') ∧ ∀ x H', J.yld i H x H' → g x (wipe σ vs) H' fun σ2 H2 => wipe σ2 vs = wipe σ vs ∧ tt σ2 H2 fun b H3 =>
        if b = true then te σ2 H3 fun y H4 => ∃ acc, H4 D = some (.lst acc) ∧ acc.length < sizeLine ∧ Nx (upd H4 D (.lst (acc ++ [y]))) else Nx H3) := by
  refine lc_it w (fun i H' => Same H1 H' ∧ H' D = some (.lst ((List.range i).filterMap f))) ⟨same_upd nD, upd_same⟩ (fun i H' _ h => hG H' h.1) (fun i x H' H'' hi hP hy => ?_) fun H' h => hd H' h.1 h.2
  obtain ⟨s1, e1⟩ := hP
  obtain ⟨rfl, hx⟩ := hY i H' x H'' hi hy
  have key := each i x H'' (fun o H4 => match o with
    | some y => ∃ acc, H4 D = some (.lst acc) ∧ acc.length < sizeLine ∧ (Same H1 (upd H4 D (.lst (acc ++ [y]))) ∧ upd H4 D (.lst (acc ++ [y])) D = some (.lst ((List.range (i + 1)).filterMap f)))
    | none => Same H1 H4 ∧ H4 D = some (.lst ((List.range (i + 1)).filterMap f))) hi hx s1 (fun o H4 ho s4 => ?_)
  · exact key
  · cases o with
    | none =>
      refine ⟨s1.trans s4, ?_⟩
      rw [fm_succ, ← ho]
      show _ = some (HO.lst (_ ++ []))
      rw [List.append_nil]
      exact s4 _ _ e1
    | some y =>
      refine ⟨_, s4 _ _ e1, Nat.lt_of_le_of_lt (fm_len f i) (Nat.lt_trans hi sz), fun b o z => ?_, ?_⟩
      · rw [upd_ne (ne_of_none z nD)]
        exact s4 _ _ (s1 _ _ z)
      · rw [upd_same, fm_succ, ← ho]
        rfl
/-- each item is drawn: all but the dice is as it was, what is put is good -/
theorem lc_draw (w : Walk J n G Y) {g : TG} {tt : TT} {te : TE} {vs : List Nat} {σ : L2.St} {H1 : Hp} {D p : Addr} {Qd : Hp → Prop} {xs : List V} (Good : V → Hp → Prop) (hY : ∀ i H x H', i < n → Y i H x H' → H' = H ∧ xs[i]? = some x) (d1 : Dice p H1) (nD : H1 D = none) (hG : ∀ H', Keep p H1 H' → G H') (sz : n < sizeLine)
    (st : ∀ y H' H'', Same (fz H') H'' → Good y H' → Good y H'')
    (each : ∀ i x H' (R : V → Hp → Prop) (S : Hp → Prop), i < n → xs[i]? = some x → Keep p H1 H' → (∀ y H4, Good y H4 → Keep p H' H4 → R y H4) → g x (wipe σ vs) H' fun σ2 H2 => wipe σ2 vs = wipe σ vs ∧ tt σ2 H2 fun b H3 => if b = true then te σ2 H3 fun y H4 => R y H4 else S H3)
    (hd : ∀ H' ys, Keep p H1 H' → H' D = some (.lst ys) → D ≠ p → ys.length = n → (∀ y ∈ ys, Good y H') → Qd H') :
    ∃ W : Nat → Nat → Hp → Prop, (∃ m, W 0 m (upd H1 D (.lst []))) ∧ ∀ i m H, W i m H →
      (J.stop i H ∧ Qd H) ∨ (J.go i H ∧ ∃ Nx : Hp → Prop, (∀ H', Nx H' → ∃ m', m' < m ∧ W (i + 1) m' H') ∧ ∀ x H', J.yld i H x H' → g x (wipe σ vs) H' fun σ2 H2 => wipe σ2 vs = wipe σ vs ∧ tt σ2 H2 fun b H3 =>
        if b = true then te σ2 H3 fun y H4 => ∃ acc, H4 D = some (.lst acc) ∧ acc.length < sizeLine ∧ Nx (upd H4 D (.lst (acc ++ [y]))) else Nx H3) := by
  have Dp : D ≠ p := d1.ne nD
  obtain ⟨a, b, c, hp⟩ := d1
  refine lc_it w (fun i H' => ∃ ys, Keep p H1 H' ∧ H' D = some (.lst ys) ∧ ys.length = i ∧ ∀ y ∈ ys, Good y H') ⟨[], Keep.new hp nD, upd_same, rfl, fun y hy => absurd hy List.not_mem_nil⟩ (fun i H' _ h => by obtain ⟨_, h, _⟩ := h; exact hG H' h) (fun i x H' H'' hi hP hy => ?_) fun H' h => by
    obtain ⟨ys, k, e, l, gd⟩ := h
    exact hd H' ys k e Dp l gd
  obtain ⟨ys, k1, e1, l1, g1⟩ := hP
  obtain ⟨rfl, hx⟩ := hY i H' x H'' hi hy
  refine each i x H'' _ _ hi hx k1 fun y H4 gy k4 => ?_
  have eD : H4 D = some (.lst ys) := k4.1 _ _ Dp e1
  have D2 : Dice p H'' := k1.2
  have kk : Keep p H1 (upd H4 D (.lst (ys ++ [y]))) := by
    have k := k1.trans k4
    refine ⟨fun b o nb z => ?_, ?_⟩
    · rw [upd_ne (ne_of_none z nD)]
      exact k.1 b o nb z
    · obtain ⟨a', b', c', z⟩ := k.2
      exact ⟨a', b', c', by rw [upd_ne (Ne.symm Dp)]; exact z⟩
  have fs : Same (fz H4) (upd H4 D (.lst (ys ++ [y]))) := fun b o z => by
    obtain ⟨e, nl, _⟩ := fz_out z
    rw [upd_ne (fun q => by rw [q, eD] at e; exact nl _ (Option.some.inj e).symm)]
    exact e
  refine ⟨ys, eD, by omega, ys ++ [y], kk, upd_same, by rw [List.length_append, l1]; rfl, fun z hz => ?_⟩
  rcases List.mem_append.mp hz with hz | hz
  · exact st z _ _ fs (st z _ _ (fz_keep D2 k4) (g1 z hz))
  · rw [List.mem_singleton.mp hz]
    exact st y _ _ fs gy
end
end K0
end
/-! ### A4t -/
section
set_option Elab.async false
set_option linter.all false
set_option maxRecDepth 100000
set_option maxHeartbeats 4000000
/-! Tuples of data. -/
namespace K0
open PySem PySem.Spec PyProof.Rows L2
theorem bulk_mem {d : PyData} : ∀ {ds : List PyData}, d ∈ ds → d.bulk ≤ PyData.bulkAll ds
  | e :: ds, h => by
    rw [PyData.bulkAll]
    rcases List.mem_cons.mp h with rfl | h
    · omega
    · have := bulk_mem h
      omega
theorem bulk_len : ∀ ds : List PyData, ds.length ≤ PyData.bulkAll ds
  | [] => Nat.zero_le _
  | e :: ds => by
    have := bulk_len ds
    rw [PyData.bulkAll, List.length_cons]
    omega
theorem is_tup {K : PySem.W.Frag} {H : Hp} {v : V} {d : PyData} (hd : Dv K H v d) (h : isTupD d = true) : ∃ a xs ds, v = .ref a ∧ d = .tuple ds ∧ SqT K H a xs ∧ DvAll K H xs ds := by
  cases hd with
  | tup h1 h2 => exact ⟨_, _, _, rfl, rfl, h1, h2⟩
  | _ => cases h
theorem bl_take {bs : List Bool} {m : Nat} {b : Bool} (h : bs[m]? = some b) : (bs.take (m + 1)).map V.bl = (bs.take m).map V.bl ++ [V.bl b] := by
  rw [List.take_add_one, h, List.map_append]
  rfl
end K0
end
/-! ### EQS -/
section
set_option Elab.async false
set_option linter.all false
set_option maxRecDepth 100000
set_option maxHeartbeats 4000000
/-! any data held against a text. -/
namespace K0
open PySem PySem.Spec PyProof.Rows L2
section
variable {prog : Program} {w : World} {A : Around} {E : Value → Shared → Prop} {s : Shared}
theorem dict_no_text {a : Addr} {o : Obj} {es : Array DictEntry} {ep : Nat} {b : Str} {u : Tok} {Q : Value → Shared → Prop} (ho : s.heap.get? a = some o) (hc : o.cls = .type "dict") (hd : o.data = .dict es ep) (hu : A.units < cLine) (q : Q (.bool false) s) :
    wpAny (model prog w) A (richCompare .Eq (.ref a) (.str b u)) Q E s := by
  have tD : s.TypeIs (.ref a) "dict" := ⟨o, ho, hc⟩
  have tS : s.TypeIs (.str b u) "str" := (show typeOf (.str b u) = _ from rfl)
  refine SeqAt.rc_eq_decline_or tD tS (by rfl) (by rfl) F.slot_dict_eq F.slot_str_eq_refl (fun Q' q' => ?_) (fun Q' q' => ?_) (fun Q' q' => ?_) (.inr hu) q
  · refine call_meets F.slot_dict_eq tD (by rfl) (by rfl) (S := fun _ R s' => s' = s ∧ R (.ok (.ret .notImplemented)) s) (fun prog w A R s' h => ?_) ⟨rfl, q'⟩
    obtain ⟨rfl, h⟩ := h
    show wpAny _ _ (Builtin.Dict.dictSlotArgs "__eq__" ⟨[.ref a, .str b u], []⟩ >>= _) _ _ _
    refine wpAny_bind ?_
    unfold Builtin.Dict.dictSlotArgs Builtin.Dict.notOrdered slotArgs
    refine wpAny_bind (wpAny_pure (wpAny_bind (wpAny_pure (wpAny_pure ?_))))
    refine wpAny_bind (wpAny_isInstance tS (b := false) (by rfl) ?_)
    exact wpAny_bind (wpAny_rule (wpAny_pure h))
  · refine call_meets F.slot_str_eq_refl tS (by rfl) (by rfl) (S := fun _ R s' => s' = s ∧ R (.ok (.ret .notImplemented)) s) (fun prog w A R s' h => ?_) ⟨rfl, q'⟩
    obtain ⟨rfl, h⟩ := h
    unfold Builtin.«str.__eq__» Builtin.Str.strCompare
    refine wpAny_bind ?_
    unfold Builtin.Str.strSlot slotArgs Builtin.Str.textOf asStr?
    refine wpAny_bind (wpAny_pure (wpAny_bind (wpAny_bind (wpAny_pure (wpAny_pure (wpAny_pure ?_))))))
    refine wpAny_bind (wpAny_bind (wpAny_load ho ?_))
    rw [hd]
    exact wpAny_pure (wpAny_bind (wpAny_rule (wpAny_pure h)))
  · exact wpAny_pure (by rw [show ((Value.ref a == Value.str b u) : Bool) = false from rfl]; exact q')
end
def eqS (d : PyData) (z : Str) : Bool := PyData.eqv d (.str z)
/-- any data, held against a text -/
def rEqS (K : PySem.W.Frag) : R2 := fun x y H Q => ∃ e z, y = .str z ∧ Dv K H x e ∧ Q (.bl (eqS e z)) H
theorem op_eqS {X : Cx} (hu : X.A.units + 64 < cLine) : OpR X (compareOp .Eq) (rEqS X.K) := by
  intro pins s σ H x y v u Q I rx ry h
  obtain ⟨e, z, rfl, hd, q⟩ := h
  obtain ⟨t, rfl⟩ := ry
  show wpAny _ _ (richCompare .Eq v (.str z t)) _ _ s
  have hu0 : X.A.units < cLine := by omega
  cases hd with
  | non => cases rx; exact SeqAt.RcAt.none_str _ _ X.prog X.w _ _ ⟨.bl false, H, I, rfl, q⟩
  | bl b => cases rx; exact SeqAt.RcAt.bool_str _ _ _ X.prog X.w _ _ ⟨.bl false, H, I, rfl, q⟩
  | int i => obtain ⟨_, rfl⟩ := rx; exact SeqAt.RcAt.int_str _ _ _ _ X.prog X.w _ _ ⟨.bl false, H, I, rfl, q⟩
  | str x => obtain ⟨_, rfl⟩ := rx; exact SeqAt.RcAt.str_str _ _ _ _ X.prog X.w _ _ ⟨.bl _, H, I, rfl, q⟩
  | lst h1 h2 =>
    cases rx
    obtain ⟨its, r1, p1, _⟩ := I.list h1
    exact SeqAt.RcAt.list_str _ _ p1.isList hu0 X.prog X.w _ _ ⟨.bl false, H, I, rfl, q⟩
  | tup h1 h2 =>
    cases rx
    obtain ⟨its, r1, p1, _⟩ := I.tuple h1
    exact SeqAt.RcAt.tuple_str _ _ p1 hu0 X.prog X.w _ _ ⟨.bl false, H, I, rfl, q⟩
  | dic h1 h2 h3 =>
    cases rx
    obtain ⟨z, hd, vs0, r0, o, es, ep, ho, hx, hda, hko, hpr, hnd⟩ := dk_of I.hok h1
    exact dict_no_text ho hx.1 hda hu0 ⟨.bl false, H, I, rfl, q⟩
theorem op_eqSK {X : Cx} (K : PySem.W.Frag) (e : X.K = K) (hu : X.A.units + 64 < cLine) : OpR X (compareOp .Eq) (rEqS K) := by
  subst e
  exact op_eqS hu
end K0
end
/-! ### P2 -/
section
set_option Elab.async false
set_option linter.all false
set_option maxRecDepth 100000
set_option maxHeartbeats 4000000
/-! is_deed, is_history. -/
namespace K0
open PySem PySem.Spec PyProof.Rows L2
def textsD : PyData → Bool
  | .tuple ts => ts.all isTextD
  | _ => false
def isDeedD : PyData → Bool
  | .tuple [w, t] => (eqS w "use" && isNameD t) || (eqS w "store" && isPathD t)
  | .tuple [w, t, x] => isPathD t && (if eqS w "take" = true then textsD x else (eqS w "put" && isTextD x) || (eqS w "move" && isPathD x))
  | _ => false
theorem scIsDeed : FnScope ["value", "word", "told", "text"] ["value"] (defScope (top iIsDeed)) := ⟨rfl, rfl, rfl, by decide +kernel, rfl, by decide +kernel, by decide +kernel⟩
def spDeed (K : PySem.W.Frag) : Sp := fun vs H Q _ => ∃ (v : V) (d : PyData), vs = [v] ∧ Dv K H v d ∧ d.bulk ≤ 100000 ∧ ∀ H', Same H H' → Q (.bl (isDeedD d)) H'
theorem short_deed {ds : List PyData} (h : ¬ (2 ≤ ds.length ∧ ds.length ≤ 3)) : isDeedD (.tuple ds) = false := by
  match ds, h with
  | [], _ => rfl
  | [_], _ => rfl
  | [_, _], h => exact absurd ⟨Nat.le_refl _, Nat.le_succ _⟩ h
  | [_, _, _], h => exact absurd ⟨Nat.le_succ _, Nat.le_refl _⟩ h
  | _ :: _ :: _ :: _ :: _, _ => rfl
theorem rd_eqand {K : PySem.W.Frag} {z : Str} {g : PyData → Bool} {te : TE} {σ : L2.St} {H : Hp} {Q : VK} {w t : PyData} {x1 x2 : V} (h1 : σ[1]? = some (some x1)) (v1 : Dv K H x1 w) (v2 : Dv K H x2 t) (tb : t.bulk ≤ 100000) (hte : ∀ R : VK, R x2 H → te σ H R)
    (q : ∀ H', Same H H' → Q (.bl (eqS w z && g t)) H') : tAndV (tOp (rEqS K) (tVar 1) (tC (.str z))) (tCall (spD K g) [] E0 (tCons te tNil)) σ H Q := by
  refine ⟨_, h1, w, z, rfl, v1, _, rfl, ite2 (fun e => ?_) (fun e => ?_)⟩
  · refine hte _ ⟨x2, t, rfl, v2, tb, fun H' s => ?_⟩
    have q2 := q H' s
    rw [show eqS w z = true from e, Bool.true_and] at q2
    exact q2
  · have q2 := q H (Same.refl H)
    rw [show eqS w z = false from Bool.eq_false_iff.mpr e, Bool.false_and] at q2
    exact q2
section
variable {P : Program} {w : World} {K : PySem.W.Frag} {mg : Str → Option Value} {base : Heap} {f fN fP fT : Addr} {fd fdN fdP fdT : FuncData}
theorem ok_isDeed {k : Nat} (F : FnP K "is_deed" iIsDeed f fd) (mlen : mg "len" = none) (misi : mg "isinstance" = none) (mtup : mg "tuple" = none) (mall : mg "all" = none)
    (FN : FnOk P w K mg base CX0 (k + 2) fN fdN ["value"] (spD K isNameD)) (gN : mg "is_name" = some (.ref fN)) (kN : PySem.W.keepIn K (.ref fN) = true) (bN : Binds K fdN ["value"] [])
    (FP : FnOk P w K mg base CX0 (k + 2) fP fdP ["value"] (spD K isPathD)) (gP : mg "is_path" = some (.ref fP)) (kP : PySem.W.keepIn K (.ref fP) = true) (bP : Binds K fdP ["value"] [])
    (FT : FnOk P w K mg base CX0 (k + 2) fT fdT ["value"] (spD K isTextD)) (gT : mg "is_text" = some (.ref fT)) (kT : PySem.W.keepIn K (.ref fT) = true) (bT : Binds K fdT ["value"] []) :
    FnOk P w K mg base CX0 (k + 3) f fd ["value"] (spDeed K) := by
  refine F.ok scIsDeed (fun vs H Q E h => ?_) (fun cdv A outer s H vs Q E hr h => ?_)
  · obtain ⟨v, d, rfl, _⟩ := h
    rfl
  · obtain ⟨v, d, rfl, hd, sz, q⟩ := h
    refine ⟨_, PSs.nox (C8.pss_cut (ps_if (PW.pt (pw_or (pt_not (pt_val (pe_callB call_isi (by rfl) misi boot_isinstance (pa_cons (pv 0) (pa_cons (pe_bltn (v := .ty "tuple") (by rfl) mtup (by decide +kernel) rfl) pa_nil)))))
          (pw_or1 (pt_not (pt_chain op_le op_le pe_int (pe_callB call_len_seq (by rfl) mlen PySem.boot_len (pa_cons (pv 0) pa_nil)) pe_int))))) (pss_one (ps_ret pe_bl)) pss_nil)
      (C8.pss_cut (ps_asg (pe_slice sl_tupA (pv 0) po_none (po_some pe_int)) (pg_tup rfl (pgs_cons (pg_name (i := 1) scIsDeed.nd rfl (.inl rfl)) (pgs_cons (pg_name (i := 2) scIsDeed.nd rfl (.inl rfl)) pgs_nil))))
      (C8.pss_cut (ps_if (pt_cmpR op_eq (pe_callB call_len_seq (by rfl) mlen PySem.boot_len (pa_cons (pv 0) pa_nil)) pe_int (nomark _))
          (pss_one (ps_ret (pe_or (pe_and (pe_cmpR (op_eqS hr.units) (pv 1) pe_str (nomark _)) (pe_one (pe_call FN hr (by rfl) gN kN bN .nil pass0 (pa_cons (pv 2) pa_nil))))
            (pe_one (pe_and (pe_cmpR (op_eqS hr.units) (pv 1) pe_str (nomark _)) (pe_one (pe_call FP hr (by rfl) gP kP bP .nil pass0 (pa_cons (pv 2) pa_nil)))))))) pss_nil)
      (C8.pss_cut (ps_if (pt_not (pt_val (pe_call FP hr (by rfl) gP kP bP .nil pass0 (pa_cons (pv 2) pa_nil)))) (pss_one (ps_ret pe_bl)) pss_nil)
      (C8.pss_cut (ps_if (pt_cmpR (op_eqS hr.units) (pv 1) pe_str (nomark _))
          (pss_one (ps_ret (pe_and (pe_callB call_isi (by rfl) misi boot_isinstance (pa_cons (pe_ix ix_tup (pv 0) pe_int (fun _ _ => rfl)) (pa_cons (pe_bltn (v := .ty "tuple") (by rfl) mtup (by decide +kernel) rfl) pa_nil)))
            (pe_one (pe_callB (cr_all rfl) (by rfl) mall (by decide +kernel) (pa_cons (pe_lc (own := [("text", 3)]) (g := gName 3) (tt := tYes) rfl scIsDeed.nd (pi_tup (pe_ix ix_tup (pv 0) pe_int (fun _ _ => rfl))) (blkOk_by (N := ["value", "word", "told", "text"]) (sc := defScope (top iIsDeed)) (by decide +kernel)) (fun _ _ _ _ _ => pg_name (i := 3) scIsDeed.nd rfl (Or.inl rfl))
              (fun _ _ _ _ _ => pts_nil) (fun _ _ _ _ _ => pe_call FT hr (by rfl) gT kT bT .nil pass0 (pa_cons (pv 3) pa_nil))) pa_nil)))))) pss_nil)
      (pss_one (ps_ret (pe_or (pe_and (pe_cmpR (op_eqS hr.units) (pv 1) pe_str (nomark _)) (pe_one (pe_call FT hr (by rfl) gT kT bT .nil pass0 (pa_cons (pe_ix ix_tup (pv 0) pe_int (fun _ _ => rfl)) pa_nil))))
            (pe_one (pe_and (pe_cmpR (op_eqS hr.units) (pv 1) pe_str (nomark _)) (pe_one (pe_call FP hr (by rfl) gP kP bP .nil pass0 (pa_cons (pe_ix ix_tup (pv 0) pe_int (fun _ _ => rfl)) pa_nil))))))))))))), ?_⟩
    refine ⟨fun σ' H' => ∃ a xs ds, v = .ref a ∧ d = .tuple ds ∧ SqT K H' a xs ∧ DvAll K H' xs ds ∧ (2 ≤ ds.length ∧ ds.length ≤ 3) ∧ H' = H ∧ σ' = [some v, none, none, none], ?_, ?_⟩
    · refine ⟨_, rfl, v, _, _, _, _, rfl, .ty _, hd.ty, kit_tup d, _, rfl, ite2 (fun e => ?_) (fun e => ?_)⟩
      · have q2 := q H (Same.refl H)
        have e0 : isDeedD d = false := by cases d <;> first | rfl | cases e
        rw [e0] at q2
        exact q2
      · have e2 : isTupD d = true := by
          cases z : isTupD d with
          | true => rfl
          | false => rw [z] at e; exact absurd rfl e
        obtain ⟨a, xs, ds, rfl, rfl, hT, hA⟩ := is_tup hd e2
        have xl := hA.length
        refine ⟨_, rfl, a, xs, rfl, .inr hT, _, _, rfl, rfl, _, rfl, ite2 (fun e3 => ?_) (fun e3 => ?_)⟩
        · have e3 := of_decide_eq_true e3
          refine ⟨_, _, rfl, rfl, _, rfl, ite2 (fun e4 => ?_) (fun e4 => ?_)⟩
          · have e5 : ¬ ((xs.length : Nat) : Int) ≤ 3 := fun z => by rw [decide_eq_true z] at e4; cases e4
            have q2 := q H (Same.refl H)
            rw [short_deed (by omega)] at q2
            exact q2
          · have e5 : ((xs.length : Nat) : Int) ≤ 3 := by
              by_cases z : ((xs.length : Nat) : Int) ≤ 3
              · exact z
              · rw [decide_eq_false z] at e4
                exact absurd rfl e4
            exact ⟨a, xs, ds, rfl, rfl, hT, hA, by omega, rfl, rfl⟩
        · have e5 : ¬ (2 : Int) ≤ ((xs.length : Nat) : Int) := fun z => e3 (decide_eq_true z)
          refine ⟨_, rfl, ite2 (fun e4 => ?_) (fun e4 => absurd rfl e4)⟩
          have q2 := q H (Same.refl H)
          rw [short_deed (by omega)] at q2
          exact q2
    rintro σ1 H1 ⟨a, xs, ds, rfl, rfl, hT, hA, hl, rfl, rfl⟩
    have sz2 : PyData.bulkAll ds ≤ 100000 := sz
    have cases2 : (∃ w t, ds = [w, t]) ∨ (∃ w t x, ds = [w, t, x]) := by
      match ds, hl with
      | [w, t], _ => exact .inl ⟨w, t, rfl⟩
      | [w, t, x], _ => exact .inr ⟨w, t, x, rfl⟩
      | [], h => exact absurd h.1 (by decide)
      | [_], h => exact absurd h.1 (by simp)
      | _ :: _ :: _ :: _ :: _, h => exact absurd h.2 (by simp)
    rcases cases2 with ⟨w, t, rfl⟩ | ⟨w, t, x, rfl⟩
    · cases hA with
      | cons v1 hA =>
      cases hA with
      | cons v2 hA =>
      cases hA
      rename_i x1 x2
      have tb : t.bulk ≤ 100000 := Nat.le_trans (bulk_mem (ds := [w, t]) (by simp)) sz2
      refine ⟨fun σ' H' => H' = H1 ∧ σ' = [some (.ref a), some x1, some x2, none], ?_, ?_⟩
      · exact ⟨_, rfl, _, rfl, a, [x1, x2], rfl, hT, fun _ => ⟨a, [x1, x2], rfl, hT, rfl, _, _, rfl, _, _, rfl, rfl, rfl, rfl⟩, fun z => absurd ⟨rfl, rfl⟩ z⟩
      rintro σ2 H2 ⟨rfl, rfl⟩
      refine ⟨fun σ' H' => False, ?_, fun _ _ z => z.elim⟩
      refine ⟨_, rfl, a, [x1, x2], rfl, .inr hT, rfl, _, rfl, ite2 (fun _ => ?_) (fun z => absurd rfl z)⟩
      refine rd_eqand (z := "use") (g := isNameD) rfl v1 v2 tb (fun R hR => ⟨_, rfl, hR⟩) fun H3 s3 => ⟨_, rfl, ite2 (fun e => ?_) (fun e => ?_)⟩
      · have q2 := q H3 s3
        have e0 : isDeedD (.tuple [w, t]) = true := by
          show ((eqS w "use" && isNameD t) || _) = true
          rw [e, Bool.true_or]
        rw [e0] at q2
        exact q2
      · refine rd_eqand (z := "store") (g := isPathD) rfl (v1.same s3) (v2.same s3) tb (fun R hR => ⟨_, rfl, hR⟩) fun H4 s4 => ?_
        have q2 := q H4 (s3.trans s4)
        have e0 : isDeedD (.tuple [w, t]) = (eqS w "store" && isPathD t) := by
          show ((eqS w "use" && isNameD t) || _) = _
          rw [Bool.eq_false_iff.mpr e, Bool.false_or]
        rw [e0] at q2
        exact q2
    · cases hA with
      | cons v1 hA =>
      cases hA with
      | cons v2 hA =>
      cases hA with
      | cons v3 hA =>
      cases hA
      rename_i x1 x2 x3
      have tb : t.bulk ≤ 100000 := Nat.le_trans (bulk_mem (ds := [w, t, x]) (by simp)) sz2
      have xb : x.bulk ≤ 100000 := Nat.le_trans (bulk_mem (ds := [w, t, x]) (by simp)) sz2
      refine ⟨fun σ' H' => Same H1 H' ∧ σ' = [some (.ref a), some x1, some x2, none], ?_, ?_⟩
      · exact ⟨_, rfl, _, rfl, a, [x1, x2, x3], rfl, hT, fun z => absurd z.2 (by show ¬ (2 : Nat) = 3; decide), fun _ p np => ⟨p, [x1, x2], rfl, .of upd_same, rfl, _, _, rfl, _, _, rfl, rfl, same_upd np, rfl⟩⟩
      rintro σ2 H2 ⟨s2, rfl⟩
      refine ⟨fun σ' H' => H' = H2 ∧ σ' = [some (.ref a), some x1, some x2, none], ?_, ?_⟩
      · exact ⟨_, rfl, a, [x1, x2, x3], rfl, .inr (same_tup s2 hT), rfl, _, rfl, ite2 (fun z => by cases z) (fun _ => ⟨rfl, rfl⟩)⟩
      rintro σ3 H3 ⟨rfl, rfl⟩
      refine ⟨fun σ' H' => Same H1 H' ∧ isPathD t = true ∧ σ' = [some (.ref a), some x1, some x2, none], ?_, ?_⟩
      · refine ⟨_, rfl, x2, t, rfl, v2.same s2, tb, fun H4 s4 => ⟨_, rfl, ite2 (fun e => ?_) (fun e => ?_)⟩⟩
        · have q2 := q H4 (s2.trans s4)
          have e0 : isDeedD (.tuple [w, t, x]) = false := by
            show (isPathD t && _) = false
            have : isPathD t = false := by
              cases z : isPathD t with
              | false => rfl
              | true => rw [z] at e; cases e
            rw [this, Bool.false_and]
          rw [e0] at q2
          exact q2
        · refine ⟨s2.trans s4, ?_, rfl⟩
          cases z : isPathD t with
          | true => rfl
          | false => rw [z] at e; exact absurd rfl e
      rintro σ4 H4 ⟨s4, pt, rfl⟩
      have dval : isDeedD (.tuple [w, t, x]) = if eqS w "take" = true then textsD x else (eqS w "put" && isTextD x) || (eqS w "move" && isPathD x) := by
        show (isPathD t && _) = _
        rw [pt, Bool.true_and]
      rw [dval] at q
      refine ⟨fun σ' H' => H' = H4 ∧ eqS w "take" = false ∧ σ' = [some (.ref a), some x1, some x2, none], ?_, ?_⟩
      · refine ⟨_, rfl, w, "take", rfl, v1.same s4, _, rfl, ite2 (fun e => ?_) (fun e => ⟨rfl, Bool.eq_false_iff.mpr e, rfl⟩)⟩
        rw [if_pos (show eqS w "take" = true from e)] at q
        refine ⟨_, rfl, a, [x1, x2, x3], 2, x3, rfl, rfl, same_tup s4 hT, rfl, x3, _, _, _, _, rfl, .ty _, (v3.same s4).ty, kit_tup x, _, rfl, ite2 (fun e2 => ?_) (fun e2 => ?_)⟩
        · obtain ⟨b, ys, ts, rfl, rfl, bT, bA⟩ := is_tup (v3.same s4) e2
          have tsb : PyData.bulkAll ts ≤ 100000 := xb
          have tl := bulk_len ts
          have yl := bA.length
          have hT4 := same_tup s4 hT
          refine ⟨_, rfl, a, [x1, x2, .ref b], 2, .ref b, rfl, rfl, hT4, rfl, b, rfl, ⟨ys, bT⟩, fun D nD => lc_map (walk_tup (xs := ys)) (xs := ys) (fun i => (ts.map fun d => V.bl (isTextD d))[i]?) (fun i _ _ _ hi hy => hy) nD (fun H' s => same_tup s bT) (small5 (by omega)) (fun i y H' R hi hy s hR => ?_) (fun H' s eD => ?_)⟩
          · obtain ⟨d1, h1, u1⟩ := bA.get hy
            exact ⟨rfl, _, rfl, y, d1, rfl, u1.same s, Nat.le_trans (bulk_mem (List.mem_of_getElem? h1)) tsb, fun H3 s3 => hR _ _ (by rw [List.getElem?_map, h1]; rfl) s3⟩
          · have eL : (List.range ys.length).filterMap (fun i => (ts.map fun d => V.bl (isTextD d))[i]?) = ts.map fun d => V.bl (isTextD d) := by
              rw [show ys.length = (ts.map fun d => V.bl (isTextD d)).length by rw [List.length_map, yl]]
              exact fm_get _
            rw [eL] at eD
            refine ⟨D, ts.map isTextD, rfl, .of (eD.trans (by rw [List.map_map]; rfl)), ?_⟩
            have q2 := q H' (s4.trans s)
            have e0 : textsD (.tuple ts) = (ts.map isTextD).all id := by
              rw [List.all_map]
              rfl
            rw [e0] at q2
            exact q2
        · have q2 := q H4 s4
          have e0 : textsD x = false := by cases x <;> first | rfl | exact absurd rfl e2
          rw [e0] at q2
          exact q2
      rintro σ5 H5 ⟨rfl, ne, rfl⟩
      rw [if_neg (by rw [ne]; decide)] at q
      have ix : ∀ {H' : Hp} {R : VK}, Same H5 H' → R x3 H' → tOp (rIxT K) (tVar 0) (tC (.int 2)) [some (.ref a), some x1, some x2, none] H' R := fun {H' R} s' hR => ⟨_, rfl, a, [x1, x2, x3], 2, x3, rfl, rfl, same_tup (s4.trans s') hT, rfl, hR⟩
      refine rd_eqand (z := "put") (g := isTextD) rfl (v1.same s4) (v3.same s4) xb (fun R hR => ix (Same.refl _) hR) fun H6 s6 => ⟨_, rfl, ite2 (fun e => ?_) (fun e => ?_)⟩
      · have q2 := q H6 (s4.trans s6)
        rw [e, Bool.true_or] at q2
        exact q2
      · refine rd_eqand (z := "move") (g := isPathD) rfl (v1.same (s4.trans s6)) (v3.same (s4.trans s6)) xb (fun R hR => ix s6 hR) fun H7 s7 => ?_
        have q2 := q H7 ((s4.trans s6).trans s7)
        rw [Bool.eq_false_iff.mpr e, Bool.false_or] at q2
        exact q2
end
end K0
end
/-! ### P3 -/
section
set_option Elab.async false
set_option linter.all false
set_option maxRecDepth 100000
set_option maxHeartbeats 4000000
/-! is_history; text_word, line_of, words_of, is_text_word. -/
namespace K0
open PySem PySem.Spec PyProof.Rows L2
def isHistD : PyData → Bool
  | .tuple ds => decide (ds.length ≤ 40) && ds.all isDeedD
  | _ => false
theorem scIsHist : FnScope ["value", "deed"] ["value"] (defScope (top iIsHist)) := ⟨rfl, rfl, rfl, by decide +kernel, rfl, by decide +kernel, by decide +kernel⟩
def spHist (K : PySem.W.Frag) : Sp := fun vs H Q _ => ∃ (v : V) (d : PyData), vs = [v] ∧ Dv K H v d ∧ d.bulk ≤ 100000 ∧ ∀ H', Same H H' → Q (.bl (isHistD d)) H'
theorem scTextWord : FnScope ["text"] ["text"] (defScope (top iTextWord)) := ⟨rfl, rfl, rfl, by decide +kernel, rfl, by decide +kernel, by decide +kernel⟩
theorem scLineOf : FnScope ["words"] ["words"] (defScope (top iLineOf)) := ⟨rfl, rfl, rfl, by decide +kernel, rfl, by decide +kernel, by decide +kernel⟩
theorem scWordsOf : FnScope ["line", "words"] ["line"] (defScope (top iWordsOf)) := ⟨rfl, rfl, rfl, by decide +kernel, rfl, by decide +kernel, by decide +kernel⟩
theorem scIsTW : FnScope ["word"] ["word"] (defScope (top iIsTW)) := ⟨rfl, rfl, rfl, by decide +kernel, rfl, by decide +kernel, by decide +kernel⟩
def spTextWord : Sp := fun vs H Q _ => ∃ z : Str, vs = [.str z] ∧ z.length ≤ 100000 ∧ Q (.str (eqw z)) H
def sumLen (ws : List Str) : Nat := (ws.map (·.length)).sum
def spLineOf (K : PySem.W.Frag) : Sp := fun vs H Q _ => ∃ (a : Addr) (ws : List Str), vs = [.ref a] ∧ SqL K H a (ws.map V.str) ∧ sumLen ws + ws.length ≤ 1000000 ∧ Q (.str (Txt.join (one 32) ws)) H
/-- the words of a line; none of them if one is empty -/
def wordsL (z : Str) : List Str := if ("" : Str) ∈ Txt.split z (one 32) then [] else Txt.split z (one 32)
def spWordsOf : Sp := fun vs H Q _ => ∃ z : Str, vs = [.str z] ∧ z.length ≤ 1000000 ∧ ∀ H' p, Same H H' → H' p = some (.lst ((wordsL z).map V.str)) → Q (.ref p) H'
def spIsTW : Sp := fun vs H Q _ => ∃ z : Str, vs = [.str z] ∧ z.length ≤ 100000 ∧ ∀ H', Same H H' → Q (.bl (twB z)) H'
theorem starts_eq (z : Str) : Txt.startswith z (one 61) = (match cd z with | c :: _ => c == 61 | [] => false) := by
  have h := StrLaws.subAt_one z 61 0
  unfold Txt.startswith
  rw [Bool.eq_iff_iff, Bool.and_eq_true, decide_eq_true_iff, h]
  show (cd z)[0]? = some 61 ↔ _
  cases cd z with
  | nil => simp
  | cons c r =>
    show some c = some 61 ↔ (c == 61) = true
    simp
theorem op_inK {X : Cx} (K : PySem.W.Frag) (e : X.K = K) : OpR X (compareOp .In) (rIn K false) := by
  subst e
  exact op_in_seq
theorem op_notInK {X : Cx} (K : PySem.W.Frag) (e : X.K = K) : OpR X (compareOp .NotIn) (rIn K true) := by
  subst e
  exact op_notIn_seq
theorem flat_strs (l : List Str) : (l.map V.str).all flatV = true := by
  rw [List.all_eq_true]
  intro x hx
  obtain ⟨c, _, rfl⟩ := List.mem_map.mp hx
  rfl
theorem inV_str {s : Str} : ∀ {l : List Str}, inV (.str s) (l.map V.str) = decide (s ∈ l)
  | [] => by simp [inV]
  | c :: l => by
    have ih := inV_str (s := s) (l := l)
    unfold inV at ih ⊢
    rw [List.map_cons, List.any_cons, ih]
    have e : eqV (.str c) (.str s) = decide (s = c) := by
      show (c == s) = _
      rw [Bool.beq_eq_decide_eq]
      exact decide_eq_decide.mpr ⟨fun h => h.symm, fun h => h.symm⟩
    rw [e]
    by_cases h : s = c
    · simp [h]
    · simp [h]
theorem cut_body (z : Str) : cutS z (some 1) none = bodyS z := by
  unfold cutS bodyS tx cd
  rw [HT.sIx_none, show HT.sIx z.length 0 (some 1) = min 1 z.length from HT.sIx_nat _ _ 1]
  have hl : z.cps.toList.length = z.length := by
    show _ = z.cps.size
    simp
  cases h : z.cps.toList with
  | nil => simp
  | cons c r =>
    rw [h] at hl
    have : min 1 z.length = 1 := by
      rw [← hl, List.length_cons]
      omega
    rw [this, ← hl]
    congr 2
    show List.take _ r = r
    exact List.take_of_length_le (by rw [List.length_cons]; omega)
section
variable {P : Program} {w : World} {K : PySem.W.Frag} {mg : Str → Option Value} {base : Heap} {f fD fT : Addr} {fd fdD fdT : FuncData}
theorem ok_isHist {k : Nat} (F : FnP K "is_history" iIsHist f fd) (mlen : mg "len" = none) (misi : mg "isinstance" = none) (mtup : mg "tuple" = none) (mall : mg "all" = none) (mM : ∃ t, mg "MAX_DEEDS" = some (.int 40 t))
    (FD : FnOk P w K mg base CX0 (k + 3) fD fdD ["value"] (spDeed K)) (gD : mg "is_deed" = some (.ref fD)) (kD : PySem.W.keepIn K (.ref fD) = true) (bD : Binds K fdD ["value"] []) :
    FnOk P w K mg base CX0 (k + 4) f fd ["value"] (spHist K) := by
  refine F.ok scIsHist (fun vs H Q E h => ?_) (fun cdv A outer s H vs Q E hr h => ?_)
  · obtain ⟨v, d, rfl, _⟩ := h
    rfl
  · obtain ⟨v, d, rfl, hd, sz, q⟩ := h
    obtain ⟨tM, mM⟩ := mM
    refine ⟨_, PSs.nox (pss_one (ps_ret (pe_and (pe_callB call_isi (by rfl) misi boot_isinstance (pa_cons (pv 0) (pa_cons (pe_bltn (v := .ty "tuple") (by rfl) mtup (by decide +kernel) rfl) pa_nil)))
      (pe_and (pe_cmpR op_le (pe_callB call_len_seq (by rfl) mlen PySem.boot_len (pa_cons (pv 0) pa_nil)) (pe_glob (v := .int 40) (by rfl) mM ⟨tM, rfl⟩) (nomark _))
      (pe_one (pe_callB (cr_all rfl) (by rfl) mall (by decide +kernel) (pa_cons (pe_lc (own := [("deed", 1)]) (g := gName 1) (tt := tYes) rfl scIsHist.nd (pi_tup (pv 0)) (blkOk_by (N := ["value", "deed"]) (sc := defScope (top iIsHist)) (by decide +kernel)) (fun _ _ _ _ _ => pg_name (i := 1) scIsHist.nd rfl (Or.inl rfl))
              (fun _ _ _ _ _ => pts_nil) (fun _ _ _ _ _ => pe_call FD hr (by rfl) gD kD bD .nil pass0 (pa_cons (pv 1) pa_nil))) pa_nil))))))), ?_⟩
    refine ⟨_, rfl, v, _, _, _, _, rfl, .ty _, hd.ty, kit_tup d, _, rfl, ite2 (fun e => ?_) (fun e => ?_)⟩
    · obtain ⟨a, xs, ds, rfl, rfl, hT, hA⟩ := is_tup hd e
      have xl := hA.length
      have sz2 : PyData.bulkAll ds ≤ 100000 := sz
      have dl := bulk_len ds
      have q2 : ∀ H', Same H H' → Q (.bl (decide (ds.length ≤ 40) && ds.all isDeedD)) H' := q
      refine ⟨_, rfl, a, xs, rfl, .inr hT, _, _, rfl, rfl, _, rfl, ite2 (fun e2 => ?_) (fun e2 => ?_)⟩
      · have le : ds.length ≤ 40 := by
          have := of_decide_eq_true e2
          omega
        refine ⟨_, rfl, a, rfl, ⟨xs, hT⟩, fun D nD => lc_map (walk_tup (xs := xs)) (xs := xs) (fun i => (ds.map fun d => V.bl (isDeedD d))[i]?) (fun i _ _ _ hi hy => hy) nD (fun H' s => same_tup s hT) (small5 (by omega)) (fun i y H' R hi hy s hR => ?_) (fun H' s eD => ?_)⟩
        · obtain ⟨d1, h1, u1⟩ := hA.get hy
          exact ⟨rfl, _, rfl, y, d1, rfl, u1.same s, Nat.le_trans (bulk_mem (List.mem_of_getElem? h1)) sz2, fun H3 s3 => hR _ _ (by rw [List.getElem?_map, h1]; rfl) s3⟩
        · have eL : (List.range xs.length).filterMap (fun i => (ds.map fun d => V.bl (isDeedD d))[i]?) = ds.map fun d => V.bl (isDeedD d) := by
            rw [show xs.length = (ds.map fun d => V.bl (isDeedD d)).length by rw [List.length_map, xl]]
            exact fm_get _
          rw [eL] at eD
          refine ⟨D, ds.map isDeedD, rfl, .of (eD.trans (by rw [List.map_map]; rfl)), ?_⟩
          have q3 := q2 H' s
          rw [decide_eq_true le, Bool.true_and] at q3
          rw [List.all_map]
          exact q3
      · have q3 := q2 H (Same.refl H)
        have e3 : ¬ ds.length ≤ 40 := fun z => e2 (decide_eq_true (by omega))
        rw [decide_eq_false e3, Bool.false_and] at q3
        exact q3
    · have q2 := q H (Same.refl H)
      have e0 : isHistD d = false := by cases d <;> first | rfl | exact absurd rfl e
      rw [e0] at q2
      exact q2
theorem ok_textWord {k : Nat} (F : FnP K "text_word" iTextWord f fd) : FnOk P w K mg base CX0 (k + 1) f fd ["text"] spTextWord := by
  refine F.ok scTextWord (fun vs H Q E h => ?_) (fun cdv A outer s H vs Q E hr h => ?_)
  · obtain ⟨z, rfl, _⟩ := h
    rfl
  · obtain ⟨z, rfl, sz, q⟩ := h
    refine ⟨_, PSs.nox (pss_one (ps_ret (pe_op op_add_str pe_str (pv 0)))), ?_⟩
    refine ⟨_, rfl, "=", z, rfl, rfl, ?_, q⟩
    have sl : sizeLine = 16777216 := sizeLine_eq
    show 1 + z.length ≤ sizeLine
    omega
theorem ok_lineOf {k : Nat} (F : FnP K "line_of" iLineOf f fd) : FnOk P w K mg base CX0 (k + 1) f fd ["words"] (spLineOf K) := by
  refine F.ok scLineOf (fun vs H Q E h => ?_) (fun cdv A outer s H vs Q E hr h => ?_)
  · obtain ⟨a, ws, rfl, _⟩ := h
    rfl
  · obtain ⟨a, ws, rfl, hL, sz, q⟩ := h
    refine ⟨_, PSs.nox (pss_one (ps_ret (pe_join pe_str (pv 0)))), ?_⟩
    refine ⟨⟨_, rfl⟩, _, rfl, " ", a, ws, rfl, rfl, .inl hL, ?_, q⟩
    show sumLen ws + ws.length * 1 ≤ 16777216
    omega
theorem ok_wordsOf {k : Nat} (F : FnP K "words_of" iWordsOf f fd) : FnOk P w K mg base CX0 (k + 1) f fd ["line"] spWordsOf := by
  refine F.ok scWordsOf (fun vs H Q E h => ?_) (fun cdv A outer s H vs Q E hr h => ?_)
  · obtain ⟨z, rfl, _⟩ := h
    rfl
  · obtain ⟨z, rfl, sz, q⟩ := h
    refine ⟨_, PSs.nox (pss_cons (ps_set (i := 1) scWordsOf.nd rfl (.inl rfl) (pe_split (pv 0) pe_str)) (pss_one (ps_ret (pe_ifExp (pt_cmpR (op_inK K rfl) pe_str (pv 1) rfl) (pe_lst pa_nil) (pv 1))))), ?_⟩
    have sl : sizeLine = 16777216 := sizeLine_eq
    refine ⟨_, rfl, ⟨_, rfl⟩, z, " ", rfl, rfl, rfl, by omega, fun p np => ?_⟩
    have s1 : Same H (upd H p (.lst ((Txt.split z (one 32)).map V.str))) := same_upd np
    refine ⟨_, rfl, p, _, rfl, .inl (.of upd_same), rfl, flat_strs _, ?_⟩
    refine ⟨_, rfl, ?_⟩
    show (if inV (.str "") ((Txt.split z (one 32)).map V.str) = true then _ else _)
    rw [inV_str]
    refine ite2 (fun e => ?_) (fun e => ?_)
    · have e := of_decide_eq_true e
      refine ⟨by show 0 ≤ sizeLine; omega, fun p2 np2 => q _ p2 (s1.trans (same_upd np2)) ?_⟩
      rw [upd_same]
      unfold wordsL
      rw [if_pos e]
      rfl
    · have e : ¬ ("" : Str) ∈ Txt.split z (one 32) := fun w => e (decide_eq_true w)
      refine ⟨_, rfl, q _ p s1 ?_⟩
      rw [upd_same]
      unfold wordsL
      rw [if_neg e]
      rfl
theorem ok_isTW {k : Nat} (F : FnP K "is_text_word" iIsTW f fd) (FT : FnOk P w K mg base CX0 (k + 1) fT fdT ["value"] (spD K isTextD)) (gT : mg "is_text" = some (.ref fT)) (kT : PySem.W.keepIn K (.ref fT) = true) (bT : Binds K fdT ["value"] []) :
    FnOk P w K mg base CX0 (k + 2) f fd ["word"] spIsTW := by
  refine F.ok scIsTW (fun vs H Q E h => ?_) (fun cdv A outer s H vs Q E hr h => ?_)
  · obtain ⟨z, rfl, _⟩ := h
    rfl
  · obtain ⟨z, rfl, sz, q⟩ := h
    refine ⟨_, PSs.nox (pss_one (ps_ret (pe_and (pe_bm PySem.F.plainAttrs_str PySem.F.slot_str_startswith PySem.F.type_str_startswith mt_startswith (pv 0) (pa_cons pe_str pa_nil)) (pe_one (pe_call FT hr (by rfl) gT kT bT .nil pass0 (pa_cons (pe_slice sl_str (pv 0) (po_some pe_int) po_none) pa_nil)))))), ?_⟩
    have sl : sizeLine = 16777216 := sizeLine_eq
    refine ⟨_, rfl, rfl, z, "=", rfl, rfl, _, rfl, ?_⟩
    show (if Txt.startswith z (one 61) = true then _ else _)
    rw [starts_eq]
    have tb : twB z = (match cd z with | c :: r => c == 61 && r.all sgB | [] => false) := rfl
    have eb : cd (bodyS z) = (cd z).drop 1 := cd_tx _
    have bl : (bodyS z).length ≤ 100000 := by
      rw [← cd_len, eb, List.length_drop, cd_len]
      omega
    cases hz : cd z with
    | nil =>
      refine ite2 (fun e => by cases e) (fun _ => ?_)
      have q2 := q H (Same.refl H)
      rw [tb, hz] at q2
      exact q2
    | cons c r =>
      rw [hz] at tb eb
      refine ite2 (fun e => ?_) (fun e => ?_)
      · refine ⟨_, rfl, _, rfl, z, rfl, by omega, ?_⟩
        rw [cut_body]
        refine ⟨_, .str (bodyS z), rfl, .str _, bl, fun H' s => ?_⟩
        have q2 := q H' s
        have e : (c == 61) = true := e
        rw [tb, show (match c :: r with | c :: r => c == 61 && r.all sgB | [] => false) = (c == 61 && r.all sgB) from rfl, e, Bool.true_and] at q2
        have eq2 : isTextD (.str (bodyS z)) = r.all sgB := by
          show sgAll (bodyS z) = _
          rw [sgAll_cd, eb]
          rfl
        rw [eq2]
        exact q2
      · have q2 := q H (Same.refl H)
        have e : (c == 61) = false := Bool.eq_false_iff.mpr e
        rw [tb, show (match c :: r with | c :: r => c == 61 && r.all sgB | [] => false) = (c == 61 && r.all sgB) from rfl, e, Bool.false_and] at q2
        exact q2
end
end K0
end
/-! ### STAR -/
section
set_option Elab.async false
set_option linter.all false
set_option maxRecDepth 100000
set_option maxHeartbeats 4000000
/-! a, b, *rest = a list or a tuple. -/
namespace K0
open PySem PySem.Spec PyProof.Rows L2
section
variable {prog : Program} {w : World} {A : Around} {E : Value → Shared → Prop} {s : Shared} {env : Env} {elts : List Expr} {k : Nat} {pos : Pos}
theorem star_tail {l : Addr} {items : Array Value} {i : Nat} {T : String} {it : Addr} {St : Nat → Heap → Prop} {Q : List Value → Shared → Prop} {h₁ : Heap} (hTm : T = "str_ascii_iterator" ∨ T = "str_iterator" ∨ T = "list_iterator" ∨ T = "tuple_iterator")
    (W : Walks prog w A.in1 it [it, l] [it] items.size (fun i v => items[i]? = some v) St) (hT : ∀ i (u : Shared), St i u.heap → u.TypeIs (.ref it) T) (hi : i ≤ items.size) (hst : St i h₁) (hI : it < h₁.objs.size) (hax : l < h₁.objs.size) (hz : items.size ≤ 16384)
    (h : ∀ (h' : Heap) (tk : Nat), (∀ b o, b ≠ it → h₁.get? b = some o → h'.get? b = some o) → Q (items.toList.take i ++ [.ref h'.objs.size]) { s with heap := h'.push { cls := .type "list", data := .seq (items.toList.drop i).toArray }, toks := tk }) :
    wpAny (model prog w) A (do
      let first := items.toList.take i
      if first.length < i then
        rule "unpack.star.too-few-before"
        raiseError "ValueError" s!"not enough values to unpack (expected at least {i + 1 - 1}, got {first.length})"
      let rest ← holding first (collect (.ref it))
      let after := i + 1 - 1 - i
      if rest.length < after then
        rule "unpack.star.too-few"
        raiseError "ValueError" s!"not enough values to unpack (expected at least {i + 1 - 1}, got {i + rest.length})"
      let mid := rest.length - after
      return first ++ [← newList (rest.take mid)] ++ rest.drop mid) Q E { s with heap := h₁ } := by
  have hfl : (items.toList.take i).length = i := by rw [List.length_take, Array.length_toList]; omega
  rw [if_neg (show ¬ ((items.toList.take i).length < i) by rw [hfl]; omega)]
  refine wpAny_bind (wpAny_holding (PySem.W.kun_collect (s := { s with heap := h₁ }) hTm W hT hi hst hI hax (fun h₂ tk hk => ?_) (by rw [sizeLine_eq]; omega)))
  have hrl : (items.toList.drop i).length = items.size - i := by rw [List.length_drop, Array.length_toList]
  have e0 : i + 1 - 1 - i = 0 := by omega
  show wpAny _ _ (if (items.toList.drop i).length < i + 1 - 1 - i then _ else _) _ _ _
  rw [if_neg (by rw [e0]; omega)]
  show wpAny _ _ (newList ((items.toList.drop i).take ((items.toList.drop i).length - (i + 1 - 1 - i))) >>= fun d => pure (items.toList.take i ++ [d] ++ (items.toList.drop i).drop ((items.toList.drop i).length - (i + 1 - 1 - i)))) _ _ _
  rw [e0, Nat.sub_zero, List.take_length, List.drop_length]
  refine wpAny_bind ?_
  unfold newList
  refine wpAny_newObj_type ?_ (by show (items.toList.drop i).toArray.size ≤ sizeLine; rw [List.size_toArray, hrl, sizeLine_eq]; omega)
  refine wpAny_pure ?_
  rw [List.append_nil]
  exact h h₂ tk hk
theorem star_list {l : Addr} {items : Array Value} {i : Nat} {Q : List Value → Shared → Prop} (hl : s.heap.IsList l items) (hh : A.handled = none) (hi : i ≤ items.size) (hz : items.size ≤ 16384)
    (h : ∀ (h' : Heap) (tk : Nat), (∀ b o, s.heap.get? b = some o → h'.get? b = some o) → Q (items.toList.take i ++ [.ref h'.objs.size]) { s with heap := h'.push { cls := .type "list", data := .seq (items.toList.drop i).toArray }, toks := tk }) :
    wpAny (model prog w) A (unpackItems (.ref l) (i + 1) (some i)) Q E s := by
  have hlt : l ≠ s.heap.objs.size := by obtain ⟨o, ho, _⟩ := hl; exact Nat.ne_of_lt (Heap.lt_size ho)
  unfold unpackItems
  refine wpAny_bind ?_
  unfold notIterableAtAll
  refine wpAny_bind (wpAny_specialOf hl.typeIs slot_list_iter.lookup ?_)
  refine wpAny_pure ?_
  simp only [Bool.false_eq_true, if_false]
  refine wpAny_bind (wpAny_holding (wpAny_pyIter_list hl ?_))
  refine wpAny_bind (wpAny_holding (PySem.W.kun_draw hlt i 0 _ _ ⟨_, Heap.get?_push_size _ rfl, rfl, rfl⟩ (hl.push _) (by omega) fun h₁ hit₁ hs₁ => ?_))
  have hl₁ : h₁.IsList l items := (hl.push _).extBut hs₁.extBut hlt
  rw [Nat.zero_add] at hit₁
  have hit₁' := hit₁
  obtain ⟨oi, hoi, _⟩ := hit₁'
  have hl₁' := hl₁
  obtain ⟨ol, hol, _⟩ := hl₁'
  rw [List.drop_zero]
  exact star_tail (l := l) (T := "list_iterator") (.inr (.inr (.inl rfl))) (Walks.list (A := A.in1) hh s.heap.objs.size l hlt items) (fun j u st => st.1.typeIs) hi ⟨hit₁, hl₁⟩ (Heap.lt_size hoi) (Heap.lt_size hol) hz fun h₂ tk hk =>
    h h₂ tk fun b o e => hk b o (Nat.ne_of_lt (Heap.lt_size e)) (hs₁.extBut b o (Nat.ne_of_lt (Heap.lt_size e)) (Heap.get?_push_of_some _ e))
theorem star_tup {l : Addr} {items : Array Value} {i : Nat} {Q : List Value → Shared → Prop} (hl : IsTup s.heap l items) (hh : A.handled = none) (hi : i ≤ items.size) (hz : items.size ≤ 16384)
    (h : ∀ (h' : Heap) (tk : Nat), (∀ b o, s.heap.get? b = some o → h'.get? b = some o) → Q (items.toList.take i ++ [.ref h'.objs.size]) { s with heap := h'.push { cls := .type "list", data := .seq (items.toList.drop i).toArray }, toks := tk }) :
    wpAny (model prog w) A (unpackItems (.ref l) (i + 1) (some i)) Q E s := by
  have hlt : l ≠ s.heap.objs.size := by obtain ⟨o, ho, _⟩ := hl; exact Nat.ne_of_lt (Heap.lt_size ho)
  unfold unpackItems
  refine wpAny_bind ?_
  unfold notIterableAtAll
  refine wpAny_bind (wpAny_specialOf hl.typeIs slot_tuple_iter.lookup ?_)
  refine wpAny_pure ?_
  simp only [Bool.false_eq_true, if_false]
  refine wpAny_bind (wpAny_holding (iter_tuple hl ?_))
  refine wpAny_bind (wpAny_holding (draw_tuple hlt i 0 _ _ ⟨_, Heap.get?_push_size _ rfl, rfl, rfl⟩ (hl.push _) (by omega) fun h₁ hit₁ hs₁ => ?_))
  have hl₁ : IsTup h₁ l items := (hl.push _).extBut hs₁.extBut hlt
  rw [Nat.zero_add] at hit₁
  have hit₁' := hit₁
  obtain ⟨oi, hoi, _⟩ := hit₁'
  have hl₁' := hl₁
  obtain ⟨ol, hol, _⟩ := hl₁'
  rw [List.drop_zero]
  exact star_tail (l := l) (T := "tuple_iterator") (.inr (.inr (.inr rfl))) (Walks.tuple (A := A.in1) hh s.heap.objs.size l hlt items) (fun j u st => st.1.typeIs) hi ⟨hit₁, hl₁⟩ (Heap.lt_size hoi) (Heap.lt_size hol) hz fun h₂ tk hk =>
    h h₂ tk fun b o e => hk b o (Nat.ne_of_lt (Heap.lt_size e)) (hs₁.extBut b o (Nat.ne_of_lt (Heap.lt_size e)) (Heap.get?_push_of_some _ e))
end
section
variable {X : Cx} {pos : Pos}
def gStar (K : PySem.W.Frag) (i : Nat) (t : TGs) : TG := fun v σ H Q => ∃ a xs, v = .ref a ∧ (SqL K H a xs ∨ SqT K H a xs) ∧ i ≤ xs.length ∧ xs.length ≤ 16384 ∧ ∀ D, H D = none → t (xs.take i ++ [.ref D]) σ (upd H D (.lst (xs.drop i))) Q
theorem Vals.take {xs : List V} {us : List Value} (r : Vals xs us) : ∀ i, Vals (xs.take i) (us.take i) := by
  induction r with
  | nil => intro i; rw [List.take_nil, List.take_nil]; exact .nil
  | cons r rr ih =>
    intro i
    cases i with
    | zero => exact .nil
    | succ i => exact .cons r (ih i)
theorem Vals.drop {xs : List V} {us : List Value} (r : Vals xs us) : ∀ i, Vals (xs.drop i) (us.drop i) := by
  induction r with
  | nil => intro i; rw [List.drop_nil, List.drop_nil]; exact .nil
  | cons r rr ih =>
    intro i
    cases i with
    | zero => exact .cons r rr
    | succ i => exact ih i
/-- (a, b, .., *rest) = a list or a tuple, the star at the end; es': the names without the star -/
theorem pg_star {es es' : List Expr} {k : Nat} {t : TGs} {i : Nat} (hc : X.calm = true) (h : PGs X es' t) (he : (assignEach es X.env).map (·.2) = (assignEach es' X.env).map (·.2) := by rfl)
    (hn : (assignEach es X.env).length = i + 1 := by rfl) (hst : (assignEach es X.env).findIdx? (·.1) = some i := by rfl) : PG X (.Tuple es k pos) (gStar X.K i t) := by
  refine ⟨fun pins s σ H v u Q I r hw => ?_⟩
  obtain ⟨a, xs, e1, hq, hi, hz, hw⟩ := hw
  subst e1
  cases r
  have fin : ∀ (its : List Value), Vals xs its → ∀ (h' : Heap) (tk : Nat), (∀ b o, s.heap.get? b = some o → h'.get? b = some o) →
      wpAny (model X.prog X.w) X.A (assignInOrder ((assignEach es X.env).map (·.2)) (its.toArray.toList.take i ++ [.ref h'.objs.size])) (fun _ s' => ∃ σ' H', Inv X pins σ' H' s' ∧ Q σ' H') X.xe { s with heap := h'.push { cls := .type "list", data := .seq (its.toArray.toList.drop i).toArray }, toks := tk } := by
    intro its rv h' tk hk
    rw [List.toList_toArray]
    have I1 : Inv X pins σ H { s with heap := h', toks := tk } := I.kept (t' := tk) hk
    have nD : H h'.objs.size = none := I1.hok.fresh (Nat.le_refl _)
    have rd := Vals.drop rv i
    have I2 : Inv X pins σ (upd H h'.objs.size (.lst (xs.drop i))) { s with heap := h'.push { cls := .type "list", data := .seq (its.drop i).toArray }, toks := tk } :=
      I1.laid (t' := tk) (fun b o e => Heap.get?_push_of_some _ e) (Nat.le_refl _) (show ObjOk X.prog X.w _ _ _ (.lst (xs.drop i)) from ⟨by rw [List.length_drop, sizeLine_eq]; omega, its.drop i, 0, rd, Heap.get?_push_size _ rfl⟩)
    rw [he]
    exact h.run pins _ σ _ _ _ Q I2 ((Vals.take rv i).append (.cons (show L2.RelV (.ref h'.objs.size) (.ref h'.objs.size) from rfl) .nil)) (hw _ nD)
  rw [assign_Tuple]
  refine wpAny_bind (wpAny_standAt ?_)
  unfold unpack
  rw [hn, hst]
  rcases hq with hq | hq
  · obtain ⟨its, rv, pl, hz2⟩ := I.list hq
    exact wpAny_bind (wpAny_holding (star_list pl.isList (I.ok.hd hc) (by rw [List.size_toArray, ← rv.length]; exact hi) (by rw [List.size_toArray, ← rv.length]; exact hz) fun h' tk hk => fin its rv h' tk hk))
  · obtain ⟨its, rv, pl, hz2⟩ := I.tuple hq
    exact wpAny_bind (wpAny_holding (star_tup pl (I.ok.hd hc) (by rw [List.size_toArray, ← rv.length]; exact hi) (by rw [List.size_toArray, ← rv.length]; exact hz) fun h' tk hk => fin its rv h' tk hk))
end
end K0
end
/-! ### KGET -/
section
set_option Elab.async false
set_option linter.all false
set_option maxRecDepth 100000
set_option maxHeartbeats 4000000
/-! d.get(text) of a dict of the top. -/
namespace K0
open PySem PySem.Spec PyProof.Rows L2
/-- what a dict of the top tells of a key -/
def KGot (K : PySem.W.Frag) (d : Addr) (z : Str) (v : V) : Prop := (PySem.W.nsIn K d z = some none ∧ v = .non) ∨ ∃ u0, PySem.W.nsIn K d z = some (some u0) ∧ L2.RelV v u0
def tKGet (K : PySem.W.Frag) (d : Addr) (td ty : TE) : TE := fun σ H Q => td σ H fun x H1 => x = .ref d ∧ ty σ H1 fun y H2 => ∃ z v, y = .str z ∧ KGot K d z v ∧ Q v H2
theorem pe_kget {X : Cx} {d : Addr} {es : Array DictEntry} {n : Nat} {o e : Expr} {apos cpos : Pos} {td ty : TE} (D : KDict X.K X.w d es n) (ho : PE X o td) (he : PE X e ty) (m : M1 X o "get" apos e cpos) : PE X (.Call (.Attribute o "get" apos) [e] [] cpos) (tKGet X.K d td ty) := by
  refine ⟨fun pins s σ H Q I h => ?_⟩
  refine wpAny_Call_method m.base m.few m.line PySem.F.plainAttrs_dict PySem.F.slot_dict_get PySem.F.type_dict_get (thn (ho.run pins s σ H _ I h) fun u s1 ⟨x, H1, I1, rx, ex, q1⟩ => ?_)
  subst ex
  obtain rfl : u = Value.ref d := rx
  refine ⟨kd_type D I1, fun b q => ?_, ?_⟩
  · cases q
    exact ⟨_, I1.kIn _ _ D.at_, rfl⟩
  rw [m.trees]
  refine Calls.callWith_builtin rfl (Calls.evalArgs_plain (Calls.spliced_cons (thn (he.run pins s1 σ H1 _ I1 q1) fun iv s2 ⟨y, H2, I2, ry, z, v, ey, g, q2⟩ => Calls.spliced_nil ?_)))
  subst ey
  obtain ⟨t, rfl⟩ := ry
  refine call_meetsIn PySem.F.slot_dict_get (kd_type D I2) PySem.F.entry_dict_get (PySem.F.args_dict_get_2 _ _) (meets_dict_get (PySem.strKind X.prog X.w) d (PySem.strKind_is X.prog X.w z t) D.low) ⟨_, PySem.W.mapOf_K (prog := X.prog) I2.kIn D.at_ D.lit, ⟨v, H2, I2.tok _, ?_, q2⟩⟩
  rcases g with ⟨e, rfl⟩ | ⟨u0, e, r⟩
  · rw [PySem.W.find_K D.at_ e]
    rfl
  · rw [PySem.W.find_K D.at_ e]
    exact r
end K0
end
/-! ### DR -/
section
set_option Elab.async false
set_option linter.all false
set_option maxRecDepth 100000
set_option maxHeartbeats 4000000
/-! deed_row. -/
namespace K0
open PySem PySem.Spec PyProof.Rows L2
def rowB : List Str → Option DeedV
  | word :: told :: rest =>
    if word = "use" then (if rest = [] then some (.use told) else none)
    else if (told :: rest).all twB = false then none
    else if word = "take" then some (.take (bodyS told) (rest.map bodyS))
    else match rest with
      | [] => if word = "store" then some (.store (bodyS told)) else none
      | [t] => if word = "put" then some (.put (bodyS told) (bodyS t)) else if word = "move" then some (.move (bodyS told) (bodyS t)) else none
      | _ => none
  | _ => none
theorem row_of (W : List Str) : rowOf W = if ("" : Str) ∈ W then none else rowB W := rfl
theorem line_of (z : Str) : lineOf z = rowB (wordsL z) := by
  unfold lineOf wordsL
  rw [row_of]
  split <;> rfl
def DeedV.word : DeedV → Str
  | .use _ => "use"
  | .store _ => "store"
  | .put _ _ => "put"
  | .move _ _ => "move"
  | .take _ _ => "take"
/-- what TEXTS_BEHIND tells -/
def behindV (z : Str) : V := if z = "store" then .int 0 else if z = "put" then .int 1 else if z = "move" then .int 1 else .non
theorem scDeedRow : FnScope ["words", "word", "told", "rest", "texts", "text"] ["words"] (defScope (top iDeedRow)) := ⟨rfl, rfl, rfl, by decide +kernel, rfl, by decide +kernel, by decide +kernel⟩
def spDeedRow (K : PySem.W.Frag) : Sp := fun vs H Q _ => ∃ (a : Addr) (ws : List Str), vs = [.ref a] ∧ SqL K H a (ws.map V.str) ∧ sumLen ws ≤ 100000 ∧ ws.length ≤ 10000 ∧
  (rowB ws = none → ∀ H', Same H H' → Q .non H') ∧ (∀ d, rowB ws = some d → ∀ H' t x, Same H H' → H' t = some (.tup [.str d.word, .non, x]) → Dv K H' x d.data → Q (.ref t) H')
theorem cutV_one (xs : List V) : cutV xs (some 1) none = xs.drop 1 := by
  show (xs.drop (HT.sIx xs.length 0 (some ((1 : Nat) : Int)))).take (HT.sIx xs.length xs.length none - HT.sIx xs.length 0 (some ((1 : Nat) : Int))) = _
  rw [HT.sIx_nat, HT.sIx_none]
  cases xs with
  | nil => rfl
  | cons x r =>
    rw [show min 1 (x :: r).length = 1 by rw [List.length_cons]; omega]
    exact List.take_of_length_le (by rw [List.length_drop]; omega)
theorem len_mem {z : Str} : ∀ {ws : List Str}, z ∈ ws → z.length ≤ sumLen ws
  | w :: ws, h => by
    unfold sumLen
    rw [List.map_cons, List.sum_cons]
    rcases List.mem_cons.mp h with rfl | h
    · omega
    · have := len_mem h
      unfold sumLen at this
      omega
theorem dv_strs {K : PySem.W.Frag} {H : Hp} : ∀ ws : List Str, DvAll K H (ws.map V.str) (ws.map PyData.str)
  | [] => .nil
  | w :: ws => .cons (.str w) (dv_strs ws)
section
variable {P : Program} {w : World} {K : PySem.W.Frag} {mg : Str → Option Value} {base : Heap} {f fT dB : Addr} {fd fdT : FuncData} {es : Array DictEntry} {nB : Nat}
theorem ok_deedRow {k : Nat} (F : FnP K "deed_row" iDeedRow f fd) (mlen : mg "len" = none) (mtup : mg "tuple" = none) (mall : mg "all" = none) (D : KDict K w dB es nB) (gB : mg "TEXTS_BEHIND" = some (.ref dB)) (hB : ∀ z, KGot K dB z (behindV z))
    (FT : FnOk P w K mg base CX0 (k + 2) fT fdT ["word"] spIsTW) (gT : mg "is_text_word" = some (.ref fT)) (kT : PySem.W.keepIn K (.ref fT) = true) (bT : Binds K fdT ["word"] []) :
    FnOk P w K mg base CX0 (k + 3) f fd ["words"] (spDeedRow K) := by
  refine F.ok scDeedRow (fun vs H Q E h => ?_) (fun cdv A outer s H vs Q E hr h => ?_)
  · obtain ⟨a, ws, rfl, _⟩ := h
    rfl
  · obtain ⟨a, ws, rfl, hL, sz, few, no, yes⟩ := h
    refine ⟨_, PSs.nox (C8.pss_cut (ps_if (pt_cmpR op_lt (pe_callB call_len_seq (by rfl) mlen PySem.boot_len (pa_cons (pv 0) pa_nil)) pe_int (nomark _)) (pss_one (ps_ret pe_non)) pss_nil)
      (C8.pss_cut (ps_asg (pv 0) (pg_star rfl (pgs_cons (pg_name (i := 1) scDeedRow.nd rfl (.inl rfl)) (pgs_cons (pg_name (i := 2) scDeedRow.nd rfl (.inl rfl)) (pgs_cons (pg_name (i := 3) scDeedRow.nd rfl (.inl rfl)) pgs_nil)))))
      (C8.pss_cut (ps_if (pt_cmpR op_eq (pv 1) pe_str (nomark _)) (pss_one (ps_ret (pe_ifExp (pt_truth (pv 3) (by intro _; rfl)) pe_non (pe_tup (pa_cons (pv 1) (pa_cons pe_non (pa_cons (pe_tup (pa_cons (pv 1) (pa_cons (pv 2) pa_nil))) pa_nil))))))) pss_nil)
      (C8.pss_cut (ps_if (pt_not (pt_val (pe_callB (cr_all rfl) (by rfl) mall (by decide +kernel) (pa_cons (pe_lc (own := [("text", 5)]) (g := gName 5) (tt := tYes) rfl scDeedRow.nd (pi_list (pe_slice sl_list (pv 0) (po_some pe_int) po_none)) (blkOk_by (N := ["words", "word", "told", "rest", "texts", "text"]) (sc := defScope (top iDeedRow)) (by decide +kernel)) (fun _ _ _ _ _ => pg_name (i := 5) scDeedRow.nd rfl (Or.inl rfl))
              (fun _ _ _ _ _ => pts_nil) (fun _ _ _ _ _ => pe_call FT hr (by rfl) gT kT bT .nil pass0 (pa_cons (pv 5) pa_nil))) pa_nil)))) (pss_one (ps_ret pe_non)) pss_nil)
      (C8.pss_cut (ps_set (i := 4) scDeedRow.nd rfl (.inl rfl) (pe_callTy call_tuple_of (by rfl) mtup (by decide +kernel) (pa_cons (pe_lc (own := [("text", 5)]) (g := gName 5) (tt := tYes) rfl scDeedRow.nd (pi_list (pv 3)) (blkOk_by (N := ["words", "word", "told", "rest", "texts", "text"]) (sc := defScope (top iDeedRow)) (by decide +kernel)) (fun _ _ _ _ _ => pg_name (i := 5) scDeedRow.nd rfl (Or.inl rfl))
              (fun _ _ _ _ _ => pts_nil) (fun _ _ _ _ _ => pe_slice sl_str (pv 5) (po_some pe_int) po_none)) pa_nil)))
      (C8.pss_cut (ps_if (pt_cmpR op_eq (pv 1) pe_str (nomark _)) (pss_one (ps_ret (pe_tup (pa_cons (pv 1) (pa_cons pe_non (pa_cons (pe_tup (pa_cons (pv 1) (pa_cons (pe_slice sl_str (pv 2) (po_some pe_int) po_none) (pa_cons (pv 4) pa_nil)))) pa_nil)))))) pss_nil)
      (C8.pss_cut (ps_if (pt_cmpR op_ne (pe_callB call_len_seq (by rfl) mlen PySem.boot_len (pa_cons (pv 3) pa_nil)) (pe_kget D (pe_glob (v := .ref dB) (by rfl) gB rfl) (pv 1) ⟨rfl, rfl, rfl, rfl⟩) (nomark _)) (pss_one (ps_ret pe_non)) pss_nil)
      (pss_one (ps_ret (pe_tup (pa_cons (pv 1) (pa_cons pe_non (pa_cons (pe_tup (pa_cons (pv 1) (pa_cons (pe_slice sl_str (pv 2) (po_some pe_int) po_none) (StX.pa_star (pv 4) pa_nil)))) pa_nil))))))))))))), ?_⟩
    have sl : sizeLine = 16777216 := sizeLine_eq
    refine ⟨fun σ' H' => H' = H ∧ σ' = [some (.ref a), none, none, none, none, none] ∧ ∃ word told rest, ws = word :: told :: rest, ?_, ?_⟩
    · refine ⟨_, rfl, a, _, rfl, .inl hL, _, _, rfl, rfl, _, rfl, ite2 (fun e => ?_) (fun e => ?_)⟩
      · have e := of_decide_eq_true e
        rw [List.length_map] at e
        have e0 : rowB ws = none := by
          match ws, e with
          | [], _ => rfl
          | [_], _ => rfl
          | _ :: _ :: r, e => rw [List.length_cons, List.length_cons] at e; omega
        exact no e0 H (Same.refl H)
      · have e : ¬ (((ws.map V.str).length : Nat) : Int) < 2 := fun z => e (decide_eq_true z)
        rw [List.length_map] at e
        refine ⟨rfl, rfl, ?_⟩
        match ws, e with
        | [], e => exact absurd (show (((0 : Nat) : Int)) < 2 by decide) e
        | [_], e => exact absurd (show (((1 : Nat) : Int)) < 2 by decide) e
        | w :: u :: r, _ => exact ⟨w, u, r, rfl⟩
    rintro σ1 H1 ⟨rfl, rfl, word, told, rest, rfl⟩
    have wl : word.length ≤ 100000 := Nat.le_trans (len_mem (by simp)) sz
    have tl : told.length ≤ 100000 := Nat.le_trans (len_mem (by simp)) sz
    have rl : ∀ z ∈ rest, z.length ≤ 100000 := fun z hz => Nat.le_trans (len_mem (by simp [hz])) sz
    have rn : rest.length ≤ 10000 := by
      rw [List.length_cons, List.length_cons] at few
      omega
    refine ⟨fun σ' H' => ∃ D, Same H1 H' ∧ H' D = some (.lst (rest.map V.str)) ∧ σ' = [some (.ref a), some (.str word), some (.str told), some (.ref D), none, none], ?_, ?_⟩
    · exact ⟨_, rfl, a, _, rfl, .inl hL, by show 2 ≤ _; rw [List.length_map, List.length_cons, List.length_cons]; omega, by rw [List.length_map]; omega, fun D nD => ⟨_, _, rfl, _, _, rfl, _, _, rfl, rfl, D, same_upd nD, upd_same, rfl⟩⟩
    rintro σ2 H2 ⟨D, s2, eD, rfl⟩
    -- word == 'use'
    refine ⟨fun σ' H' => H' = H2 ∧ word ≠ "use" ∧ σ' = [some (.ref a), some (.str word), some (.str told), some (.ref D), none, none], ?_, ?_⟩
    · refine ⟨_, rfl, rfl, _, rfl, ite2 (fun e => ?_) (fun e => ⟨rfl, fun z => e (by rw [z]; exact decide_eq_true rfl), rfl⟩)⟩
      have e : word = "use" := by
        have := of_decide_eq_true e
        injection this
      subst e
      refine ⟨_, rfl, _, .inl ⟨_, .of eD, rfl⟩, ite2 (fun e2 => ?_) (fun e2 => ?_)⟩
      · refine no ?_ H2 s2
        show (if rest = [] then _ else _) = _
        rw [if_neg (fun z => by rw [z] at e2; cases e2)]
      · have r0 : rest = [] := by
          cases rest with
          | nil => rfl
          | cons x r => exact absurd rfl e2
        refine ⟨_, rfl, _, rfl, _, rfl, by show 2 ≤ sizeLine; omega, fun p np => ⟨by show 3 ≤ sizeLine; omega, fun q' nq => ?_⟩⟩
        have s3 := (s2.trans (same_upd (o := .tup [.str "use", .str told]) np)).trans (same_upd (o := .tup [.str "use", .non, .ref p]) nq)
        exact yes (.use told) (by show (if rest = [] then _ else _) = _; rw [if_pos r0]) _ q' (.ref p) s3 upd_same (.tup (.of (same_upd nq _ _ upd_same)) (.cons (.str _) (.cons (.str _) .nil)))
    rintro σ3 H3 ⟨rfl, nu, rfl⟩
    have rB : rowB (word :: told :: rest) = if (told :: rest).all twB = false then none else if word = "take" then some (.take (bodyS told) (rest.map bodyS)) else match rest with
      | [] => if word = "store" then some (.store (bodyS told)) else none
      | [t] => if word = "put" then some (.put (bodyS told) (bodyS t)) else if word = "move" then some (.move (bodyS told) (bodyS t)) else none
      | _ => none := by
      show (if word = "use" then _ else _) = _
      rw [if_neg nu]
    -- all text words
    refine ⟨fun σ' H' => Same H3 H' ∧ (told :: rest).all twB = true ∧ σ' = [some (.ref a), some (.str word), some (.str told), some (.ref D), none, none], ?_, ?_⟩
    · refine ⟨_, rfl, _, rfl, a, _, rfl, s2.seq hL, fun p np => ?_⟩
      rw [cutV_one]
      have dr : ((word :: told :: rest).map V.str).drop 1 = (told :: rest).map V.str := rfl
      rw [dr]
      have sp := same_upd (o := .lst ((told :: rest).map V.str)) np
      refine ⟨p, rfl, ⟨_, .of upd_same⟩, fun L nL => lc_map (walk_list (xs := (told :: rest).map V.str)) (xs := (told :: rest).map V.str) (fun i => ((told :: rest).map fun z => V.bl (twB z))[i]?) (fun i _ _ _ hi hy => hy) nL (fun H' s => .of (s _ _ upd_same)) (by rw [List.length_map, List.length_cons]; omega) (fun i y H' R hi hy s hR => ?_) (fun H' s eL => ?_)⟩
      · rw [List.getElem?_map] at hy
        obtain ⟨z, hz, rfl⟩ := Option.map_eq_some_iff.mp hy
        have zl : z.length ≤ 100000 := by
          rcases List.mem_cons.mp (List.mem_of_getElem? hz) with rfl | h
          · exact tl
          · exact rl z h
        exact ⟨rfl, _, rfl, z, rfl, zl, fun H4 s4 => hR _ _ (by rw [List.getElem?_map, hz]; rfl) s4⟩
      · have eF : (List.range ((told :: rest).map V.str).length).filterMap (fun i => ((told :: rest).map fun z => V.bl (twB z))[i]?) = (told :: rest).map fun z => V.bl (twB z) := by
          rw [show ((told :: rest).map V.str).length = ((told :: rest).map fun z => V.bl (twB z)).length by rw [List.length_map, List.length_map]]
          exact fm_get _
        rw [eF] at eL
        refine ⟨L, (told :: rest).map twB, rfl, .of (eL.trans (by rw [List.map_map]; rfl)), _, rfl, ite2 (fun e => ?_) (fun e => ⟨sp.trans s, ?_, rfl⟩)⟩
        · rw [List.all_map] at e
          have e2 : (told :: rest).all twB = false := by
            cases z : (told :: rest).all twB with
            | false => rfl
            | true => rw [show (told :: rest).all (id ∘ twB) = (told :: rest).all twB from rfl, z] at e; cases e
          rw [if_pos e2] at rB
          exact no rB H' ((s2.trans sp).trans s)
        · rw [List.all_map] at e
          cases z : (told :: rest).all twB with
          | true => rfl
          | false => rw [show (told :: rest).all (id ∘ twB) = (told :: rest).all twB from rfl, z] at e; exact absurd rfl e
    rintro σ4 H4 ⟨s4, al, rfl⟩
    rw [al, if_neg (by decide)] at rB
    -- texts
    refine ⟨fun σ' H' => ∃ T, Same H4 H' ∧ H' T = some (.tup ((rest.map bodyS).map V.str)) ∧ σ' = [some (.ref a), some (.str word), some (.str told), some (.ref D), some (.ref T), none], ?_, ?_⟩
    · refine ⟨_, rfl, D, rfl, ⟨_, .of (s4 _ _ eD)⟩, fun L nL => lc_map (walk_list (xs := rest.map V.str)) (xs := rest.map V.str) (fun i => ((rest.map bodyS).map V.str)[i]?) (fun i _ _ _ hi hy => hy) nL (fun H' s => .of (s _ _ (s4 _ _ eD))) (by rw [List.length_map]; omega) (fun i y H' R hi hy s hR => ?_) (fun H' s eL => ?_)⟩
      · rw [List.getElem?_map] at hy
        obtain ⟨z, hz, rfl⟩ := Option.map_eq_some_iff.mp hy
        refine ⟨rfl, _, rfl, _, rfl, z, rfl, ?_, ?_⟩
        · have := rl z (List.mem_of_getElem? hz)
          omega
        · rw [cut_body]
          exact hR _ _ (by rw [List.getElem?_map, List.getElem?_map, hz]; rfl) (Same.refl _)
      · have eF : (List.range (rest.map V.str).length).filterMap (fun i => ((rest.map bodyS).map V.str)[i]?) = (rest.map bodyS).map V.str := by
          rw [show (rest.map V.str).length = ((rest.map bodyS).map V.str).length by rw [List.length_map, List.length_map, List.length_map]]
          exact fm_get _
        rw [eF] at eL
        exact ⟨L, _, rfl, .inl ⟨.of eL, fun T nT => ⟨T, s.trans (same_upd nT), upd_same, rfl⟩⟩⟩
    rintro σ5 H5 ⟨T, s5, eT, rfl⟩
    have s25 := s4.trans s5
    -- take
    refine ⟨fun σ' H' => H' = H5 ∧ word ≠ "take" ∧ σ' = [some (.ref a), some (.str word), some (.str told), some (.ref D), some (.ref T), none], ?_, ?_⟩
    · refine ⟨_, rfl, rfl, _, rfl, ite2 (fun e => ?_) (fun e => ⟨rfl, fun z => e (by rw [z]; exact decide_eq_true rfl), rfl⟩)⟩
      have e : word = "take" := by
        have := of_decide_eq_true e
        injection this
      subst e
      refine ⟨_, rfl, _, rfl, _, rfl, _, rfl, told, rfl, by omega, _, rfl, by show 3 ≤ sizeLine; omega, fun p np => ⟨by show 3 ≤ sizeLine; omega, fun q' nq => ?_⟩⟩
      rw [cut_body] at *
      rw [if_pos rfl] at rB
      have sA := same_upd (o := .tup [.str "take", .str (bodyS told), .ref T]) np
      have sB := same_upd (o := .tup [.str "take", .non, .ref p]) nq
      refine yes _ rB _ q' (.ref p) (((s2.trans s25).trans sA).trans sB) upd_same (.tup (.of (sB _ _ upd_same)) (.cons (.str _) (.cons (.str _) (.cons (.tup (.of ((sA.trans sB) _ _ eT)) (dv_strs _)) .nil))))
    rintro σ6 H6 ⟨rfl, nt, rfl⟩
    rw [if_neg nt] at rB
    -- how many
    refine ⟨fun σ' H' => H' = H6 ∧ V.int (rest.length : Nat) = behindV word ∧ σ' = [some (.ref a), some (.str word), some (.str told), some (.ref D), some (.ref T), none], ?_, ?_⟩
    · have sc : scal (.int (rest.length : Nat)) (behindV word) = true := by
        unfold behindV
        split
        · rfl
        split
        · rfl
        split <;> rfl
      refine ⟨_, rfl, D, _, rfl, .inl (.of (s25 _ _ eD)), rfl, _, rfl, word, _, rfl, hB word, ?_⟩
      rw [List.length_map]
      refine ⟨sc, _, rfl, ite2 (fun e => ?_) (fun e => ⟨rfl, ?_, rfl⟩)⟩
      · have ne : V.int (rest.length : Nat) ≠ behindV word := fun z => by
          rw [decide_eq_true z] at e
          cases e
        refine no ?_ H6 (s2.trans s25)
        rw [rB]
        match rest, ne with
        | [], ne =>
          show (if word = "store" then _ else none) = none
          rw [if_neg fun z => ne (by unfold behindV; rw [if_pos z]; rfl)]
        | [t], ne =>
          have n0 : word ≠ "put" ∧ word ≠ "move" := ⟨fun z => ne (by rw [z]; rfl), fun z => ne (by rw [z]; rfl)⟩
          show (if word = "put" then _ else if word = "move" then _ else none) = none
          rw [if_neg n0.1, if_neg n0.2]
        | _ :: _ :: _, _ => rfl
      · by_cases z : V.int (rest.length : Nat) = behindV word
        · exact z
        · rw [decide_eq_false z] at e
          exact absurd rfl e
    rintro σ7 H7 ⟨rfl, hl, rfl⟩
    refine ⟨_, rfl, _, rfl, _, rfl, _, rfl, told, rfl, by omega, ?_⟩
    rw [cut_body]
    refine ⟨_, rfl, T, _, rfl, .inl (.of eT), ?_⟩
    dsimp only [tNil]
    rw [List.append_nil]
    refine ⟨by show (V.str word :: V.str (bodyS told) :: (rest.map bodyS).map V.str).length ≤ sizeLine; rw [List.length_cons, List.length_cons, List.length_map, List.length_map]; omega, fun p np => ⟨by show 3 ≤ sizeLine; omega, fun q' nq => ?_⟩⟩
    have sA := same_upd (o := .tup (V.str word :: V.str (bodyS told) :: (rest.map bodyS).map V.str)) np
    have sB := same_upd (o := .tup [.str word, .non, .ref p]) nq
    have done : ∀ d : DeedV, rowB (word :: told :: rest) = some d → d.word = word → d.data = .tuple (.str word :: .str (bodyS told) :: (rest.map bodyS).map PyData.str) → Q (.ref q') (upd (upd H7 p (.tup (V.str word :: V.str (bodyS told) :: (rest.map bodyS).map V.str))) q' (.tup [.str word, .non, .ref p])) := fun d hd hw hdat => by
      refine yes d hd _ q' (.ref p) ((s2.trans s25).trans (sA.trans sB)) (by rw [upd_same, hw]) ?_
      rw [hdat]
      exact .tup (.of (sB _ _ upd_same)) (.cons (.str _) (.cons (.str _) (dv_strs _)))
    rw [rB] at done
    match rest, hl with
    | [], hl =>
      have hw : word = "store" := by
        unfold behindV at hl
        split at hl
        · assumption
        · split at hl
          · cases hl
          · split at hl <;> cases hl
      subst hw
      exact done (.store (bodyS told)) rfl rfl rfl
    | [t], hl =>
      have hw : word = "put" ∨ word = "move" := by
        unfold behindV at hl
        split at hl
        · cases hl
        · split at hl
          · exact .inl (by assumption)
          · split at hl
            · exact .inr (by assumption)
            · cases hl
      rcases hw with rfl | rfl
      · exact done (.put (bodyS told) (bodyS t)) rfl rfl rfl
      · exact done (.move (bodyS told) (bodyS t)) rfl rfl rfl
    | _ :: _ :: r, hl =>
      exfalso
      unfold behindV at hl
      split at hl
      · injection hl with h; rw [List.length_cons, List.length_cons] at h; omega
      · split at hl
        · injection hl with h; rw [List.length_cons, List.length_cons] at h; omega
        · split at hl
          · injection hl with h; rw [List.length_cons, List.length_cons] at h; omega
          · cases hl
end
end K0
end
/-! ### WR -/
section
set_option Elab.async false
set_option linter.all false
set_option maxRecDepth 100000
set_option maxHeartbeats 4000000
/-! words_of_deed, write_history. -/
namespace K0
open PySem PySem.Spec PyProof.Rows L2
/-- what the written part says of an exception without an __init__ -/
structure TxtK (K : PySem.W.Frag) (CT : Addr) : Prop where
  exc : PySem.W.excIn K CT He.veBase "ValueError.__new__" = true
  kp : PySem.W.keepIn K (.ref CT) = true
  sub : PySem.W.subIn K (.ref CT) (.type "BaseException") = some true
  ty : PySem.W.typeIn K (.ref CT) = some (.type "type")
theorem bulk_strs : ∀ ts : List Str, PyData.bulkAll (ts.map PyData.str) = sumLen ts + ts.length
  | [] => rfl
  | t :: ts => by
    rw [List.map_cons, PyData.bulkAll, bulk_strs ts]
    show t.cps.size + 1 + (sumLen ts + ts.length) = ((t :: ts).map (·.length)).sum + (ts.length + 1)
    rw [List.map_cons, List.sum_cons]
    show t.length + 1 + (sumLen ts + ts.length) = t.length + sumLen ts + (ts.length + 1)
    omega
theorem eqw_len (z : Str) : (eqw z).length = z.length + 1 := by
  rw [← cd_len, cd_eqw, List.length_cons, cd_len]
theorem sum_eqw : ∀ ts : List Str, sumLen (ts.map eqw) = sumLen ts + ts.length
  | [] => rfl
  | t :: ts => by
    have ih := sum_eqw ts
    unfold sumLen at ih ⊢
    rw [List.map_cons, List.map_cons, List.sum_cons, List.map_cons, List.sum_cons, ih, eqw_len, List.length_cons]
    omega
theorem words_sum (d : DeedV) : sumLen d.words + d.words.length ≤ 2 * d.data.bulk := by
  have b2 : ∀ a b : PyData, (PyData.tuple [a, b]).bulk = a.bulk + b.bulk + 2 := fun a b => by show a.bulk + 1 + (b.bulk + 1 + 0) = _; omega
  have b3 : ∀ a b c : PyData, (PyData.tuple [a, b, c]).bulk = a.bulk + b.bulk + c.bulk + 3 := fun a b c => by show a.bulk + 1 + (b.bulk + 1 + (c.bulk + 1 + 0)) = _; omega
  have bs : ∀ z : Str, (PyData.str z).bulk = z.length := fun z => rfl
  have s2 : ∀ a b : Str, sumLen [a, b] = a.length + b.length := fun a b => by show a.length + (b.length + 0) = _; omega
  have s3 : ∀ a b c : Str, sumLen [a, b, c] = a.length + b.length + c.length := fun a b c => by show a.length + (b.length + (c.length + 0)) = _; omega
  cases d with
  | use n =>
    show sumLen ["use", n] + 2 ≤ 2 * (PyData.tuple [.str "use", .str n]).bulk
    rw [s2, b2, bs, bs]
    show 3 + n.length + 2 ≤ 2 * (3 + n.length + 2)
    omega
  | store p =>
    show sumLen ["store", eqw p] + 2 ≤ 2 * (PyData.tuple [.str "store", .str p]).bulk
    rw [s2, b2, bs, bs, eqw_len]
    show 5 + (p.length + 1) + 2 ≤ 2 * (5 + p.length + 2)
    omega
  | put p t =>
    show sumLen ["put", eqw p, eqw t] + 3 ≤ 2 * (PyData.tuple [.str "put", .str p, .str t]).bulk
    rw [s3, b3, bs, bs, bs, eqw_len, eqw_len]
    show 3 + (p.length + 1) + (t.length + 1) + 3 ≤ 2 * (3 + p.length + t.length + 3)
    omega
  | move p t =>
    show sumLen ["move", eqw p, eqw t] + 3 ≤ 2 * (PyData.tuple [.str "move", .str p, .str t]).bulk
    rw [s3, b3, bs, bs, bs, eqw_len, eqw_len]
    show 4 + (p.length + 1) + (t.length + 1) + 3 ≤ 2 * (4 + p.length + t.length + 3)
    omega
  | take p ts =>
    show sumLen ("take" :: eqw p :: ts.map eqw) + (ts.map eqw).length.succ.succ ≤ 2 * (PyData.tuple [.str "take", .str p, .tuple (ts.map PyData.str)]).bulk
    rw [b3, bs, bs]
    have e1 : sumLen ("take" :: eqw p :: ts.map eqw) = 4 + ((p.length + 1) + sumLen (ts.map eqw)) := by
      unfold sumLen
      rw [List.map_cons, List.map_cons, List.sum_cons, List.sum_cons, eqw_len]
      rfl
    have e2 : (PyData.tuple (ts.map PyData.str)).bulk = sumLen ts + ts.length := bulk_strs ts
    rw [e1, e2, sum_eqw, List.length_map]
    show _ ≤ 2 * (4 + p.length + (sumLen ts + ts.length) + 3)
    omega
theorem dv_strs_eq {K : PySem.W.Frag} {H : Hp} : ∀ {ts : List Str} {us : List V}, DvAll K H us (ts.map PyData.str) → us = ts.map V.str
  | [], _, h => by cases h; rfl
  | t :: ts, _, h => by
    cases h with
    | cons h1 h2 =>
      cases h1
      rw [dv_strs_eq h2]
      rfl
theorem sum_le {B : Nat} : ∀ {l : List Str}, (∀ y ∈ l, y.length ≤ B) → (l.map (·.length)).sum ≤ l.length * B
  | [], _ => Nat.zero_le _
  | x :: l, h => by
    have := sum_le (l := l) fun y hy => h y (List.mem_cons_of_mem _ hy)
    have := h x List.mem_cons_self
    rw [List.map_cons, List.sum_cons, List.length_cons, Nat.succ_mul]
    omega
theorem line_len (d : DeedV) : (lineD d).length ≤ 2 * d.data.bulk := by
  unfold lineD
  rw [txt_join]
  have h1 := StrLaws.join_length_le (one 32) d.words
  have h2 := words_sum d
  have e : (one 32).length = 1 := rfl
  rw [e] at h1
  unfold sumLen at h2
  omega
/-- a history's text -/
def histS (hs : List DeedV) : Str := Txt.join (one 10) (hs.map lineD)
theorem eqS_str (a b : Str) : eqS (.str a) b = decide (a = b) := by
  show PyData.eqv (.str a) (.str b) = _
  unfold PyData.eqv
  exact Bool.beq_eq_decide_eq a b
theorem all_texts : ∀ ts : List Str, (ts.map PyData.str).all isTextD = ts.all sgAll
  | [] => rfl
  | t :: ts => by rw [List.map_cons, List.all_cons, List.all_cons, all_texts ts]; rfl
theorem deed_data (d : DeedV) : isDeedD d.data = d.ok := by
  cases d with
  | use n =>
    show ((eqS (.str "use") "use" && nameS n) || (eqS (.str "use") "store" && pathS n)) = nameS n
    rw [eqS_str, eqS_str, decide_eq_true rfl, decide_eq_false (by decide), Bool.true_and, Bool.false_and, Bool.or_false]
  | store p =>
    show ((eqS (.str "store") "use" && nameS p) || (eqS (.str "store") "store" && pathS p)) = pathS p
    rw [eqS_str, eqS_str, decide_eq_true rfl, decide_eq_false (by decide), Bool.true_and, Bool.false_and, Bool.false_or]
  | put p t =>
    show (pathS p && (if eqS (.str "put") "take" = true then textsD (.str t) else (eqS (.str "put") "put" && sgAll t) || (eqS (.str "put") "move" && pathS t))) = (pathS p && sgAll t)
    rw [eqS_str, eqS_str, eqS_str, decide_eq_true rfl, decide_eq_false (show ¬ ("put" : Str) = "take" by decide), decide_eq_false (show ¬ ("put" : Str) = "move" by decide), if_neg (by decide), Bool.true_and, Bool.false_and, Bool.or_false]
  | move p t =>
    show (pathS p && (if eqS (.str "move") "take" = true then textsD (.str t) else (eqS (.str "move") "put" && sgAll t) || (eqS (.str "move") "move" && pathS t))) = (pathS p && pathS t)
    rw [eqS_str, eqS_str, eqS_str, decide_eq_true rfl, decide_eq_false (show ¬ ("move" : Str) = "take" by decide), decide_eq_false (show ¬ ("move" : Str) = "put" by decide), if_neg (by decide), Bool.true_and, Bool.false_and, Bool.false_or]
  | take p ts =>
    show (pathS p && (if eqS (.str "take") "take" = true then (ts.map PyData.str).all isTextD else _)) = (pathS p && ts.all sgAll)
    rw [eqS_str, decide_eq_true rfl, if_pos rfl, all_texts]
theorem hist_data {hs : List DeedV} (h40 : hs.length ≤ 40) (al : hs.all DeedV.ok = true) : isHistD (.tuple (hs.map DeedV.data)) = true := by
  show (decide ((hs.map DeedV.data).length ≤ 40) && (hs.map DeedV.data).all isDeedD) = true
  rw [List.length_map, decide_eq_true h40, List.all_map, Bool.true_and]
  have : (isDeedD ∘ DeedV.data) = DeedV.ok := funext deed_data
  rw [this]
  exact al
theorem scWordsDeed : FnScope ["deed", "word", "told", "rest", "texts", "text"] ["deed"] (defScope (top iWordsDeed)) := ⟨rfl, rfl, rfl, by decide +kernel, rfl, by decide +kernel, by decide +kernel⟩
def spWordsDeed (K : PySem.W.Frag) : Sp := fun vs H Q _ => ∃ (v : V) (d : DeedV), vs = [v] ∧ Dv K H v d.data ∧ d.data.bulk ≤ 16000 ∧ ∀ H' l, Same H H' → H' l = some (.lst (d.words.map V.str)) → Q (.ref l) H'
theorem scWrite : FnScope ["history", "deed"] ["history"] (defScope (top iWrite)) := ⟨rfl, rfl, rfl, by decide +kernel, rfl, by decide +kernel, by decide +kernel⟩
def spWrite (K : PySem.W.Frag) (CO : Addr) : Sp := fun vs H Q E => ∃ (v : V) (d : PyData), vs = [v] ∧ Dv K H v d ∧ d.bulk ≤ 100000 ∧
  ((isHistD d = false ∧ ∀ H', Same H H' → E (.ref CO) none H') ∨ ∃ hs : List DeedV, d = .tuple (hs.map DeedV.data) ∧ hs.length ≤ 40 ∧ hs.all DeedV.ok = true ∧ (∀ x ∈ hs, x.data.bulk ≤ 16000) ∧ ∀ H', Same H H' → Q (.str (histS hs)) H')
section
variable {P : Program} {w : World} {K : PySem.W.Frag} {mg : Str → Option Value} {base : Heap} {f fT fH fL fW CO : Addr} {fd fdT fdH fdL fdW : FuncData}
theorem ok_wordsDeed {k : Nat} (F : FnP K "words_of_deed" iWordsDeed f fd)
    (FT : FnOk P w K mg base CX0 (k + 1) fT fdT ["text"] spTextWord) (gT : mg "text_word" = some (.ref fT)) (kT : PySem.W.keepIn K (.ref fT) = true) (bT : Binds K fdT ["text"] []) :
    FnOk P w K mg base CX0 (k + 2) f fd ["deed"] (spWordsDeed K) := by
  refine F.ok scWordsDeed (fun vs H Q E h => ?_) (fun cdv A outer s H vs Q E hr h => ?_)
  · obtain ⟨v, d, rfl, _⟩ := h
    rfl
  · obtain ⟨v, d, rfl, hd, sz, q⟩ := h
    have sl : sizeLine = 16777216 := sizeLine_eq
    have shape : (∃ n, d = .use n) ∨ (∃ p ts, d = .take p ts) ∨ (∃ (word told : Str) (zs : List Str), word ≠ "use" ∧ word ≠ "take" ∧ d.words = word :: eqw told :: zs.map eqw ∧ d.data = .tuple (.str word :: .str told :: zs.map PyData.str)) := by
      cases d with
      | use n => exact .inl ⟨n, rfl⟩
      | take p ts => exact .inr (.inl ⟨p, ts, rfl⟩)
      | store p => exact .inr (.inr ⟨"store", p, [], by decide, by decide, rfl, rfl⟩)
      | put p t => exact .inr (.inr ⟨"put", p, [t], by decide, by decide, rfl, rfl⟩)
      | move p t => exact .inr (.inr ⟨"move", p, [t], by decide, by decide, rfl, rfl⟩)
    rcases shape with ⟨n, rfl⟩ | ⟨p, ts, rfl⟩ | ⟨word, told, zs, nu, nt, ew, ed⟩
    · refine ⟨_, PSs.nox (C8.pss_cut (ps_asg (pv 0) (pg_star rfl (pgs_cons (pg_name (i := 1) scWordsDeed.nd rfl (.inl rfl)) (pgs_cons (pg_name (i := 2) scWordsDeed.nd rfl (.inl rfl)) (pgs_cons (pg_name (i := 3) scWordsDeed.nd rfl (.inl rfl)) pgs_nil)))))
      (C8.pss_cut (ps_if (pt_cmpR op_eq (pv 1) pe_str (nomark _)) (pss_one (ps_ret (pe_lst (pa_cons (pv 1) (pa_cons (pv 2) pa_nil))))) pss_nil)
      (C8.pss_cut (ps_set (i := 4) scWordsDeed.nd rfl (.inl rfl) (pe_ifExp (pt_cmpR op_eq (pv 1) pe_str (nomark _)) (pe_ix ix_list (pv 3) pe_int (fun _ _ => rfl)) (pv 3)))
      (pss_one (ps_ret (pe_lst (pa_cons (pv 1) (pa_cons (pe_call FT hr (by rfl) gT kT bT .nil pass0 (pa_cons (pv 2) pa_nil)) (StX.pa_star (pe_lc (own := [("text", 5)]) (g := gName 5) (tt := tYes) rfl scWordsDeed.nd (pi_list (pv 4)) (blkOk_by (N := ["deed", "word", "told", "rest", "texts", "text"]) (sc := defScope (top iWordsDeed)) (by decide +kernel)) (fun _ _ _ _ _ => pg_name (i := 5) scWordsDeed.nd rfl (Or.inl rfl))
              (fun _ _ _ _ _ => pts_nil) (fun _ _ _ _ _ => pe_call FT hr (by rfl) gT kT bT .nil pass0 (pa_cons (pv 5) pa_nil))) pa_nil))))))))), ?_⟩
      cases hd with
      | tup hT hA =>
      cases hA with
      | cons v1 hA =>
      cases hA with
      | cons v2 hA =>
      cases hA
      cases v1
      cases v2
      rename_i a
      refine ⟨fun σ' H' => Same H H' ∧ ∃ D, σ' = [some (.ref a), some (.str "use"), some (.str n), some (.ref D), none, none], ?_, ?_⟩
      · exact ⟨_, rfl, a, _, rfl, .inr hT, Nat.le_refl 2, (by decide : (2 : Nat) ≤ 16384), fun D nD => ⟨_, _, rfl, _, _, rfl, _, _, rfl, rfl, same_upd nD, D, rfl⟩⟩
      rintro σ1 H1 ⟨s1, D, rfl⟩
      refine ⟨fun _ _ => False, ?_, fun _ _ z => z.elim⟩
      exact ⟨_, rfl, rfl, _, rfl, ite2 (fun _ => ⟨_, rfl, _, rfl, by show 2 ≤ sizeLine; omega, fun l nl => q _ l (s1.trans (same_upd nl)) upd_same⟩) fun z => absurd (decide_eq_true rfl) z⟩
    · refine ⟨_, PSs.nox (C8.pss_cut (ps_asg (pv 0) (pg_star rfl (pgs_cons (pg_name (i := 1) scWordsDeed.nd rfl (.inl rfl)) (pgs_cons (pg_name (i := 2) scWordsDeed.nd rfl (.inl rfl)) (pgs_cons (pg_name (i := 3) scWordsDeed.nd rfl (.inl rfl)) pgs_nil)))))
      (C8.pss_cut (ps_if (pt_cmpR op_eq (pv 1) pe_str (nomark _)) (pss_one (ps_ret (pe_lst (pa_cons (pv 1) (pa_cons (pv 2) pa_nil))))) pss_nil)
      (C8.pss_cut (ps_set (i := 4) scWordsDeed.nd rfl (.inl rfl) (pe_ifExp (pt_cmpR op_eq (pv 1) pe_str (nomark _)) (pe_ix ix_list (pv 3) pe_int (fun _ _ => rfl)) (pv 3)))
      (pss_one (ps_ret (pe_lst (pa_cons (pv 1) (pa_cons (pe_call FT hr (by rfl) gT kT bT .nil pass0 (pa_cons (pv 2) pa_nil)) (StX.pa_star (pe_lc (own := [("text", 5)]) (g := gName 5) (tt := tYes) rfl scWordsDeed.nd (pi_tup (pv 4)) (blkOk_by (N := ["deed", "word", "told", "rest", "texts", "text"]) (sc := defScope (top iWordsDeed)) (by decide +kernel)) (fun _ _ _ _ _ => pg_name (i := 5) scWordsDeed.nd rfl (Or.inl rfl))
              (fun _ _ _ _ _ => pts_nil) (fun _ _ _ _ _ => pe_call FT hr (by rfl) gT kT bT .nil pass0 (pa_cons (pv 5) pa_nil))) pa_nil))))))))), ?_⟩
      cases hd with
      | tup hT hA =>
      cases hA with
      | cons v1 hA =>
      cases hA with
      | cons v2 hA =>
      cases hA with
      | cons v3 hA =>
      cases hA
      cases v1
      cases v2
      cases v3 with
      | tup uT uA =>
      rename_i a b us
      have sz2 : (PyData.str p).bulk ≤ 100000 ∧ (PyData.tuple (ts.map PyData.str)).bulk ≤ 100000 := by
        have : (PyData.str "take").bulk + 1 + ((PyData.str p).bulk + 1 + ((PyData.tuple (ts.map PyData.str)).bulk + 1 + 0)) ≤ 16000 := sz
        omega
      have pl : p.length ≤ 100000 := sz2.1
      have tsb := sz2.2
      rw [show (PyData.tuple (ts.map PyData.str)).bulk = sumLen ts + ts.length from bulk_strs ts] at tsb
      have zl : ∀ z ∈ ts, z.length ≤ 100000 := fun z hz => Nat.le_trans (len_mem hz) (by omega)
      have eu : us = ts.map V.str := dv_strs_eq uA
      subst eu
      refine ⟨fun σ' H' => Same H H' ∧ ∃ D, σ' = [some (.ref a), some (.str "take"), some (.str p), some (.ref D), none, none] ∧ H' D = some (.lst [.ref b]), ?_, ?_⟩
      · exact ⟨_, rfl, a, _, rfl, .inr hT, (by decide : (2 : Nat) ≤ 3), (by decide : (3 : Nat) ≤ 16384), fun D nD => ⟨_, _, rfl, _, _, rfl, _, _, rfl, rfl, same_upd nD, D, rfl, upd_same⟩⟩
      rintro σ1 H1 ⟨s1, D, rfl, eD⟩
      refine ⟨fun σ' H' => H' = H1 ∧ σ' = [some (.ref a), some (.str "take"), some (.str p), some (.ref D), none, none], ?_, ?_⟩
      · exact ⟨_, rfl, rfl, _, rfl, ite2 (fun z => by cases z) fun _ => ⟨rfl, rfl⟩⟩
      rintro σ2 H2 ⟨rfl, rfl⟩
      refine ⟨fun σ' H' => H' = H2 ∧ σ' = [some (.ref a), some (.str "take"), some (.str p), some (.ref D), some (.ref b), none], ?_, ?_⟩
      · exact ⟨_, rfl, rfl, _, rfl, ite2 (fun _ => ⟨_, rfl, D, _, 0, .ref b, rfl, rfl, .of eD, rfl, rfl, rfl⟩) fun z => absurd rfl z⟩
      rintro σ3 H3 ⟨rfl, rfl⟩
      have sH := s1
      refine ⟨_, rfl, _, rfl, p, rfl, pl, ?_⟩
      refine ⟨_, rfl, b, rfl, ⟨_, same_tup sH uT⟩, fun L nL => lc_map (walk_tup (xs := ts.map V.str)) (xs := ts.map V.str) (fun i => ((ts.map eqw).map V.str)[i]?) (fun i _ _ _ hi hy => hy) nL (fun H' s => same_tup s (same_tup sH uT)) (by rw [List.length_map]; omega) (fun i y H' R hi hy s hR => ?_) (fun H' s eL => ?_)⟩
      · rw [List.getElem?_map] at hy
        obtain ⟨z, hz, rfl⟩ := Option.map_eq_some_iff.mp hy
        exact ⟨rfl, _, rfl, z, rfl, zl z (List.mem_of_getElem? hz), hR _ _ (by rw [List.getElem?_map, List.getElem?_map, hz]; rfl) (Same.refl _)⟩
      · have eF : (List.range (ts.map V.str).length).filterMap (fun i => ((ts.map eqw).map V.str)[i]?) = (ts.map eqw).map V.str := by
          rw [show (ts.map V.str).length = ((ts.map eqw).map V.str).length by rw [List.length_map, List.length_map, List.length_map]]
          exact fm_get _
        rw [eF] at eL
        refine ⟨L, _, rfl, .inr (.of eL), ?_⟩
        dsimp only [tNil]
        rw [List.append_nil]
        refine ⟨by show (V.str "take" :: V.str (eqw p) :: (ts.map eqw).map V.str).length ≤ sizeLine; rw [List.length_cons, List.length_cons, List.length_map, List.length_map]; omega, fun l nl => q _ l ((s1.trans s).trans (same_upd nl)) ?_⟩
        rw [upd_same]
        rfl
    · refine ⟨_, PSs.nox (C8.pss_cut (ps_asg (pv 0) (pg_star rfl (pgs_cons (pg_name (i := 1) scWordsDeed.nd rfl (.inl rfl)) (pgs_cons (pg_name (i := 2) scWordsDeed.nd rfl (.inl rfl)) (pgs_cons (pg_name (i := 3) scWordsDeed.nd rfl (.inl rfl)) pgs_nil)))))
      (C8.pss_cut (ps_if (pt_cmpR op_eq (pv 1) pe_str (nomark _)) (pss_one (ps_ret (pe_lst (pa_cons (pv 1) (pa_cons (pv 2) pa_nil))))) pss_nil)
      (C8.pss_cut (ps_set (i := 4) scWordsDeed.nd rfl (.inl rfl) (pe_ifExp (pt_cmpR op_eq (pv 1) pe_str (nomark _)) (pe_ix ix_list (pv 3) pe_int (fun _ _ => rfl)) (pv 3)))
      (pss_one (ps_ret (pe_lst (pa_cons (pv 1) (pa_cons (pe_call FT hr (by rfl) gT kT bT .nil pass0 (pa_cons (pv 2) pa_nil)) (StX.pa_star (pe_lc (own := [("text", 5)]) (g := gName 5) (tt := tYes) rfl scWordsDeed.nd (pi_list (pv 4)) (blkOk_by (N := ["deed", "word", "told", "rest", "texts", "text"]) (sc := defScope (top iWordsDeed)) (by decide +kernel)) (fun _ _ _ _ _ => pg_name (i := 5) scWordsDeed.nd rfl (Or.inl rfl))
              (fun _ _ _ _ _ => pts_nil) (fun _ _ _ _ _ => pe_call FT hr (by rfl) gT kT bT .nil pass0 (pa_cons (pv 5) pa_nil))) pa_nil))))))))), ?_⟩
      rw [ed] at hd
      cases hd with
      | tup hT hA =>
      cases hA with
      | cons v1 hA =>
      cases hA with
      | cons v2 hA =>
      cases v1
      cases v2
      rename_i a us
      have eu : us = zs.map V.str := dv_strs_eq hA
      subst eu
      rw [ed] at sz
      have sz2 : told.length ≤ 100000 ∧ sumLen zs + zs.length ≤ 16000 := by
        have : (PyData.str word).bulk + 1 + ((PyData.str told).bulk + 1 + PyData.bulkAll (zs.map PyData.str)) ≤ 16000 := sz
        rw [bulk_strs] at this
        have e : (PyData.str told).bulk = told.length := rfl
        omega
      have pl : told.length ≤ 100000 := sz2.1
      have tsb := sz2.2
      have zl : ∀ z ∈ zs, z.length ≤ 100000 := fun z hz => Nat.le_trans (len_mem hz) (by omega)
      refine ⟨fun σ' H' => Same H H' ∧ ∃ D, σ' = [some (.ref a), some (.str word), some (.str told), some (.ref D), none, none] ∧ H' D = some (.lst (zs.map V.str)), ?_, ?_⟩
      · exact ⟨_, rfl, a, _, rfl, .inr hT, by show 2 ≤ (V.str word :: V.str told :: zs.map V.str).length; rw [List.length_cons, List.length_cons]; omega, by show (V.str word :: V.str told :: zs.map V.str).length ≤ 16384; rw [List.length_cons, List.length_cons, List.length_map]; omega, fun D nD => ⟨_, _, rfl, _, _, rfl, _, _, rfl, rfl, same_upd nD, D, rfl, upd_same⟩⟩
      rintro σ1 H1 ⟨s1, D, rfl, eD⟩
      have ne : ∀ {z : Str}, word ≠ z → decide (V.str word = V.str z) = false := fun h => decide_eq_false fun e => h (by injection e)
      refine ⟨fun σ' H' => H' = H1 ∧ σ' = [some (.ref a), some (.str word), some (.str told), some (.ref D), none, none], ?_, ?_⟩
      · refine ⟨_, rfl, rfl, _, rfl, ite2 (fun z => ?_) fun _ => ⟨rfl, rfl⟩⟩
        rw [ne nu] at z
        cases z
      rintro σ2 H2 ⟨rfl, rfl⟩
      refine ⟨fun σ' H' => H' = H2 ∧ σ' = [some (.ref a), some (.str word), some (.str told), some (.ref D), some (.ref D), none], ?_, ?_⟩
      · refine ⟨_, rfl, rfl, _, rfl, ite2 (fun z => ?_) fun _ => ⟨_, rfl, rfl, rfl⟩⟩
        rw [ne nt] at z
        cases z
      rintro σ3 H3 ⟨rfl, rfl⟩
      refine ⟨_, rfl, _, rfl, told, rfl, pl, ?_⟩
      refine ⟨_, rfl, D, rfl, ⟨_, .of eD⟩, fun L nL => lc_map (walk_list (xs := zs.map V.str)) (xs := zs.map V.str) (fun i => ((zs.map eqw).map V.str)[i]?) (fun i _ _ _ hi hy => hy) nL (fun H' s => .of (s _ _ eD)) (by rw [List.length_map]; omega) (fun i y H' R hi hy s hR => ?_) (fun H' s eL => ?_)⟩
      · rw [List.getElem?_map] at hy
        obtain ⟨z, hz, rfl⟩ := Option.map_eq_some_iff.mp hy
        exact ⟨rfl, _, rfl, z, rfl, zl z (List.mem_of_getElem? hz), hR _ _ (by rw [List.getElem?_map, List.getElem?_map, hz]; rfl) (Same.refl _)⟩
      · have eF : (List.range (zs.map V.str).length).filterMap (fun i => ((zs.map eqw).map V.str)[i]?) = (zs.map eqw).map V.str := by
          rw [show (zs.map V.str).length = ((zs.map eqw).map V.str).length by rw [List.length_map, List.length_map, List.length_map]]
          exact fm_get _
        rw [eF] at eL
        refine ⟨L, _, rfl, .inr (.of eL), ?_⟩
        dsimp only [tNil]
        rw [List.append_nil]
        refine ⟨by show (V.str word :: V.str (eqw told) :: (zs.map eqw).map V.str).length ≤ sizeLine; rw [List.length_cons, List.length_cons, List.length_map, List.length_map]; omega, fun l nl => q _ l ((s1.trans s).trans (same_upd nl)) ?_⟩
        rw [upd_same]
        rw [ew]
        rfl
theorem ok_write {k : Nat} (F : FnP K "write_history" iWrite f fd) (T : TxtK K CO) (gE : mg "InvalidOperation" = some (.ref CO))
    (FH : FnOk P w K mg base CX0 (k + 4) fH fdH ["value"] (spHist K)) (gH : mg "is_history" = some (.ref fH)) (kH : PySem.W.keepIn K (.ref fH) = true) (bH : Binds K fdH ["value"] [])
    (FL : FnOk P w K mg base CX0 (k + 4) fL fdL ["words"] (spLineOf K)) (gL : mg "line_of" = some (.ref fL)) (kL : PySem.W.keepIn K (.ref fL) = true) (bL : Binds K fdL ["words"] [])
    (FW : FnOk P w K mg base CX0 (k + 4) fW fdW ["deed"] (spWordsDeed K)) (gW : mg "words_of_deed" = some (.ref fW)) (kW : PySem.W.keepIn K (.ref fW) = true) (bW : Binds K fdW ["deed"] []) :
    FnOk P w K mg base (L2.CX P w) (k + 5) f fd ["history"] (spWrite K CO) := by
  refine F.ok scWrite (fun vs H Q E h => ?_) (fun cdv A outer s H vs Q E hr h => ?_)
  · obtain ⟨v, d, rfl, _⟩ := h
    rfl
  · obtain ⟨v, d, rfl, hd, sz, h⟩ := h
    have sl : sizeLine = 16777216 := sizeLine_eq
    refine ⟨_, pss_cons (ps_if (pt_not (pt_val (pe_call FH hr (by rfl) gH kH bH .nil pass0 (pa_cons (pv 0) pa_nil)))) (pss_one (ps_raise rfl (takes_of rfl rfl rfl rfl) (pmk_ownA PySem.F.excBase_ValueError T.exc gE T.kp (raises_own T.sub T.ty) (by rfl) (pa_cons pe_str pa_nil)))) pss_nil)
      (pss_one (ps_ret (pe_join pe_str (pe_lc (own := [("deed", 1)]) (g := gName 1) (tt := tYes) rfl scWrite.nd (pi_tup (pv 0)) (blkOk_by (N := ["history", "deed"]) (sc := defScope (top iWrite)) (by decide +kernel)) (fun _ _ _ _ _ => pg_name (i := 1) scWrite.nd rfl (Or.inl rfl))
              (fun _ _ _ _ _ => pts_nil) (fun _ _ _ _ _ => pe_call FL hr (by rfl) gL kL bL .nil pass0 (pa_cons (pe_call FW hr (by rfl) gW kW bW .nil pass0 (pa_cons (pv 1) pa_nil)) pa_nil)))))), ?_⟩
    refine ⟨_, rfl, v, d, rfl, hd, sz, fun H1 s1 => ⟨_, rfl, ?_⟩⟩
    rcases h with ⟨hn, bad⟩ | ⟨hs, rfl, h40, al, small, good⟩
    · rw [hn]
      exact ite2 (fun _ => ⟨by show 1 ≤ sizeLine; omega, bad H1 s1⟩) (fun z => absurd rfl z)
    · rw [hist_data h40 al]
      refine ite2 (fun z => by cases z) (fun _ => ?_)
      have hd1 := hd.same s1
      cases hd1 with
      | tup hT hA =>
      rename_i a xs
      have xl := hA.length
      rw [List.length_map] at xl
      refine ⟨⟨_, rfl⟩, _, rfl, a, rfl, ⟨_, hT⟩, fun L nL => lc_map (walk_tup (xs := xs)) (xs := xs) (fun i => ((hs.map lineD).map V.str)[i]?) (fun i _ _ _ hi hy => hy) nL (fun H' s => same_tup s hT) (by omega) (fun i y H' R hi hy s hR => ?_) (fun H' s eL => ?_)⟩
      · obtain ⟨d1, h1, u1⟩ := hA.get hy
        rw [List.getElem?_map] at h1
        obtain ⟨dd, hdd, rfl⟩ := Option.map_eq_some_iff.mp h1
        have sm := small dd (List.mem_of_getElem? hdd)
        have ws := words_sum dd
        refine ⟨rfl, _, rfl, y, dd, rfl, u1.same s, sm, fun H3 l s3 el => ⟨l, dd.words, rfl, .of el, by omega, hR _ _ ?_ s3⟩⟩
        rw [List.getElem?_map, List.getElem?_map, hdd]
        rfl
      · have eF : (List.range xs.length).filterMap (fun i => ((hs.map lineD).map V.str)[i]?) = (hs.map lineD).map V.str := by
          rw [show xs.length = ((hs.map lineD).map V.str).length by rw [List.length_map, List.length_map, xl]]
          exact fm_get _
        rw [eF] at eL
        refine ⟨"\n", L, hs.map lineD, rfl, rfl, .inl (.of eL), ?_, good H' (s1.trans s)⟩
        have lb : ∀ y ∈ hs.map lineD, y.length ≤ 32000 := fun y hy => by
          obtain ⟨x, hx, rfl⟩ := List.mem_map.mp hy
          have := line_len x
          have := small x hx
          omega
        have := sum_le lb
        rw [List.length_map] at this
        show (((hs.map lineD).map (·.length)).sum + (hs.map lineD).length * 1 : Nat) ≤ 16777216
        rw [List.length_map]
        have h2 : hs.length * 32000 ≤ 40 * 32000 := Nat.mul_le_mul_right _ h40
        omega
end
end K0
end
/-! ### E0 -/
section
set_option Elab.async false
set_option linter.all false
set_option maxRecDepth 100000
set_option maxHeartbeats 4000000
/-! except (A, B, ..): how a tuple of any length is matched. -/
namespace K0
open PySem PySem.Spec PyProof.Rows PySem.W
section
variable {M : Model} {A : Around} {E : Value → Shared → Prop} {s : Shared}
theorem loopY {β : Type} {f : Value → β → Sem (ForInStep β)} {b : β} {Q : β → Shared → Prop} : ∀ (cs : List Value), (∀ c ∈ cs, ∀ Q' : ForInStep β → Shared → Prop, Q' (.yield b) s → wpAny M A (f c b) Q' E s) → Q b s → wpAny M A (forIn cs b f) Q E s
  | [], _, q => by
    rw [List.forIn_nil]
    exact wpAny_pure q
  | c :: cs, h, q => by
    rw [List.forIn_cons]
    exact wpAny_bind (h c List.mem_cons_self _ (loopY cs (fun d hd => h d (List.mem_cons_of_mem _ hd)) q))
theorem loopR {β : Type} {f : Value → β → Sem (ForInStep β)} {b dv : β} {Q : β → Shared → Prop} : ∀ (cs : List Value) (bs : List Bool), Paired (fun c i => ∀ Q' : ForInStep β → Shared → Prop, Q' (if i = true then .done dv else .yield b) s → wpAny M A (f c b) Q' E s) cs bs →
    Q (if bs.any id = true then dv else b) s → wpAny M A (forIn cs b f) Q E s
  | [], _, h, q => by
    cases h
    rw [List.forIn_nil]
    exact wpAny_pure q
  | c :: cs, i :: bs, .cons h t, q => by
    rw [List.forIn_cons]
    refine wpAny_bind (h _ ?_)
    cases i with
    | true =>
      rw [if_pos rfl]
      exact wpAny_pure (by simpa using q)
    | false =>
      rw [if_neg Bool.false_ne_true]
      exact loopR cs bs t (by simpa using q)
end
def anyB : List (Option Bool) → Option Bool
  | [] => some false
  | some b :: r => (anyB r).map (b || ·)
  | none :: _ => none
theorem exmAny_bs {K : Frag} {cls : Value} : ∀ {cs : List Value} {b : Bool}, exmAny K cls cs = some b → ∃ bs : List Bool, Paired (fun c i => exmOne K cls c = some i) cs bs ∧ bs.any id = b
  | [], b, h => ⟨[], .nil, by cases h; rfl⟩
  | c :: cs, b, h => by
    obtain ⟨b1, d1, h1, h2, rfl⟩ := exmAny_cons h
    obtain ⟨bs, p, q⟩ := exmAny_bs h2
    exact ⟨b1 :: bs, .cons h1 p, by rw [List.any_cons, q]; rfl⟩
theorem paired_mem {α β : Type} {F : α → β → Prop} : ∀ {l : List α} {m : List β}, Paired F l m → ∀ x ∈ l, ∃ y, F x y
  | _, _, .nil, _, h => nomatch h
  | _, _, .cons r t, x, h => by
    rcases List.mem_cons.mp h with rfl | h
    · exact ⟨_, r⟩
    · exact paired_mem t x h
theorem paired_map {α β : Type} {F G : α → β → Prop} : ∀ {l : List α} {m : List β}, Paired F l m → (∀ a b, F a b → G a b) → Paired G l m
  | _, _, .nil, _ => .nil
  | _, _, .cons r t, f => .cons (f _ _ r) (paired_map t f)
theorem exm_any {M : Model} {K : Frag} {cs : List Value} {cls : Value} {tp e : Addr} {b : Bool} {h : Heap} (X : K.In h) (LT : Looks M h (typeOf (.ref e)) cls) (hp : h.get? tp = some { cls := .type "tuple", data := .seq cs.toArray }) (hx : exmAny K cls cs = some b) :
    Looks M h (excMatches (.ref e) (.ref tp)) b := by
  intro A Q E s k₀ q
  obtain ⟨hh, g, d, tk, os⟩ := s
  have k : ∀ b o, h.get? b = some o → hh.get? b = some o := k₀
  have LT0 : Looks M h (isInstance (.ref tp) (.type "tuple")) true := ((Looks.ld hp).andThen .now).andThen (Looks.of_pure isSubtype_tuple_tuple)
  obtain ⟨bs, pr, eb⟩ := exmAny_bs hx
  have hp' := k _ _ hp
  unfold excMatches
  refine wpAny_bind ((LT0.keeps k).at ?_)
  dsimp only
  rw [if_pos rfl]
  first
    | refine wpAny_bind (wpAny_seqItems hp' rfl ?_)
    | refine wpAny_bind (wpAny_bind (wpAny_seqItems hp' rfl (wpAny_pure ?_)))
  dsimp only [Option.getD_some, Option.getD]
  refine wpAny_bind (wpAny_pure ?_)
  refine wpAny_bind (loopY _ (fun c hc Q' q' => ?_) ?_)
  · obtain ⟨i, hi⟩ := paired_mem pr c hc
    obtain ⟨e1, _⟩ := exm_cls (M := M) X hi
    refine wpAny_bind ((e1.keeps k).at ?_)
    simp only [Bool.not_true, Bool.false_eq_true, if_false]
    exact wpAny_pure q'
  · refine wpAny_bind ((LT.keeps k).at ?_)
    refine wpAny_bind (loopR (dv := (some true, ())) cs bs (paired_map pr fun c i hi Q' q' => ?_) ?_)
    · obtain ⟨_, e2⟩ := exm_cls (M := M) X hi
      refine wpAny_bind ((e2.keeps k).at ?_)
      cases i with
      | true => simp only [if_true] at q' ⊢; exact wpAny_pure q'
      | false => simp only [Bool.false_eq_true, if_false] at q' ⊢; exact wpAny_pure q'
    · rw [eb]
      cases b with
      | true => simp only [if_true]; exact wpAny_pure q
      | false => simp only [Bool.false_eq_true, if_false]; exact wpAny_pure q
end K0
end
/-! ### E1 -/
section
set_option Elab.async false
set_option linter.all false
set_option maxRecDepth 100000
set_option maxHeartbeats 4000000
/-! try with several clauses; a clause names a class or a tuple of classes, and may name the exception. -/
namespace K0
open PySem PySem.Spec PyProof.Rows L2
theorem flying_push {B h : Heap} {l : List Env} {a : Addr} {Z : Obj → Prop} {o : Obj} (x : HandSPX.FlyingZ B l a Z h) : HandSPX.FlyingZ B l a Z (h.push o) := by
  have k : ∀ b u, h.get? b = some u → (h.push o).get? b = some u := fun b u e => Heap.get?_push_of_some _ e
  obtain ⟨x1, x2, x3, oe, vs, T, oT, ts, y1, y2, y3, y4, y5, y6, y7, y8, y9⟩ := x
  exact ⟨fun b u e => k b u (x1 b u e), x2, Heap.FunFrames.of_keeps (fun b u e _ => ⟨u, k b u e, rfl⟩) x3, oe, vs, T, oT, ts, k _ _ y1, y2, y3, y4, y5, y6, k _ _ y7, y8, y9⟩
inductive NamesAll (X : Cx) : List Expr → List Value → Prop
  | nil : NamesAll X [] []
  | cons {x : Str} {np : Pos} {c : Value} {es : List Expr} {cs : List Value} : Names X x c → NamesAll X es cs → NamesAll X (.Name x np :: es) (c :: cs)
/-- the test of a clause -/
inductive Cls (X : Cx) : Expr → List Value → Prop
  | one {x : Str} {np : Pos} {c : Value} : Names X x c → Cls X (.Name x np) [c]
  | tup {es : List Expr} {cs : List Value} {k : Nat} {pos : Pos} : NamesAll X es cs → cs.length ≤ 1000 → Cls X (.Tuple es k pos) cs
structure HC where
  cs : List Value
  slot : Option Nat
  ts : Addr → Value → Option Addr → TS
def endsW (D : Ends) : Option Nat → Ends
  | none => D
  | some i => { nx := fun σ' H' => D.nx (σ'.set i none) H', rt := D.rt, bk := fun σ' H' => D.bk (σ'.set i none) H', ct := fun σ' H' => D.ct (σ'.set i none) H' }
def slotW (σ : L2.St) (a : Addr) : Option Nat → L2.St
  | none => σ
  | some i => σ.set i (some (.ref a))
def wAny (K : PySem.W.Frag) (Wout : WX) (D : Ends) : List HC → WX
  | [] => Wout
  | c :: r => fun cls d σ H => ∃ b, PySem.W.exmAny K cls c.cs = some b ∧ (b = true → ∀ a, H a = none → c.ts a cls d (endsW D c.slot) (slotW σ a c.slot) H) ∧ (b = false → wAny K Wout D r cls d σ H)
inductive Hds (X : Cx) : List ExceptHandler → List HC → Prop
  | nil : Hds X [] []
  | cons {t : Expr} {cs : List Value} {nm : Option Str} {sl : Option Nat} {ts : Addr → Value → Option Addr → TS} {b₀ : Stmt} {suite : List Stmt} {pos' : Pos} {hds : List ExceptHandler} {l : List HC} (ht : Cls X t cs)
      (hn : (nm = none ∧ sl = none) ∨ ∃ n i, nm = some n ∧ sl = some i ∧ X.N[i]? = some n ∧ X.env.kindOf n = some .local)
      (hs : ∀ (a : Addr) (oe : Obj) (cls : Value) (d : Option Addr) (pn : List (Addr × Obj)), Zc cls d oe → (∃ vs, oe.data = .fields vs) → PSs (X.suite a ((a, oe) :: pn)) (b₀ :: suite) (ts a cls d)) (r : Hds X hds l) :
      Hds X (.ExceptHandler (some t) nm (b₀ :: suite) pos' :: hds) (⟨cs, sl, ts⟩ :: l)
section
variable {X : Cx}
theorem names_run {pins : List (Addr × Obj)} {σ : L2.St} {H : Hp} {s : Shared} (I : Inv X pins σ H s) {pos : Pos} {E : Value → Shared → Prop} : ∀ {es : List Expr} {cs : List Value} {Q : List Value → Shared → Prop}, NamesAll X es cs → Q cs s → wpAny (model X.prog X.w) X.A (spliced (backTo pos (starEach es X.env))) Q E s
  | _, _, _, .nil, q => Calls.spliced_nil q
  | _, _, _, .cons (x := x) (np := np) (es := es) nm r, q => by
    show wpAny _ _ (spliced ((false, eval (.Name x np) X.env) :: backTo pos (starEach es X.env))) _ _ s
    refine Calls.spliced_cons ?_
    obtain ⟨g, db, z | ⟨z, bv, nn⟩⟩ := nm
    · exact ld_glob I g z (names_run I r q) db
    · exact ld_blt I g z bv (names_run I r q) nn db
/-- a clause's test: it leaves the heap but for a tuple -/
theorem cls_run {pins : List (Addr × Obj)} {σ : L2.St} {H : Hp} {s : Shared} (I : Inv X pins σ H s) {cls : Value} {e : Addr} {cs : List Value} {t : Expr} {b : Bool} {Q : Bool → Shared → Prop} {E1 E2 : Value → Shared → Prop} (LT : PySem.W.Looks (model X.prog X.w) s.heap (typeOf (.ref e)) cls)
    (c : Cls X t cs) (hb : PySem.W.exmAny X.K cls cs = some b) (q1 : Q b s) (q2 : ∀ o, Q b { s with heap := s.heap.push o }) : wpAny (model X.prog X.w) X.A (eval t X.env) (fun v s₁ => wpAny (model X.prog X.w) X.A (excMatches (.ref e) v) Q E2 s₁) E1 s := by
  cases c with
  | one nm =>
    obtain ⟨b1, d1, h1, h2, rfl⟩ := PySem.W.exmAny_cons hb
    have h3 : some false = some d1 := h2
    cases h3
    have L := PySem.W.exm_one (M := model X.prog X.w) I.kIn LT h1
    rw [Bool.or_false] at q1
    obtain ⟨g, db, z | ⟨z, bv, nn⟩⟩ := nm
    · exact ld_glob I g z (L.here q1) db
    · exact ld_blt I g z bv (L.here q1) nn db
  | tup nms hl =>
    refine wpAny_Tuple_spliced (names_run I nms ⟨Nat.le_of_lt (small1000 hl), ?_⟩)
    obtain ⟨hp, g, d, tk, os⟩ := s
    have k : ∀ b u, hp.get? b = some u → (hp.push { cls := .type "tuple", data := .seq cs.toArray }).get? b = some u := fun b u z => Heap.get?_push_of_some _ z
    have L := exm_any (M := model X.prog X.w) (I.kIn.keeps k) (LT.keeps k) (Heap.get?_push_size hp rfl) hb
    exact L.here (q2 _)
variable {body : List Stmt} {h₀ : ExceptHandler} {hds : List ExceptHandler} {l : List HC} {pos : Pos} {tb : WX → TS} {Wout : WX}
theorem ps_tryA (hs : X.stack = X.env :: X.outer) (hf : X.env.frame = some X.env.locals) (hN : X.N.Nodup) (tk : Takes X Wout)
    (hb : ∀ (W : WX) (pn : List (Addr × Obj)) (xe : Value → Shared → Prop), Takes (X.tr pn xe) W → PassesOwn (model X.prog X.w) X.A X.env xe → PSs (X.tr pn xe) body (tb W)) (hh : Hds X (h₀ :: hds) l) : PS X (.Try body (h₀ :: hds) [] [] pos) (fun D σ H => tb (wAny X.K Wout D l) D σ H) := by
  refine ⟨fun pins s σ H D I h => wpAny_Try_except ?_⟩
  have ok := I.ok
  have frames : X.A.frames = some (X.env :: X.outer) := by rw [ok.frames, hs]
  refine wpAny_mono ((hb (wAny X.K Wout D l) (X.pn ++ pins) _ (fun u s' air => ?_) PassesOwn.looking).run [] s σ H D (I.toTry _) h) (fun f s1 z => ?_) (fun e s1 z => z)
  · obtain ⟨a, B, sI, pins', σ', H', cls, d, rfl, J', gr, up, sky, na, os, ag, w⟩ := air
    have J : Inv X pins σ' H' sI := J'.ofTry ok
    have sky2 : Sky B (X.env :: X.outer) a (Zc cls d) X.env.locals s'.heap := by rw [← hs]; exact sky
    show wpAny _ _ (noteFrame (.ref a) X.env) _ _ _
    refine Sky.land Zc.steady frames hf sky2 fun h3 fl3 up3 => ?_
    have suiteAt : ∀ {h : Heap} {tk' : Nat}, HandSPX.FlyingZ B (X.env :: X.outer) a (Zc cls d) h → sI.heap.UpToSlots h → ∃ oe, (∃ vs, oe.data = .fields vs) ∧ Zc cls d oe ∧ h.get? a = some oe ∧ Inv (X.suite a ((a, oe) :: (X.pn ++ pins))) [] σ' H' { s' with heap := h } := by
      intro h tk' fl upS
      obtain ⟨oe, vs, e1, e2, e3⟩ := fl.there
      have nfr : a ∉ frs (X.env :: X.outer) := fun m => by
        obtain ⟨_, o, e4, nf⟩ := fl.2.2.1.mem m
        rw [e1] at e4
        cases e4
        exact nf vs e3
      have nL : a ≠ X.env.locals := fun z => nfr (List.mem_filterMap.mpr ⟨X.env, List.mem_cons_self, by rw [hf, z]⟩)
      have nF : a ∉ X.fs := fun m => (List.mem_filterMap.mp m).elim fun e z => nfr (List.mem_filterMap.mpr ⟨e, List.mem_cons_of_mem _ z.1, z.2⟩)
      exact ⟨oe, ⟨vs, e3⟩, e2, e1, (J.landed (s' := { s' with heap := h }) gr fl.1 upS os ag).suite e1 e3 na nL nF⟩
    have go : ∀ {hs2 : List ExceptHandler} {l2 : List HC}, Hds X hs2 l2 → wAny X.K Wout D l2 cls d σ' H' → ∀ h, HandSPX.FlyingZ B (X.env :: X.outer) a (Zc cls d) h → sI.heap.UpToSlots h → wpAny (model X.prog X.w) X.A (handleBy (.ref a) X.env hs2) (SP X pins D) X.xe { s' with heap := h } := by
      intro hs2 l2 hk
      induction hk with
      | nil =>
        intro w h fl upS
        refine wpAny_handleBy_nil ?_
        obtain ⟨k1, k2, k3, oe, vs, T, oT, ts', he, hz, hd, h1, hr⟩ := id fl
        unfold PySem.passOn
        refine wpAny_bind (wpAny_field he hd h1 ?_)
        rw [if_neg (show ¬ ((Value.ref T == Value.none) = true) by simp)]
        have out : wpAny (model X.prog X.w) X.A (setFlight (.ref a) X.env.frame) (fun _ s4 => wpAny (model X.prog X.w) X.A (throw (.ref a) : Sem Flow) (SP X pins D) X.xe s4) X.xe { s' with heap := h } := by
          rw [hf]
          exact HandSPX.setFlight_upZ fl fun h4 hh4 up4 => wpAny_throw (tk _ _ ⟨a, B, sI, pins, σ', H', cls, d, rfl, J, gr, upS.trans up4, .inr (.inr (by rw [hs]; exact hh4)), na, os, ag, w⟩)
        first
          | exact wpAny_bind (wpAny_pure (wpAny_bind out))
          | exact wpAny_bind out
      | @cons t cs nm sl ts b₀ suite pos' hds2 l3 ht hn hsu r ih =>
        intro w h fl upS
        obtain ⟨b, hb1, yes, no⟩ := w
        obtain ⟨oe, hfl, hz, he, S⟩ := suiteAt (tk' := 0) fl upS
        have LT : PySem.W.Looks (model X.prog X.w) h (typeOf (.ref a)) cls := fun A Q E s k q => wpAny_typeOf_ref (k _ _ he) (by rw [hz.1]; exact q)
        have htS : Cls (X.suite a ((a, oe) :: (X.pn ++ pins))) t cs := by
          have nmS : ∀ {es : List Expr} {cs : List Value}, NamesAll X es cs → NamesAll (X.suite a ((a, oe) :: (X.pn ++ pins))) es cs := by
            intro es cs z
            induction z with
            | nil => exact .nil
            | cons n r ih => exact .cons n ih
          cases ht with
          | one n => exact .one n
          | tup n z => exact .tup (nmS n) z
        refine wpAny_handleBy_cons (codeAny_handlers_test ?_) (by intro q; cases q)
        have next : ∀ h2, HandSPX.FlyingZ B (X.env :: X.outer) a (Zc cls d) h2 → sI.heap.UpToSlots h2 →
            (match (Except.ok (if b then Flow.brk else Flow.next) : Result) with
              | .ok .brk => codeAny (model X.prog X.w) (X.A.mark (some (.ref a))) (.handlers (.ref a) [.ExceptHandler none nm (b₀ :: suite) pos'] X.env) (fun r s₂ => match (generalizing := false) r with
                  | .ok f => (match (generalizing := false) nm with
                    | none => SP X pins D f s₂
                    | some n => wpAny (model X.prog X.w) X.A (do bindName X.env n .none; unbindBehindTheSuite X.env n pos') (fun _ s₃ => SP X pins D f s₃) X.xe s₂)
                  | .error x => cameBackBy (model X.prog X.w) X.A X.env X.xe x s₂) { s' with heap := h2 }
              | .ok _ => wpAny (model X.prog X.w) X.A (handleBy (.ref a) X.env hds2) (SP X pins D) X.xe { s' with heap := h2 }
              | .error x => cameBackBy (model X.prog X.w) X.A X.env X.xe x { s' with heap := h2 }) := by
          intro h2 fl2 up2
          cases b with
          | false => exact ih (no rfl) h2 fl2 up2
          | true =>
            rcases hn with ⟨rfl, rfl⟩ | ⟨n, i, rfl, rfl, hi, hl⟩
            · refine codeAny_handlers_suite (HandSPX.lands_againZ fl2 fun h4 fl4 up4 => ?_)
              obtain ⟨oe4, f4, z4, e4, S4⟩ := suiteAt (tk' := 0) fl4 (up2.trans up4)
              refine wpAny_mono ((hsu a oe4 cls d (X.pn ++ pins) z4 f4).run [] _ _ H' _ S4 (yes rfl a na)) (fun f s6 z => ?_) (fun _ _ z => z.elim)
              cases f with
              | next => exact z.elim fun σ6 z => z.elim fun H6 z => ⟨σ6, H6, z.1.unsuite ok, z.2⟩
              | brk => exact z.elim fun σ6 z => z.elim fun H6 z => ⟨σ6, H6, z.1.unsuite ok, z.2⟩
              | cont => exact z.elim fun σ6 z => z.elim fun H6 z => ⟨σ6, H6, z.1.unsuite ok, z.2⟩
              | ret u => obtain ⟨v6, σ6, H6, S6, r6, q6⟩ := z; exact ⟨v6, σ6, H6, S6.unsuite ok, r6, q6⟩
            · refine codeAny_handlers_suite_as (HandSPX.lands_againZ fl2 fun h4 fl4 up4 => ?_)
              obtain ⟨oe4, f4, z4, e4, S4⟩ := suiteAt (tk' := 0) fl4 (up2.trans up4)
              refine store_ok (X := X.suite a ((a, oe4) :: (X.pn ++ pins))) (v := .ref a) S4 hN hi (.inl hl) rfl (fun s5 S5 => ?_) (.inr hl)
              refine wpAny_mono ((hsu a oe4 cls d (X.pn ++ pins) z4 f4).run [] s5 _ H' _ S5 (yes rfl a na)) (fun f s6 z => ?_) (fun _ _ z => z.elim)
              cases f with
              | next => obtain ⟨σ6, H6, S6, q6⟩ := z; exact gone_ok (S6.unsuite ok) hN hi hl fun s7 J7 => ⟨_, _, J7, q6⟩
              | brk => obtain ⟨σ6, H6, S6, q6⟩ := z; exact gone_ok (S6.unsuite ok) hN hi hl fun s7 J7 => ⟨_, _, J7, q6⟩
              | cont => obtain ⟨σ6, H6, S6, q6⟩ := z; exact gone_ok (S6.unsuite ok) hN hi hl fun s7 J7 => ⟨_, _, J7, q6⟩
              | ret u => obtain ⟨v6, σ6, H6, S6, r6, q6⟩ := z; exact gone_ok (S6.unsuite ok) hN hi hl fun s7 J7 => ⟨_, _, _, J7, r6, q6⟩
        exact cls_run S LT htS hb1 (next h fl upS) fun o => next _ (flying_push fl) (upS.trans (Heap.UpToSlots.of_keeps fun b u z => Heap.get?_push_of_some _ z))
    exact go hh w h3 fl3 (up.trans up3)
  · cases f with
    | next => exact z.elim fun σ' z => z.elim fun H' z => wpAny_execs_nil ⟨σ', H', z.1.ofTry ok, z.2⟩
    | brk => exact z.elim fun σ' z => z.elim fun H' z => ⟨σ', H', z.1.ofTry ok, z.2⟩
    | cont => exact z.elim fun σ' z => z.elim fun H' z => ⟨σ', H', z.1.ofTry ok, z.2⟩
    | ret u => obtain ⟨v, σ', H', J', r, q⟩ := z; exact ⟨v, σ', H', J'.ofTry ok, r, q⟩
end
end K0
end
/-! ### O1 -/
section
set_option Elab.async false
set_option linter.all false
set_option maxRecDepth 100000
set_option maxHeartbeats 4000000
namespace K0
open PySem PySem.Spec PyProof.Rows L2
def odd1 : List PyData := [.none, .bool true, .bool false, .int (-1), .int (10 ^ Int.toNat 39), .int (10 ^ Int.toNat 40), .int 3, .tuple [], .list [], .dict [], .str "A", .str "a b", .str "\n", .str "z", .tuple [.str "a"], .list [.str "a"], .dict [(.str "a", .int 1)]]
def odd2 : List PyData := [.tuple [.str "b", .str "a"], .tuple [.str "a", .str "a"], .tuple [.str ""], .tuple [.str "ab"], .tuple [.str "a", .int 1], .tuple [.str "a", .none], .str (rep "a" 2001), .tuple [.tuple []], .str "4", .str "!", .str "~"]
def fitB (d : PyData) : Bool := d.showable && (d.leavesShort 60 && (decide (d.bulk ≤ 10000) && decide (d.depth ≤ 7)))
structure Fit7 (d : PyData) : Prop where
  fit : Fit d
  bulk : d.bulk ≤ 10000
  depth : d.depth ≤ 7
theorem fitB_ok {d : PyData} (h : fitB d = true) : Fit7 d := by
  obtain ⟨h1, h⟩ := Bool.and_eq_true_iff.mp h
  obtain ⟨h2, h⟩ := Bool.and_eq_true_iff.mp h
  obtain ⟨h3, h4⟩ := Bool.and_eq_true_iff.mp h
  have h3 := of_decide_eq_true h3
  have h4 := of_decide_eq_true h4
  exact ⟨⟨h1, h2, by omega, by omega⟩, h3, h4⟩
theorem odd_fits {d : PyData} (h : (odd1 ++ odd2).all fitB = true) (m : d ∈ odd1 ++ odd2) : Fit7 d := fitB_ok (List.all_eq_true.mp h d m)
theorem odd_fit : (odd1 ++ odd2).all fitB = true := by decide +kernel
theorem keep_of {p : Addr} {H H' : Hp} (e : Same H H') (a b c : Int) : Keep p H (upd H' p (dk a b c)) := ⟨fun d o n z => by rw [upd_ne n]; exact e _ _ z, a, b, c, upd_same⟩
theorem rd_lst {K : PySem.W.Frag} {p : Addr} {σ : L2.St} {H : Hp} {Q : VK} {ta : TA} {ds : List PyData} (ev : EvN K p σ ta ds) (D0 : Dice p H) (hl : ds.length ≤ 1000) (k : ∀ xs H1 l, Same H H1 → DvAll K (hid p H1) xs ds → H1 l = none → Q (.ref l) (upd H1 l (.lst xs))) : tLst ta σ H Q :=
  ev H _ D0 fun xs H1 e1 v1 => ⟨by rw [v1.length]; exact Nat.le_of_lt (small1000 hl), fun l n => k xs H1 l e1 v1 n⟩
theorem sq_asg {te : TE} {i : Nat} {u : TS} {D : Ends} {σ : L2.St} {H : Hp} (h : te σ H fun x H1 => u D (σ.set i (some x)) H1) : tSeq (tAsg te (gName i)) u D σ H := h
section
variable {P : Program} {w : World} {K : PySem.W.Frag} {mg : Str → Option Value} {base : Heap} {f fO : Addr} {fd fdO : FuncData}
theorem ev_odd1 {p : Addr} {σ : L2.St} : ∃ t, EvN K p σ t odd1 := ⟨_, (ev_cons ev_non (ev_cons ev_bl (ev_cons ev_bl (ev_cons ev_neg (ev_cons (ev_pow ⟨by decide, by decide +kernel⟩) (ev_cons (ev_pow ⟨by decide, by decide +kernel⟩) (ev_cons ev_int (ev_cons (ev_tup ev_nil (by decide)) (ev_cons (ev_lst ev_nil (by decide)) (ev_cons ev_dict0 (ev_cons ev_str (ev_cons ev_str (ev_cons ev_str (ev_cons ev_str (ev_cons (ev_tup (ev_cons ev_str ev_nil) (by decide)) (ev_cons (ev_lst (ev_cons ev_str ev_nil) (by decide)) (ev_cons ev_dict1 ev_nil)))))))))))))))))⟩
end
end K0
end
/-! ### E2 -/
section
set_option Elab.async false
set_option linter.all false
set_option maxRecDepth 100000
set_option maxHeartbeats 4000000
/-! Exceptions of own classes as values: at e an instance of the class at C, its dict at d; isinstance of it, tracked or pinned. -/
namespace K0
open PySem PySem.Spec PyProof.Rows L2
structure XF (K : PySem.W.Frag) (C : Addr) : Prop where
  hcl : (PySem.W.clsIn K C).isSome = true
  hga : PySem.W.findIn K (.ref C) "__getattribute__" = some (some (.builtin "BaseException.__getattribute__"))
  hgt : PySem.W.findIn K (.ref C) "__getattr__" = some none
  hsub : PySem.W.subIn K (.ref C) (.type "BaseException") = some true
  ha : PySem.W.findIn K (.ref C) "__class__" = some (some (.builtin "object.__class__"))
  hm : PySem.W.mroIn K C (.type "object") = some true
  hd : PySem.W.hasDictIn K C = true
  ty : PySem.W.typeIn K (.ref C) = some (.type "type")
  kp : PySem.W.keepIn K (.ref C) = true
  hn : PySem.W.specialIn K (.builtin "object.__class__") "__get__" = some (some (.builtin "getset_descriptor.__get__"))
  htk : PySem.W.takesIn K (.builtin "object.__class__") = some true
def xfB (K : PySem.W.Frag) (C : Addr) : Bool :=
  (PySem.W.clsIn K C).isSome && (decide (PySem.W.findIn K (.ref C) "__getattribute__" = some (some (.builtin "BaseException.__getattribute__"))) && (decide (PySem.W.findIn K (.ref C) "__getattr__" = some none) &&
  (decide (PySem.W.subIn K (.ref C) (.type "BaseException") = some true) && (decide (PySem.W.findIn K (.ref C) "__class__" = some (some (.builtin "object.__class__"))) && (decide (PySem.W.mroIn K C (.type "object") = some true) &&
  (PySem.W.hasDictIn K C && (decide (PySem.W.typeIn K (.ref C) = some (.type "type")) && (PySem.W.keepIn K (.ref C) && (decide (PySem.W.specialIn K (.builtin "object.__class__") "__get__" = some (some (.builtin "getset_descriptor.__get__"))) &&
  decide (PySem.W.takesIn K (.builtin "object.__class__") = some true))))))))))
theorem xfB_ok {K : PySem.W.Frag} {C : Addr} (h : xfB K C = true) : XF K C := by
  unfold xfB at h
  simp only [Bool.and_eq_true, decide_eq_true_eq] at h
  obtain ⟨h1, h2, h3, h4, h5, h6, h7, h8, h9, h10, h11⟩ := h
  exact ⟨h1, h2, h3, h4, h5, h6, h7, h8, h9, h10, h11⟩
/-- the exception's dict stands tracked -/
def DictAt (H : Hp) (d : Option Addr) : Prop := ∀ dd, d = some dd → ∃ fs, H dd = some (exd dd fs)
def ExAt (H : Hp) (e C : Addr) (d : Option Addr) : Prop := H e = some (exo e C d) ∧ DictAt H d
theorem DictAt.same {H H' : Hp} {d : Option Addr} (h : DictAt H d) (s : Same H H') : DictAt H' d := fun dd z => (h dd z).elim fun fs y => ⟨fs, s _ _ y⟩
theorem ExAt.same {H H' : Hp} {e C : Addr} {d : Option Addr} (h : ExAt H e C d) (s : Same H H') : ExAt H' e C d := ⟨s _ _ h.1, h.2.same s⟩
section
variable {X : Cx} {pins : List (Addr × Obj)} {σ : L2.St} {H : Hp} {s : Shared}
theorem inst_at (I : Inv X pins σ H s) {e C : Addr} {d : Option Addr} {vs : Array Value} (he : s.heap.get? e = some ({ cls := .ref C, dict := d, data := .fields vs } : Obj)) (hd : DictAt H d) : ∃ od, PySem.W.InstAt s.heap e { cls := .ref C, dict := d, data := .fields vs } C od := by
  cases d with
  | none => exact ⟨none, he, rfl, rfl, trivial⟩
  | some dd =>
    obtain ⟨fs, z⟩ := hd dd rfl
    obtain ⟨mA, ⟨o, es, ep, ho, hr⟩, _⟩ := exd_at I.hok z
    exact ⟨some o, he, rfl, rfl, ho⟩
theorem kit_at {K : PySem.W.Frag} {C x : Addr} {ox : Obj} {od : Option Obj} (f : XF K C) : PySem.W.KitX K (.ref x) (.ref C) (fun h => PySem.W.InstAt h x ox C od) := PySem.W.kitx_exc f.hcl f.hga f.hgt f.hsub f.ha f.hn f.htk f.hm
/-- isinstance(e, c), e tracked -/
def rIsX (K : PySem.W.Frag) : List V → Hp → VK → Prop := fun xs H Q => ∃ (e C : Addr) (d : Option Addr) (c : V) (cv : Value) (b : Bool), xs = [.ref e, c] ∧ ExAt H e C d ∧ XF K C ∧ (∀ u, RelV c u → u = cv) ∧ PySem.W.kitOne K (.ref C) cv = some b ∧ Q (.bl b) H
theorem call_isX : CallR X (.builtin "isinstance") (rIsX X.K) := by
  intro pins s σ H xs us Q I r h
  obtain ⟨e, C, d, c, cv, b, rfl, hE, f, uc, hk, q⟩ := h
  obtain ⟨u, w', rfl, ru, rw'⟩ := vals2 r
  cases ru
  have ec := uc _ rw'
  subst ec
  obtain ⟨t1, ho⟩ := exo_at I.hok hE.1
  obtain ⟨od, J⟩ := inst_at I ho hE.2
  exact PySem.W.kia_one (kit_at f) I.kIn J hk (fun z => nomatch z) fun tk => ⟨.bl b, H, I.kept (t' := tk) fun _ _ z => z, rfl, q⟩
/-- .. e pinned -/
def rIsP (K : PySem.W.Frag) (p : Addr × Obj) : List V → Hp → VK → Prop := fun xs H Q => ∃ (C : Addr) (d : Option Addr) (c : V) (cv : Value) (b : Bool), xs = [.ref p.1, c] ∧ Zc (.ref C) d p.2 ∧ (∃ vs, p.2.data = .fields vs) ∧ DictAt H d ∧ XF K C ∧ (∀ u, RelV c u → u = cv) ∧ PySem.W.kitOne K (.ref C) cv = some b ∧ Q (.bl b) H
theorem call_isP {p : Addr × Obj} (hp : p ∈ X.pn) : CallR X (.builtin "isinstance") (rIsP X.K p) := by
  intro pins s σ H xs us Q I r h
  obtain ⟨C, d, c, cv, b, rfl, hz, ⟨vs, hv⟩, hD, f, uc, hk, q⟩ := h
  obtain ⟨u, w', rfl, ru, rw'⟩ := vals2 r
  cases ru
  have ec := uc _ rw'
  subst ec
  obtain ⟨ho, _⟩ := I.pin p (List.mem_append_left _ hp)
  obtain ⟨a, oe⟩ := p
  have J : ∃ od, PySem.W.InstAt s.heap a oe C od := by
    obtain ⟨h1, h2⟩ := hz
    dsimp only at h1 h2 hv ho
    cases d with
    | none => exact ⟨none, ho, h1, by unfold PySem.W.notCls; rw [hv] <;> rfl, by rw [h2] <;> trivial⟩
    | some dd =>
      obtain ⟨fs, z⟩ := hD dd rfl
      obtain ⟨mA, ⟨o, es, ep, hod, hr⟩, _⟩ := exd_at I.hok z
      exact ⟨some o, ho, h1, by unfold PySem.W.notCls; rw [hv] <;> rfl, by rw [h2]; exact hod⟩
  obtain ⟨od, J⟩ := J
  exact PySem.W.kia_one (kit_at f) I.kIn J hk (fun z => nomatch z) fun tk => ⟨.bl b, H, I.kept (t' := tk) fun _ _ z => z, rfl, q⟩
end
/-- bools in a row, while PH holds -/
def EBs (PH : Hp → Prop) (σ : L2.St) (ta : TA) (bs : List Bool) : Prop := ∀ H Q, PH H → Q (bs.map V.bl) H → ta σ H Q
def EB (PH : Hp → Prop) (σ : L2.St) (te : TE) (b : Bool) : Prop := ∀ H Q, PH H → Q (.bl b) H → te σ H Q
theorem ebs_nil {PH : Hp → Prop} {σ : L2.St} : EBs PH σ tNil [] := fun H Q _ q => q
theorem ebs_cons {PH : Hp → Prop} {σ : L2.St} {te : TE} {ta : TA} {b : Bool} {bs : List Bool} (h : EB PH σ te b) (g : EBs PH σ ta bs) : EBs PH σ (tCons te ta) (b :: bs) := fun H Q p q => h H _ p (g H _ p q)
theorem rd_bl {PH : Hp → Prop} {σ : L2.St} {ta : TA} {bs : List Bool} {H : Hp} {Q : VK} (g : EBs PH σ ta bs) (p : PH H) (hl : bs.length ≤ 1000) (k : ∀ l, H l = none → Q (.ref l) (upd H l (.lst (bs.map V.bl)))) : tLst ta σ H Q :=
  g H _ p ⟨by rw [List.length_map]; exact Nat.le_of_lt (small1000 hl), k⟩
end K0
end
/-! ### E4 -/
section
set_option Elab.async false
set_option linter.all false
set_option maxRecDepth 100000
set_option maxHeartbeats 4000000
/-! Exceptions of own classes over any built-in one of them: made with and without an __init__ of their own, as values and raised; their fields. -/
namespace K0
open PySem PySem.Spec PyProof.Rows L2
section
open Builtin Builtin.ObjectAttr PySem.HandSPX
variable {prog : Program} {w : World} {A : Around} {R : Result → Shared → Prop} {hp : Heap} {g : Array GenState} {d : Drawn} {t : Nat} {os : OsState}
/-- the first store into an exception, whatever built-in class it is over -/
theorem first_store {K : W.Frag} {name : Str} {tk : Tok} {v : Value} {x C : Addr} {fv : Array Value} {cd : ClassData} (X : K.In hp) (hx : hp.get? x = some { cls := .ref C, data := .fields fv }) (hcd : W.clsIn K C = some cd) (pass : ∀ self : Value, refuseLoop self "__setattr__" cd.mro = pure ()) (ne : cd.mro.isEmpty = false)
    (hob : cd.mro.contains (.type "object") = true) (hh : cd.hasDict = true) (ha : W.findIn K (.ref C) name = some none)
    (hq : ∀ h' tk' dx, (∀ b o, b ≠ x → hp.get? b = some o → h'.get? b = some o) → hp.objs.size ≤ dx → dx ≠ x → h'.get? x = some { cls := .ref C, dict := some dx, data := .fields fv } → h'.Ns1 dx (fun y => if y = name then some v else none) → R (.ok (.ret .none)) ⟨h', g, d, tk', os⟩) :
    codeAny (model prog w) A (.call (.builtin "object.__setattr__") ⟨[.ref x, .str name tk, v], []⟩) R ⟨hp, g, d, t, os⟩ := by
  have I : W.InstAt hp x { cls := .ref C, data := .fields fv } C none := ⟨hx, rfl, rfl, trivial⟩
  have SF := PySem.F.store_object
  have far : x ≠ hp.objs.size := Nat.ne_of_lt (Heap.lt_size hx)
  have sub : W.Looks (model prog w) hp (isInstance (.ref x) (.type "object")) true := I.type.andThen (W.looks_mroIn X (by unfold W.mroIn; rw [hcd, Option.bind_some, if_neg (by rw [ne]; decide), hob]))
  refine codeAny_call_builtin SF.slot.plain SF.entry (@W.check_slot (model prog w) _ _ ⟨hp, g, d, t, os⟩ "object.__setattr__" "object" "__setattr__" (.ref x) [.str name tk, v] [] _ SF.kind SF.split sub (SF.args (.ref x) (.str name tk) v) ?_)
  have lk1 : W.Looks (model prog w) hp (mroOf (.ref C)) cd.mro := (W.looks_clsIn X hcd).andThen .now
  have lk2 : W.Looks (model prog w) hp (storeTaker? none) none := .now
  have lk3 : W.Looks (model prog w) hp (classData C) cd := W.looks_clsIn X hcd
  rw [W.osa_eq, refuse_eq]
  refine wpAny_bind (wpAny_bind (I.type.at (wpAny_bind (lk1.at ?_))))
  rw [pass]
  refine wpAny_pure (wpAny_bind (I.type.at (wpAny_bind ((W.looks_findIn X ha).at (wpAny_bind (lk2.at ?_))))))
  show wpAny _ _ (storeInOwnDict (.ref x) (.ref C) (.str name tk) name v false) _ _ _
  obtain ⟨nm, bs, mro, ns, qn, hd, sn, sb, ab, col, del⟩ := cd
  have hh : hd = true := hh
  subst hh
  unfold storeInOwnDict ownDictForStores
  repeat (first | with_reducible refine store_in_new ?_ ?_ | with_reducible refine wpAny_loadPart_at hx ?_ | with_reducible refine lk3.at ?_ | wp_step)
  · exact ⟨_, #[], _, (Heap.get?_update_ne _ _ _ _ far.symm).trans (Heap.get?_push_at rfl rfl), rfl, fun e he => absurd he (by simp), fun _ => rfl⟩
  · intro h' tk' hn' hs
    refine hq h' tk' hp.objs.size (fun b o hb ho => (hs.2 b (Nat.ne_of_lt (Heap.lt_size ho))).trans ((Heap.get?_update_ne _ _ _ _ hb).trans (Heap.get?_push_of_some _ ho))) (Nat.le_refl _) far.symm ?_ hn'
    exact (hs.2 x far).trans (Heap.get?_update_self _ (show (hp.push { cls := .type "dict", data := .dict #[] }).get? x = some { cls := .ref C, data := .fields fv } from Heap.get?_push_of_some _ hx) rfl)
end
section
open PySem.HandSPX PySem.Calls
/-- a built-in one's maker serves a class whose own mro behind it, tail, has the maker's class and is neither an AttributeError's nor a NameError's (the library's rule asks that it have just the built-in's classes, which a class over KeyError does not) -/
structure Over (B newId initId : String) (tail : List Value) : Prop where
  facts : ∃ bB, PySem.ExcBaseFacts B newId initId bB
  has : tail.contains (.type B) = true
  noA : tail.contains (.type "AttributeError") = false
  noN : tail.contains (.type "NameError") = false
theorem Over.cons {B newId initId : String} {tail : List Value} (O : Over B newId initId tail) (C : Addr) : (Value.ref C :: tail).contains (.type B) = true ∧ (Value.ref C :: tail).contains (.type "AttributeError") = false ∧ (Value.ref C :: tail).contains (.type "NameError") = false := by
  refine ⟨?_, ?_, ?_⟩ <;> rw [List.contains_cons]
  · rw [O.has, Bool.or_true]
  · rw [O.noA]; rfl
  · rw [O.noN]; rfl
variable {prog : Program} {w : World} {A : Around} {R : Result → Shared → Prop} {hp : Heap} {gn : Array GenState} {dr : Drawn} {tk : Nat} {os : OsState}
variable {nm q : Str} {C N fI : Addr} {bs tail us : List Value} {hdt : Bool} {sn : List Str} {sub : List Value} {ab : Bool} {col : Option Bool} {dd : Option Addr} {k0 k1 k2 k3 k5 : Option Value} {B newId initId : String}
theorem Over.check {M : Model} {E : Value → Shared → Prop} {Q : Unit → Shared → Prop} (O : Over B newId initId tail) (cl : hp.get? C = some (excClassObj nm q C N bs tail hdt sn sub ab col dd k0 k1 k2 k3 k5 newId)) (z : Q () ⟨hp, gn, dr, tk, os⟩) : wpAny M A (checkBuiltinCall newId ⟨.ref C :: us, []⟩) Q E ⟨hp, gn, dr, tk, os⟩ := by
  obtain ⟨bB, G⟩ := O.facts
  have a1 := (O.cons C).1
  have a2 := G.noStar
  simp only [checkBuiltinCall, G.newKind, G.newSplit, G.newRow]
  repeat (first | refine wpAny_loadPart_at cl ?_ | refine wpAny_staticBase_exc cl ?_ | refine wpAny_madeBy_exc cl ?_ | (refine wpAny_isSubtype_exc cl ?_; rw [a1]) | simp only [bne_self_eq_false, Bool.false_eq_true, if_false] | wp_step)
  exact z
theorem Over.new (O : Over B newId initId tail) (cl : hp.get? C = some (excClassObj nm q C N bs tail hdt sn sub ab col dd k0 k1 k2 k3 k5 newId)) (few : us.length ≤ sizeLine) (z : R (.ok (.ret (.ref (hp.objs.size + 1)))) ⟨(hp.push (W.kdv_tup us)).push (excO C hp.objs.size), gn, dr, tk, os⟩) :
    codeAny (model prog w) A (.builtin newId ⟨.ref C :: us, []⟩) R ⟨hp, gn, dr, tk, os⟩ := by
  obtain ⟨bB, G⟩ := O.facts
  obtain ⟨a1, a2, a3⟩ := O.cons C
  have a4 := G.ends
  refine codeAny_builtinAt G.entry ?_
  unfold Builtin.«BaseException.__new__»
  refine PySem.wpAt_bind (show PySem.wpAt _ _ _ (stack >>= _) _ _ _ from PySem.wpAt_bind (PySem.wpAt_stack fun p below => PySem.wpAt_of_wpAny ?_))
  wp_walk
  refine PySem.wpAt_of_wpAny ?_
  rw [G.owner]
  repeat (first | with_reducible refine wpAny_loadPart_at cl ?_ | with_reducible refine wpAny_madeHere_exc G.canon cl ?_ | (with_reducible refine wpAny_isSubtype_exc cl ?_; first | rw [a1] | rw [a2] | rw [a3]) | wp_step)
  show R _ _
  rw [Heap.size_push]
  exact z
theorem Over.made {E : Value → Shared → Prop} {Q : Fin → Shared → Prop} (O : Over B newId initId tail) (cl : hp.get? C = some (excClassObj nm q C N bs tail hdt sn sub ab col dd k0 k1 k2 k3 k5 newId)) (ini : W.Looks (model prog w) hp (typeLookup (.ref C) "__init__") (some (.ref fI))) (bnd : ∀ self, W.Looks (model prog w) hp (bindSpecial (.ref fI) self) (.ref fI, [self])) (few : us.length ≤ sizeLine)
    (z : codeAny (model prog w) A (.call (.ref fI) ⟨.ref (hp.objs.size + 1) :: us, []⟩) (fun r s' => match r with | .ok (.ret v) => v = .none ∧ Q (.done (.ret (.ref (hp.objs.size + 1)))) s' | .ok _ => False | .error e => E e s') ⟨(hp.push (W.kdv_tup us)).push (excO C hp.objs.size), gn, dr, tk, os⟩) : wpAny (model prog w) A (Builtin.«type.__call__» ⟨.ref C :: us, []⟩) Q E ⟨hp, gn, dr, tk, os⟩ := by
  obtain ⟨bB, G⟩ := O.facts
  repeat (first | with_reducible refine wpAny_loadPart_at cl ?_ | with_reducible refine wpAny_madeBy_exc cl ?_ | wp_step)
  refine codeAny_call_builtin_code (Code.quiet_builtin _ G.quiet) (O.check cl (O.new cl few ?_))
  show wpAny _ _ _ _ _ _
  have up : ∀ b o, hp.get? b = some o → ((hp.push (W.kdv_tup us)).push (excO C hp.objs.size)).get? b = some o := fun b o e => Heap.get?_push_of_some _ (Heap.get?_push_of_some _ e)
  have cl2 := up _ _ cl
  have new : ((hp.push (W.kdv_tup us)).push (excO C hp.objs.size)).get? (hp.objs.size + 1) = some (excO C hp.objs.size) := by heap_get
  have self : (Value.ref C :: tail).contains (.ref C) = true := by simp
  have ini2 := ini.keeps up
  have bnd2 := (bnd (.ref (hp.objs.size + 1))).keeps up
  unfold isInstance
  repeat (first | with_reducible refine wpAny_loadPart_at new ?_ | (with_reducible refine wpAny_isSubtype_exc cl2 ?_; rw [self]) | wp_step)
  show wpAny _ _ (typeLookup (.ref C) _) _ _ _
  refine ini2.at (wpAny_holding (wpAny_bind (bnd2.at (wpAny_bind (wpAny_call (codeAny_mono z fun r s' y => ?_))))))
  rcases r with e | (v | _ | _ | _) <;> first | exact y | exact y.elim | skip
  obtain ⟨rfl, y⟩ := y
  first
    | exact wpAny_pure (wpAny_pure y)
    | (wp_walk; exact y)
theorem Over.call (O : Over B newId initId tail) (cl : hp.get? C = some (excClassObj nm q C N bs tail hdt sn sub ab col dd k0 k1 k2 k3 k5 newId)) (ini : W.Looks (model prog w) hp (typeLookup (.ref C) "__init__") (some (.ref fI))) (bnd : ∀ self, W.Looks (model prog w) hp (bindSpecial (.ref fI) self) (.ref fI, [self])) (few : us.length ≤ sizeLine)
    (z : codeAny (model prog w) (A.under (.builtin "type.__call__" ⟨.ref C :: us, []⟩)) (.call (.ref fI) ⟨.ref (hp.objs.size + 1) :: us, []⟩) (W.InitBack (hp.objs.size + 1) R) ⟨(hp.push (W.kdv_tup us)).push (excO C hp.objs.size), gn, dr, tk, os⟩) : codeAny (model prog w) A (.call (.ref C) ⟨us, []⟩) R ⟨hp, gn, dr, tk, os⟩ := by
  have l1 := tc_lookup
  have l2 := tc_bind (.ref C)
  have ty : (⟨hp, gn, dr, tk, os⟩ : Shared).TypeIs (.ref C) "type" := ⟨_, cl, rfl⟩
  refine codeAny_of_tree (show wpAny _ _ (callAny (.ref C) _) _ _ _ from ?_)
  repeat (any_goals (first | assumption | with_reducible refine wpAny_loadPart_at cl ?_ | wp_step))
  refine ⟨rfl, codeAny_call_builtin_at (Code.quiet_builtin _ (by decide +kernel)) entry_typeCall (wpAny_check_type_call_sub cl (O.made cl ini bnd few (codeAny_mono z fun r s' y => ?_)))⟩
  rcases r with e | (v | _ | _ | _) <;> exact y
end
end K0
end
/-! ### E5 -/
section
set_option Elab.async false
set_option linter.all false
set_option maxRecDepth 100000
set_option maxHeartbeats 4000000
namespace K0
open PySem PySem.Spec PyProof.Rows L2
/-- what the written part says of a class with an __init__ of its own that stores its one argument as f; bmB: its mro from the first built-in one on -/
structure XI (K : PySem.W.Frag) (C fI : Addr) (B newId initId : String) (bmB : List Value) (f : Str) : Prop where
  FB : ∃ bB, PySem.ExcBaseFacts B newId initId bB
  has : bmB.contains (.type B) = true
  noA : bmB.contains (.type "AttributeError") = false
  noN : bmB.contains (.type "NameError") = false
  obj : bmB.contains (.type "object") = true
  pass : ∀ self : Value, refuseLoop self "__setattr__" bmB = pure ()
  ini : PySem.W.excInitIn K C bmB newId = true
  over : PySem.W.excOver K C bmB = true
  sa : PySem.W.findIn K (.ref C) "__setattr__" = some (some (.builtin "object.__setattr__"))
  iC : PySem.W.findIn K (.ref C) "__init__" = some (some (.ref fI))
  tI : PySem.W.typeIn K (.ref fI) = some (.type "function")
  no : PySem.W.findIn K (.ref C) f = some none
theorem over_cls {K : PySem.W.Frag} {C : Addr} {bmB : List Value} (h : PySem.W.excOver K C bmB = true) : ∃ cd tail, PySem.W.clsIn K C = some cd ∧ cd.mro = .ref C :: tail ∧ PySem.W.excTail bmB tail = true := by
  unfold PySem.W.excOver at h
  cases e : PySem.W.clsIn K C with
  | none => rw [e] at h; cases h
  | some cd =>
    rw [e] at h
    have h2 : (match cd.mro with | .ref C' :: bm => C' == C && PySem.W.excTail bmB bm | _ => false) = true := h
    split at h2
    · rename_i C' bm em
      obtain ⟨h3, h4⟩ := Bool.and_eq_true_iff.mp h2
      have e3 : C' = C := beq_iff_eq.mp h3
      subst e3
      exact ⟨cd, bm, rfl, em, h4⟩
    · cases h2
section
variable {X : Cx} {pins : List (Addr × Obj)} {σ : L2.St} {H : Hp} {s : Shared} {a C fI : Addr} {f : Str} {y : V} {u : Value} {B newId initId : String} {bmB : List Value}
theorem store_first {Q : Unit → Shared → Prop} {E : Value → Shared → Prop} {A : Around} (T : XI X.K C fI B newId initId bmB f) (F : XF X.K C) (I : Inv X pins σ H s) (e : H a = some (exo a C none)) (ry : RelV y u)
    (h : ∀ dx s', H dx = none → dx ≠ a → Inv X pins σ (upd (upd H dx (exd dx [(f, y)])) a (exo a C (some dx))) s' → Q () s') : wpAny (model X.prog X.w) A (setAttr (.ref a) f u) Q E s := by
  obtain ⟨cd, tail, hcd, hmro, htl⟩ := over_cls T.over
  have hdict : cd.hasDict = true := by
    obtain ⟨cd2, h1, h2⟩ := PySem.W.any_some F.hd
    rw [hcd] at h1
    cases h1
    exact h2
  have hps : ∀ self : Value, refuseLoop self "__setattr__" cd.mro = pure () := fun self => by
    rw [hmro]
    rw [PySem.refuseLoop_ref]
    exact PySem.W.excTail_pass self (T.pass self) tail htl
  have hob : cd.mro.contains (.type "object") = true := by
    rw [hmro, List.contains_cons, PySem.W.excTail_contains "object" tail htl, T.obj, Bool.or_true]
  obtain ⟨t1, ho⟩ := exo_at I.hok e
  obtain ⟨hp, g, d, t, os⟩ := s
  refine PySem.W.set_plain I.kIn (ox := { cls := .ref C, dict := none, data := .fields #[.ref t1, .none, .none, .none, .bool false, .none] }) (od := none) ⟨ho, rfl, rfl, trivial⟩ T.sa ?_
  refine first_store I.kIn ho hcd hps (by rw [hmro]; rfl) hob hdict T.no fun h' tk' dx k dn dne hx hn => ?_
  have free : H dx = none := I.hok.fresh dn
  have old : ∀ {b : Addr} {o : Obj}, hp.get? b = some o → b ≠ dx := fun q => Nat.ne_of_lt (Nat.lt_of_lt_of_le (Heap.lt_size q) dn)
  have not_a : ∀ {b : Addr}, H b = none → b ≠ a := fun n => ne_of_none e n |>.symm
  have look : ∀ {b : Addr} {o : HO}, H b = some o → exo a C none ≠ o → upd (upd H dx (exd dx [(f, y)])) a (exo a C (some dx)) b = some o := fun {b o} q n => by rw [upd_ne (at_ne e q n), upd_ne (ne_of_none q free)]; exact q
  have un : Un X.fs [] H (upd (upd H dx (exd dx [(f, y)])) a (exo a C (some dx))) hp h' :=
    ⟨fun b o q n _ _ => k b o (not_a n) q, fun b o q n _ _ => ⟨o.slots, k b o (not_a n) q⟩, fun b o q n _ => by rw [upd_ne (not_a n), upd_ne (old q)]; exact n, fun b o q _ => (Classical.em (b = a)).elim (fun z => z.symm ▸ ⟨_, hx⟩) fun z => ⟨o, k b o z q⟩,
      fun b xs q => look q exo_tup, fun b o v q => look q exo_frz, fun b ps q => ⟨#[], by rw [look q exo_tbl]; simp⟩⟩
  refine h dx _ free dne (I.un (t' := tk') un fun b o q => ?_)
  by_cases hb : b = a
  · subst hb
    rw [upd_same] at q
    cases q
    exact exo_ok hx
  · rw [upd_ne hb] at q
    by_cases hd : b = dx
    · subst hd
      rw [upd_same] at q
      cases q
      exact exd_ok hn (relO_put (fs := []) ry fun g => True.intro)
    · rw [upd_ne hd] at q
      exact (I.hok b o q).stay (fun c v hc z => k c v (hc.elim (fun z => by rw [z]; exact hb) fun z => at_ne e z exo_own) z) (fun c hc => look hc exo_own) fun c xs hc => look hc exo_tup
/-- self.f = v -/
def tSt (C : Addr) (f : Str) (to te : TE) : TS := fun D σ H => te σ H fun y H1 => to σ H1 fun x H2 => ∃ a, x = .ref a ∧ H2 a = some (exo a C none) ∧ ∀ dx, H2 dx = none → dx ≠ a → D.nx σ (upd (upd H2 dx (exd dx [(f, y)])) a (exo a C (some dx)))
theorem ps_st {o e : Expr} {to te : TE} {p' pos : Pos} (T : XI X.K C fI B newId initId bmB f) (F : XF X.K C) (ho : PE X o to) (he : PE X e te) (hs : swapsWith e (some (.Attribute o f p')) pos.line X.env = pure false := by rfl) : PS X (.Assign [.Attribute o f p'] e pos) (tSt C f to te) :=
  ⟨fun pins s σ H D I h => plainObj_wpAny_Assign_Attribute (thn (he.run pins s σ H _ I h) fun v s1 ⟨y, H1, I1, r1, q1⟩ => thn (ho.run pins s1 σ H1 _ I1 q1) fun u s2 ⟨x, H2, I2, r2, a, ex, ea, q⟩ => by
    subst ex
    obtain rfl : u = Value.ref a := r2
    exact store_first T F I2 ea r1 fun dx s' n ne J => ⟨σ, _, J, q dx n ne⟩) hs⟩
end
def spIniX (C : Addr) (f : Str) : Sp := fun vs H Q _ => ∃ (a : Addr) (v : V), vs = [.ref a, v] ∧ H a = some (exo a C none) ∧ ∀ dx, H dx = none → dx ≠ a → Q .non (upd (upd H dx (exd dx [(f, v)])) a (exo a C (some dx)))
section
variable {X : Cx} {C fI : Addr} {f x : Str} {B newId initId : String} {bmB : List Value} {k : Nat} {fd : FuncData} {ps : List Str} {e : Expr} {te : TE} {p pos : Pos}
def tMkI (C : Addr) (f : Str) (te : TE) : TE := fun σ H Q => te σ H fun v H1 => ∀ H' a dx, Same H1 H' → H1 a = none → H1 dx = none → dx ≠ a → H' a = some (exo a C (some dx)) → H' dx = some (exd dx [(f, v)]) → Q (.ref a) H'
theorem pe_mkI (T : XI X.K C fI B newId initId bmB f) (F : XF X.K C) (F1 : FnOk X.prog X.w X.K X.mg X.base CX0 k fI fd ps (spIniX C f)) (hr : Room (k + 1) X.A) (hb : Binds X.K fd ps []) (hg : Gl X x) (hm : X.mg x = some (.ref C)) (he : PE X e te)
    (hdb : (x == ("__debug__" : Str)) = false := by decide) (hs : starEach [e] X.env = (false, eval e X.env) :: starEach [] X.env := by rfl) (hpl : (backTo pos (starEach [] X.env)).any (·.1) = false := by rfl) : PE X (.Call (.Name x p) [e] [] pos) (tMkI C f te) := by
  refine ⟨fun pins s σ H Q I h => wpAny_Call_Name_kw (ld_glob I hg hm (PySem.W.callWith_K (h₀ := X.base) I.ok.mod.kin F.kp ?_ hs hpl) hdb)⟩
  rw [hs]
  show wpAny _ _ (spliced ((false, eval e X.env) :: backTo pos (starEach [] X.env))) _ _ s
  refine Calls.spliced_cons (thn (he.run pins s σ H _ I h) fun u s1 ⟨v, H1, I1, r1, q1⟩ => Calls.spliced_nil ⟨I1.kIn, ?_⟩)
  show wpAny _ _ (call (.ref C) [u]) _ _ _
  obtain ⟨hp, g, dr, tk, os⟩ := s1
  obtain ⟨nm, N, qn, bs, bm, hdct, sn, sub, ab, col, dd, k0, k1, k2, k3, k5, hC, hT⟩ := PySem.W.excInit_of I1.kIn T.ini
  have O : Over B newId initId bm := ⟨T.FB, by rw [hT]; exact T.has, by rw [hT]; exact T.noA, by rw [hT]; exact T.noN⟩
  have up : ∀ b o, hp.get? b = some o → ((hp.push (PySem.W.kdv_tup [u])).push (PySem.HandSPX.excO C hp.objs.size)).get? b = some o := fun b o z => Heap.get?_push_of_some _ (Heap.get?_push_of_some _ z)
  have new : ((hp.push (PySem.W.kdv_tup [u])).push (PySem.HandSPX.excO C hp.objs.size)).get? (hp.objs.size + 1) = some (PySem.HandSPX.excO C hp.objs.size) := by heap_get
  have far : hp.objs.size ≤ hp.objs.size + 1 := Nat.le_succ _
  have na : H1 (hp.objs.size + 1) = none := I1.hok.fresh far
  have I2 : Inv X pins σ (upd H1 (hp.objs.size + 1) (exo (hp.objs.size + 1) C none)) ⟨(hp.push (PySem.W.kdv_tup [u])).push (PySem.HandSPX.excO C hp.objs.size), g, dr, tk, os⟩ := I1.laid (t' := tk) (a := hp.objs.size + 1) (o := exo (hp.objs.size + 1) C none) (h' := (hp.push (PySem.W.kdv_tup [u])).push (PySem.HandSPX.excO C hp.objs.size)) up far (exo_ok new)
  have rel : Vals [V.ref (hp.objs.size + 1), v] [Value.ref (hp.objs.size + 1), u] := .cons rfl (.cons r1 .nil)
  have prom : spIniX C f [V.ref (hp.objs.size + 1), v] (upd H1 (hp.objs.size + 1) (exo (hp.objs.size + 1) C none)) (fun r H2 => r = .non ∧ Q (.ref (hp.objs.size + 1)) H2) E0 := ⟨_, v, rfl, upd_same, fun dx nd ne => ⟨rfl, by
    rw [upd_ne ne] at nd
    refine q1 _ _ dx (fun b o z => ?_) na nd ne upd_same (by rw [upd_ne ne, upd_same])
    rw [upd_ne (ne_of_none z na), upd_ne (ne_of_none z nd), upd_ne (ne_of_none z na)]
    exact z⟩⟩
  have size : ([Value.ref (hp.objs.size + 1), u] ++ ([] : List Value)).length = ps.length := by rw [List.append_nil, ← rel.length]; exact F1.len _ _ _ _ prom
  have bd := hb _ [Value.ref (hp.objs.size + 1), u] I2.kIn size
  rw [List.append_nil] at bd
  refine wpAny_call (O.call hC (PySem.W.looks_findIn I1.kIn T.iC) (fun self => PySem.W.bind_fn I1.kIn self T.tI) (by show 1 ≤ sizeLine; decide) (codeAny_mono (F1.run _ X.stack _ _ ⟨[Value.ref (hp.objs.size + 1), u], []⟩ [Value.ref (hp.objs.size + 1), u] _ _ E0 (hr.make C [u] []) (I2.env0.make C [u] []) bd rel prom) fun r s' z => ?_))
  cases r with
  | error er => exact z.elim
  | ok fl =>
    cases fl with
    | next => exact z.elim
    | brk => exact z.elim
    | cont => exact z.elim
    | ret r =>
      obtain ⟨v2, H2, J, rv, e2, q2⟩ := I2.after z
      subst e2
      exact ⟨rv, .ref (hp.objs.size + 1), H2, J, rfl, q2⟩
/-- C(e), no __init__ of its own -/
def tMk0 (C : Addr) (te : TE) : TE := fun σ H Q => te σ H fun _ H1 => ∀ H' a, Same H1 H' → H1 a = none → H' a = some (exo a C none) → Q (.ref a) H'
theorem pe_mk0 (FB : PySem.ExcBaseFacts B newId initId bmB) (q : PySem.W.excIn X.K C bmB newId = true) (kp : PySem.W.keepIn X.K (.ref C) = true) (hg : Gl X x) (hm : X.mg x = some (.ref C)) (he : PE X e te) (hdb : (x == ("__debug__" : Str)) = false := by decide)
    (hs : starEach [e] X.env = (false, eval e X.env) :: starEach [] X.env := by rfl) (hpl : (backTo pos (starEach [] X.env)).any (·.1) = false := by rfl) : PE X (.Call (.Name x p) [e] [] pos) (tMk0 C te) := by
  refine ⟨fun pins s σ H Q I h => wpAny_Call_Name_kw (ld_glob I hg hm (PySem.W.callWith_K (h₀ := X.base) I.ok.mod.kin kp ?_ hs hpl) hdb)⟩
  rw [hs]
  show wpAny _ _ (spliced ((false, eval e X.env) :: backTo pos (starEach [] X.env))) _ _ s
  refine Calls.spliced_cons (thn (he.run pins s σ H _ I h) fun u s1 ⟨v, H1, I1, r1, q1⟩ => Calls.spliced_nil ⟨I1.kIn, ?_⟩)
  show wpAny _ _ (call (.ref C) [u]) _ _ _
  obtain ⟨bm, N, nm, qn, bs, hdct, sn, sub, ab, col, dd, k0, k1, k2, k3, k5, mN, hC, hN, hni, T⟩ := exc_obj I1.kIn q
  refine wpAny_call_exc_subT FB T hC hN hni (fun h' a made => ?_) (by show 1 ≤ sizeLine; decide)
  have na : H1 a = none := I1.hok.gone made.new
  obtain ⟨t, ht, _, _⟩ := made.there
  exact ⟨.ref a, upd H1 a (exo a C none), I1.laidN made.keeps made.new na (exo_ok ht), rfl, q1 _ a (same_upd na) na upd_same⟩
/-- what hands a new exception over, raised -/
theorem pmk_exo (hx : X.ex = []) (he : PE X e te) : PMk X e (fun σ H Q => te σ H fun r H1 => ∃ a D d, r = .ref a ∧ H1 a = some (exo a D d) ∧ X.H_0 a = none ∧ Raises X (.ref D) ∧ Q (.ref D) d (delH H1 a)) := by
  intro pins s σ H Q I h
  refine wpAny_mono (he.run pins s σ H _ I h) (fun u s1 z => ?_) fun _ _ z => z
  obtain ⟨v, H1, I1, r1, a, D, d, rfl, ha, h0, hr, q⟩ := z
  cases r1
  obtain ⟨t1, ho⟩ := exo_at I1.hok ha
  obtain ⟨G, gs, ga, J⟩ := I1.untrack ha (fr0_none h0) hx
  exact ⟨a, _, _, { s1 with heap := G }, delH H1 a, .ref D, d, rfl, J, gs, ga, ho, ⟨rfl, rfl⟩, rfl, rfl, delH_same, rfl, I1.bare, hr, q⟩
end
end K0
end
/-! ### ROWS -/
section
set_option Elab.async false
set_option linter.all false
set_option maxRecDepth 100000
set_option maxHeartbeats 4000000
/-! rows_of_lines. -/
namespace K0
open PySem PySem.Spec PyProof.Rows L2
theorem same_off {H H1 : Hp} {a : Addr} (s : Same H H1) (n : H a = none) : Same H (delH H1 a) := fun b o e => by
  rw [delH_ne (ne_of_none e n)]
  exact s _ _ e
theorem none_back {H H' : Hp} {a : Addr} (s : Same H H') (n : H' a = none) : H a = none := by
  cases z : H a with
  | none => rfl
  | some o =>
    have z2 := s _ _ z
    rw [n] at z2
    cases z2
def deedsL : List Str := ["use", "put", "move", "take", "store"]
def followL : List Str := "" :: deedsL
def FollowAt (K : PySem.W.Frag) (H : Hp) (dF : Addr) : Prop := ∃ tD, SqT K H tD (deedsL.map V.str) ∧ H dF = some (.dK (followL.map fun z => (.inr z, .ref tD)))
theorem FollowAt.same {K : PySem.W.Frag} {H H' : Hp} {dF : Addr} (h : FollowAt K H dF) (s : Same H H') : FollowAt K H' dF := by
  obtain ⟨t, h1, h2⟩ := h
  exact ⟨t, same_tup s h1, s _ _ h2⟩
theorem follow_get {v : V} {z : Str} (h : z ∈ followL) : valV (followL.map fun z => ((.inr z : Key), v)) (.inr z) = some v := by
  unfold followL deedsL at *
  rcases List.mem_cons.mp h with rfl | h
  · rfl
  rcases List.mem_cons.mp h with rfl | h
  · rfl
  rcases List.mem_cons.mp h with rfl | h
  · rfl
  rcases List.mem_cons.mp h with rfl | h
  · rfl
  rcases List.mem_cons.mp h with rfl | h
  · rfl
  · rw [List.mem_singleton.mp h]
    rfl
theorem word_in (d : DeedV) : d.word ∈ deedsL := by
  cases d <;> (dsimp only [DeedV.word]; decide)
theorem data_tup (d : DeedV) : tupD d.data = true := by
  have ts : ∀ l : List Str, tupDs (l.map PyData.str) = true := by
    intro l
    induction l with
    | nil => rfl
    | cons z l ih =>
      show (tupD (.str z) && tupDs (l.map PyData.str)) = true
      rw [ih]
      rfl
  cases d with
  | take p l =>
    show (true && (true && (tupDs (l.map PyData.str) && true))) = true
    rw [ts]
    rfl
  | _ => rfl
/-- a row as it is read -/
def OneRow (K : PySem.W.Frag) (H : Hp) (v : V) (d : DeedV) : Prop := ∃ t x, v = .ref t ∧ H t = some (.tup [.str d.word, .non, x]) ∧ Dv K H x d.data
theorem OneRow.fz {K : PySem.W.Frag} {H H' : Hp} {v : V} {d : DeedV} (h : OneRow K H v d) (s : Same (fz H) H') : OneRow K H' v d := by
  obtain ⟨t, x, e, h1, h2⟩ := h
  exact ⟨t, x, e, s _ _ (fz_of h1), Dv.same s _ _ (dv_fz h2 (data_tup d))⟩
theorem rows_fz {K : PySem.W.Frag} {H H' : Hp} {rs : List V} {ds : List DeedV} (h : Paired (OneRow K H) rs ds) (s : Same (fz H) H') : Paired (OneRow K H') rs ds := by
  induction h with
  | nil => exact .nil
  | cons h1 h2 ih => exact .cons (h1.fz s) ih
theorem paired_app {α β : Type} {R : α → β → Prop} : ∀ {as as' : List α} {bs bs' : List β}, Paired R as bs → Paired R as' bs' → Paired R (as ++ as') (bs ++ bs')
  | [], _, _, _, h, g => by cases h; exact g
  | a :: as, _, _, _, h, g => by
    cases h with
    | cons h1 h2 => exact .cons h1 (paired_app h2 g)
/-! ### rows of lines -/
theorem bad_app : ∀ (l : List (Option DeedV)) (o : Option DeedV), firstBad l = none → firstBad (l ++ [o]) = if o.isNone then some l.length else none
  | [], none, _ => rfl
  | [], some _, _ => rfl
  | none :: l, o, h => by cases h
  | some d :: l, o, h => by
    have h : (firstBad l).map (· + 1) = none := h
    have h2 : firstBad l = none := by
      cases e : firstBad l with
      | none => rfl
      | some n => rw [e] at h; cases h
    show (firstBad (l ++ [o])).map (· + 1) = _
    rw [bad_app l o h2]
    cases o <;> rfl
theorem bad_pre : ∀ (l m : List (Option DeedV)) {n : Nat}, firstBad l = some n → firstBad (l ++ m) = some n
  | [], _, _, h => by cases h
  | none :: l, m, n, h => h
  | some d :: l, m, n, h => by
    have h : (firstBad l).map (· + 1) = some n := h
    cases e : firstBad l with
    | none => rw [e] at h; cases h
    | some k =>
      rw [e] at h
      show (firstBad (l ++ m)).map (· + 1) = _
      rw [bad_pre l m e]
      exact h
theorem bad_lt : ∀ {l : List (Option DeedV)} {n : Nat}, firstBad l = some n → n < l.length
  | [], _, h => by cases h
  | none :: l, n, h => by
    have h : some 0 = some n := h
    cases h
    exact Nat.zero_lt_succ _
  | some d :: l, n, h => by
    have h : (firstBad l).map (· + 1) = some n := h
    cases e : firstBad l with
    | none => rw [e] at h; cases h
    | some k =>
      rw [e] at h
      have h : some (k + 1) = some n := h
      cases h
      have := bad_lt e
      rw [List.length_cons]
      omega
theorem scRows : FnScope ["lines", "row_of", "following", "rows", "word", "place", "number", "line", "row"] ["lines", "row_of", "following"] (defScope (top iRows)) := ⟨rfl, rfl, rfl, by decide +kernel, rfl, by decide +kernel, by decide +kernel⟩
def linesL (z : Str) : List Str := Txt.split z (one 10)
def spRows (K : PySem.W.Frag) (fR CT CP : Addr) : Sp := fun vs H Q E => ∃ (v : V) (e : PyData) (dF : Addr), vs = [v, .ref fR, .ref dF] ∧ Dv K H v e ∧ FollowAt K H dF ∧
  ((isStrD e = false ∧ ∀ H', Same H H' → E (.ref CT) none H') ∨ ∃ z, e = .str z ∧ z.length ≤ 50000 ∧ (linesL z).length ≤ 1000 ∧ (∀ y ∈ linesL z, y.length ≤ 9000) ∧
    (∀ n, firstBad ((linesL z).map lineOf) = some n → ∀ H' dd, Same H H' → H' dd = some (exd dd [("number", .int (n : Nat))]) → E (.ref CP) (some dd) H') ∧
    (firstBad ((linesL z).map lineOf) = none → ∀ H' l rs, Same H H' → H' l = some (.lst rs) → Paired (OneRow K H') rs ((linesL z).filterMap lineOf) → Q (.ref l) H'))
section
variable {P : Program} {w : World} {K : PySem.W.Frag} {mg : Str → Option Value} {base : Heap} {f fR fW fI CT CP : Addr} {fd fdR fdW fdI : FuncData} {B newId initId : String} {bmB : List Value}
theorem ok_rows {k : Nat} (F : FnP K "rows_of_lines" iRows f fd) (misi : mg "isinstance" = none) (mstr : mg "str" = none) (menum : mg "enumerate" = none) (T : TxtK K CT) (gT : mg "InvalidText" = some (.ref CT))
    (gP : mg "ParseError" = some (.ref CP)) (xi : XI K CP fI B newId initId bmB "number") (xN : XF K CP) (FI : FnOk P w K mg base CX0 1 fI fdI ["self", "number"] (spIniX CP "number")) (bI : Binds K fdI ["self", "number"] [])
    (FR : FnOk P w K mg base CX0 (k + 3) fR fdR ["words"] (spDeedRow K)) (kR : PySem.W.keepIn K (.ref fR) = true) (bR : Binds K fdR ["words"] [])
    (FW : FnOk P w K mg base CX0 (k + 3) fW fdW ["line"] spWordsOf) (gW : mg "words_of" = some (.ref fW)) (kW : PySem.W.keepIn K (.ref fW) = true) (bW : Binds K fdW ["line"] []) :
    FnOk P w K mg base (L2.CX P w) (k + 4) f fd ["lines", "row_of", "following"] (spRows K fR CT CP) := by
  refine F.ok scRows (fun vs H Q E h => ?_) (fun cdv A outer s H vs Q E hr h => ?_)
  · obtain ⟨v, e, dF, rfl, _⟩ := h
    rfl
  · obtain ⟨v, e, dF, rfl, hd, fo, h⟩ := h
    have sl : sizeLine = 16777216 := sizeLine_eq
    refine ⟨_, C8.pss_cut (ps_if (pt_not (pt_val (pe_callB call_isi (by rfl) misi boot_isinstance (pa_cons (pv 0) (pa_cons (pe_bltn (v := .ty "str") (by rfl) mstr (by decide +kernel) rfl) pa_nil)))))
        (pss_one (ps_raise rfl (takes_of rfl rfl rfl rfl) (pmk_ownA PySem.F.excBase_ValueError T.exc gT T.kp (raises_own T.sub T.ty) (by rfl) (pa_cons pe_str pa_nil)))) pss_nil)
      (C8.pss_cut (ps_set (i := 3) scRows.nd rfl (.inl rfl) (pe_lst pa_nil))
      (C8.pss_cut (ps_set (i := 4) scRows.nd rfl (.inl rfl) pe_str)
      (C8.pss_cut (ps_set (i := 5) scRows.nd rfl (.inl rfl) pe_non)
      (C8.pss_cut (ps_for (passes_of rfl) rfl (pi_enum (by rfl) menum (pa_cons (pe_split (pv 0) pe_str) pa_nil)) (pg_tup rfl (pgs_cons (pg_name (i := 6) scRows.nd rfl (.inl rfl)) (pgs_cons (pg_name (i := 7) scRows.nd rfl (.inl rfl)) pgs_nil)))
        (C8.pss_cut (ps_set (i := 8) scRows.nd rfl (.inl rfl) (ItX.pe_callV (i := 1) (E := fun _ _ _ => False) (FR.raw bR .nil) hr kR pass0 rfl (.inl rfl) (pa_cons (pe_call FW hr (by rfl) gW kW bW .nil pass0 (pa_cons (pv 7) pa_nil)) pa_nil)))
        (C8.pss_cut (ps_if (PW.pt (pw_or (pt_cmp (pc_isN (pv 8))) (pw_or1 (pt_cmpR (op_notInK K rfl) (pe_ix ix_tup (pv 8) pe_int (fun _ _ => rfl)) (pe_dget (hu_of hr) (pv 2) (pv 4) (fun _ _ => rfl)) rfl))))
            (pss_one (ps_raise rfl (takes_of rfl rfl rfl rfl) (pmk_exo rfl (pe_mkI (C := CP) xi xN FI (hr.mono (by omega)) bI (by rfl) gP (pv 6))))) pss_nil)
        (C8.pss_cut (ps_if (PW.pt (pw_and (pt_cmpR op_eq (pe_ix ix_tup (pv 8) pe_int (fun _ _ => rfl)) (pv 4) (nomark _)) (pw_and (pt_cmp (pc_notN (pe_ix ix_tup (pv 8) pe_int (fun _ _ => rfl)))) (pw_and1 (pt_not (pt_cmpR op_lt (pv 5) (pe_ix ix_tup (pv 8) pe_int (fun _ _ => rfl)) (nomark _)))))))
            (pss_one (ps_raise rfl (takes_of rfl rfl rfl rfl) (pmk_exo rfl (pe_mkI (C := CP) xi xN FI (hr.mono (by omega)) bI (by rfl) gP (pv 6))))) pss_nil)
        (C8.pss_cut (ps_asg (pe_slice sl_tupA (pv 8) po_none (po_some pe_int)) (pg_tup rfl (pgs_cons (pg_name (i := 4) scRows.nd rfl (.inl rfl)) (pgs_cons (pg_name (i := 5) scRows.nd rfl (.inl rfl)) pgs_nil))))
        (pss_one (ps_expr (pe_bm PySem.F.plainAttrs_list PySem.F.slot_list_append PySem.F.type_list_append mt_append (pv 3) (pa_cons (pv 8) pa_nil)))))))))
      (pss_one (ps_ret (pv 3))))))), ?_⟩
    rcases h with ⟨hn, bad⟩ | ⟨z, rfl, zl, ln, short, bad, good⟩
    · refine ⟨fun _ _ => False, ?_, fun _ _ y => y.elim⟩
      refine ⟨_, rfl, v, _, _, _, _, rfl, .ty _, hd.ty, kit_str e, _, rfl, ?_⟩
      rw [hn]
      exact ite2 (fun _ => ⟨by show 1 ≤ sizeLine; omega, bad H (Same.refl H)⟩) (fun y => absurd rfl y)
    cases hd
    refine ⟨fun σ' H' => H' = H ∧ σ' = [some (.str z), some (.ref fR), some (.ref dF), none, none, none, none, none, none], ?_, ?_⟩
    · exact ⟨_, rfl, .str z, _, _, _, _, rfl, .ty _, (Dv.str z : Dv K H _ _).ty, kit_str (.str z), _, rfl, ite2 (fun y => by cases y) (fun _ => ⟨rfl, rfl⟩)⟩
    rintro σ0 H0 ⟨rfl, rfl⟩
    refine ⟨fun σ' H' => ∃ R, Same H0 H' ∧ H0 R = none ∧ H' R = some (.lst []) ∧ σ' = [some (.str z), some (.ref fR), some (.ref dF), some (.ref R), none, none, none, none, none], ?_, ?_⟩
    · exact ⟨Nat.zero_le _, fun R nR => ⟨R, same_upd nR, nR, upd_same, rfl⟩⟩
    rintro σ1 H1 ⟨R, s1, nR, eR, rfl⟩
    refine ⟨fun σ' H' => H' = H1 ∧ σ' = [some (.str z), some (.ref fR), some (.ref dF), some (.ref R), some (.str ""), none, none, none, none], ⟨rfl, rfl⟩, ?_⟩
    rintro σ2 H2 ⟨rfl, rfl⟩
    refine ⟨fun σ' H' => H' = H2 ∧ σ' = [some (.str z), some (.ref fR), some (.ref dF), some (.ref R), some (.str ""), some .non, none, none, none], ⟨rfl, rfl⟩, ?_⟩
    rintro σ3 H3 ⟨rfl, rfl⟩
    have Ldef : Txt.split z "\n" = linesL z := rfl
    generalize hL : linesL z = L at *
    refine ⟨fun σ' H' => ∃ w x6 x7 x8 rs, σ' = [some (.str z), some (.ref fR), some (.ref dF), some (.ref R), some (.str w), some .non, x6, x7, x8] ∧ Same H0 H' ∧ H' R = some (.lst rs) ∧ Paired (OneRow K H') rs (L.filterMap lineOf) ∧ firstBad (L.map lineOf) = none, ?_, ?_⟩
    · refine ⟨_, rfl, ⟨_, rfl⟩, z, "\n", rfl, rfl, rfl, by omega, fun l nl => ?_⟩
      rw [Ldef]
      have lR : l ≠ R := (ne_of_none eR nl).symm
      refine ⟨l, _, rfl, .of upd_same, for_it (walk_enum (xs := L.map V.str)) (fun m σ' H' => ∃ w x6 x7 x8 rs, σ' = [some (.str z), some (.ref fR), some (.ref dF), some (.ref R), some (.str w), some .non, x6, x7, x8] ∧ w ∈ followL ∧ Same H0 H' ∧ H' l = some (.lst (L.map V.str)) ∧ H' R = some (.lst rs) ∧ Paired (OneRow K H') rs ((L.take m).filterMap lineOf) ∧ firstBad ((L.take m).map lineOf) = none)
        ⟨"", none, none, none, [], rfl, by decide, s1.trans (same_upd nl), upd_same, same_upd nl _ _ eR, .nil, rfl⟩ (fun m σ' H' _ hP => ?_) (fun m y σ' H' H'' hm hP hY => ?_) (fun σ' H' hP => ?_)⟩
      · obtain ⟨_, _, _, _, _, _, _, _, h, _⟩ := hP
        exact .of h
      · obtain ⟨w, x6, x7, x8, rs, rfl, wf, s', el, er, pr, nb⟩ := hP
        obtain ⟨T, u1, u2, rfl, nT, rfl, eu1, eu2⟩ := hY
        cases eu1
        have eu2 : (L.map V.str)[m]? = some u2 := eu2
        rw [List.getElem?_map] at eu2
        obtain ⟨y, hy, rfl⟩ := Option.map_eq_some_iff.mp eu2
        have sT := same_upd (o := .tup [.int (m : Nat), .str y]) nT
        have y9 := short y (List.mem_of_getElem? hy)
        have tk : L.take (m + 1) = L.take m ++ [y] := by rw [List.take_succ, hy]; rfl
        have ww := split_weight y (one 32) (Nat.le_refl 1)
        have wsum : sumLen (wordsL y) ≤ 100000 ∧ (wordsL y).length ≤ 10000 := by
          unfold wordsL sumLen
          split
          · exact ⟨by simp, by simp⟩
          · omega
        -- row
        refine ⟨_, _, rfl, .of upd_same, rfl, _, _, rfl, _, _, rfl, rfl, ?_⟩
        have eRT : R ≠ T := ne_of_none er nT
        refine ⟨fun σ' H5 => ∃ rv, σ' = [some (.str z), some (.ref fR), some (.ref dF), some (.ref R), some (.str w), some .non, some (.int (m : Nat)), some (.str y), some rv] ∧ Same H' H5 ∧ ((rv = .non ∧ lineOf y = none) ∨ ∃ d, lineOf y = some d ∧ OneRow K H5 rv d), ?_, ?_⟩
        · refine ⟨rfl, _, rfl, y, rfl, by omega, fun H5 p s5 ep => ⟨p, wordsL y, rfl, .of ep, wsum.1, wsum.2, fun hn H6 s6 => ⟨_, rfl, (sT.trans s5).trans s6, .inl ⟨rfl, by rw [line_of]; exact hn⟩⟩, fun d hd H6 t x s6 et ex => ⟨_, rfl, (sT.trans s5).trans s6, .inr ⟨d, by rw [line_of]; exact hd, t, x, rfl, et, ex⟩⟩⟩⟩
        rintro σ5 H5 ⟨rv, rfl, s5, hrow⟩
        refine ⟨fun σ' H6 => σ' = [some (.str z), some (.ref fR), some (.ref dF), some (.ref R), some (.str w), some .non, some (.int (m : Nat)), some (.str y), some rv] ∧ H6 = H5 ∧ ∃ d, lineOf y = some d ∧ OneRow K H5 rv d, ?_, ?_⟩
        · rcases hrow with ⟨rfl, hn⟩ | ⟨d, hd, hrow⟩
          · refine ⟨_, rfl, _, rfl, ite2 (fun _ => ?_) (fun q => absurd rfl q)⟩
            have fb : firstBad (L.map lineOf) = some m := by
              rw [← List.take_append_drop (m + 1) L, List.map_append]
              refine bad_pre _ _ ?_
              rw [tk, List.map_append]
              show firstBad (_ ++ [lineOf y]) = _
              rw [bad_app _ _ nb, hn, List.length_map, List.length_take]
              rw [List.length_map] at hm
              show some (min m L.length) = some m
              rw [Nat.min_eq_left (by omega)]
            exact ⟨_, rfl, fun H7 a dx s na nd ne' ea ed => ⟨a, CP, some dx, rfl, ea, none_back (s'.trans s5) na, raises_own xN.hsub xN.ty, bad m fb _ dx (same_off ((s'.trans s5).trans s) (none_back (s'.trans s5) na)) (by rw [delH_ne ne']; exact ed)⟩⟩
          · obtain ⟨t0, x0, rfl, et, ex⟩ := id hrow
            obtain ⟨tD, f1, f2⟩ := fo.same (s'.trans s5)
            refine ⟨_, rfl, _, rfl, ite2 (fun q => by cases q) (fun _ => ?_)⟩
            refine ⟨_, rfl, t0, _, 0, .str d.word, rfl, rfl, .of et, rfl, _, rfl, _, rfl, dF, .ref tD, rfl, .inl ⟨_, .inr w, .of f2, rfl, (follow_get wf).symm⟩, tD, _, rfl, .inr f1, rfl, flat_strs _, _, rfl, ?_⟩
            show (if (!inV (.str d.word) (deedsL.map V.str)) = true then _ else _)
            rw [inV_str, decide_eq_true (word_in d)]
            exact ite2 (fun q => by cases q) (fun _ => ⟨rfl, rfl, d, hd, hrow⟩)
        rintro σ6 H6 ⟨rfl, rfl, d, hd, hrow⟩
        obtain ⟨t0, x0, rfl, et, ex⟩ := id hrow
        refine ⟨fun σ' H7 => σ' = [some (.str z), some (.ref fR), some (.ref dF), some (.ref R), some (.str w), some .non, some (.int (m : Nat)), some (.str y), some (.ref t0)] ∧ H7 = H6, ?_, ?_⟩
        · refine ⟨_, rfl, t0, _, 0, .str d.word, rfl, rfl, .of et, rfl, _, rfl, rfl, _, rfl, ite2 (fun _ => ?_) (fun _ => ite2 (fun q => by cases q) (fun _ => ⟨rfl, rfl⟩))⟩
          refine ⟨_, rfl, t0, _, 1, .non, rfl, rfl, .of et, rfl, _, rfl, ite2 (fun q => by cases q) (fun _ => ⟨rfl, rfl⟩)⟩
        rintro σ7 H7 ⟨rfl, rfl⟩
        refine ⟨fun σ' H8 => σ' = [some (.str z), some (.ref fR), some (.ref dF), some (.ref R), some (.str d.word), some .non, some (.int (m : Nat)), some (.str y), some (.ref t0)] ∧ Same H7 H8, ?_, ?_⟩
        · exact ⟨_, rfl, _, rfl, t0, _, rfl, .of et, fun q => absurd q.2 (by show ¬ (2 : Nat) = 3; decide), fun _ p np => ⟨p, [.str d.word, .non], rfl, .of upd_same, rfl, _, _, rfl, _, _, rfl, rfl, rfl, same_upd np⟩⟩
        rintro σ8 H8 ⟨rfl, s8⟩
        have s58 := s5.trans s8
        have eR8 := s58 _ _ er
        have rsl : rs.length ≤ 1000 := by
          have := pr.length
          have h1 := List.length_filterMap_le lineOf (L.take m)
          have h2 : (L.take m).length ≤ L.length := by rw [List.length_take]; omega
          omega
        have fs : Same (fz H8) (upd H8 R (.lst (rs ++ [.ref t0]))) := fun b o q => by
          obtain ⟨e, nl, _⟩ := fz_out q
          rw [upd_ne (fun q => by rw [q, eR8] at e; exact nl _ (Option.some.inj e).symm)]
          exact e
        refine ⟨_, rfl, .inl ⟨rfl, _, .of eR8⟩, _, rfl, R, rs, .ref t0, rfl, rfl, eR8, by omega, ?_⟩
        refine ⟨d.word, _, _, _, rs ++ [.ref t0], rfl, List.mem_cons_of_mem _ (word_in d), fun b o q => ?_, ?_, upd_same, ?_, ?_⟩
        · rw [upd_ne (ne_of_none q nR)]
          exact s58 _ _ (s' _ _ q)
        · rw [upd_ne lR]
          exact s58 _ _ el
        · rw [tk, List.filterMap_append]
          rw [show [y].filterMap lineOf = [d] by simp [hd]]
          exact paired_app (rows_fz (rows_fz pr (fz_same.trans s58)) fs) (.cons ((hrow.fz (fz_same.trans s8)).fz fs) .nil)
        · rw [tk, List.map_append]
          show firstBad (_ ++ [lineOf y]) = none
          rw [bad_app _ _ nb, hd]
          rfl
      · obtain ⟨w, x6, x7, x8, rs, rfl, wf, s', el, er, pr, nb⟩ := hP
        rw [List.length_map, List.take_length] at pr nb
        exact ⟨w, x6, x7, x8, rs, rfl, s', er, pr, nb⟩
    rintro σ4 H4 ⟨w, x6, x7, x8, rs, rfl, s4, er, pr, nb⟩
    exact ⟨_, rfl, good nb H4 R rs s4 er pr⟩
end
end K0
end
/-! ### RH0 -/
section
set_option Elab.async false
set_option linter.all false
set_option maxRecDepth 100000
set_option maxHeartbeats 4000000
/-! What is read of a line is not larger than the line. -/
namespace K0
open PySem PySem.Spec PyProof.Rows L2
theorem body_len (w : Str) : (bodyS w).length ≤ w.length := by
  unfold bodyS
  rw [← cd_len, cd_tx, List.length_drop, cd_len]
  omega
theorem sum_cons (w : Str) (ws : List Str) : sumLen (w :: ws) = w.length + sumLen ws := by
  unfold sumLen
  rw [List.map_cons, List.sum_cons]
theorem sum_body : ∀ ws : List Str, sumLen (ws.map bodyS) ≤ sumLen ws
  | [] => Nat.le_refl _
  | w :: ws => by
    rw [List.map_cons, sum_cons, sum_cons]
    have := sum_body ws
    have := body_len w
    omega
theorem row_bulk {W : List Str} {d : DeedV} (h : rowOf W = some d) : d.data.bulk ≤ sumLen W + W.length + 1 := by
  have b2 : ∀ a b : PyData, (PyData.tuple [a, b]).bulk = a.bulk + b.bulk + 2 := fun a b => by show a.bulk + 1 + (b.bulk + 1 + 0) = _; omega
  have b3 : ∀ a b c : PyData, (PyData.tuple [a, b, c]).bulk = a.bulk + b.bulk + c.bulk + 3 := fun a b c => by show a.bulk + 1 + (b.bulk + 1 + (c.bulk + 1 + 0)) = _; omega
  have bs : ∀ z : Str, (PyData.str z).bulk = z.length := fun z => rfl
  unfold rowOf at h
  by_cases e0 : ("" : Str) ∈ W
  · rw [if_pos e0] at h; cases h
  rw [if_neg e0] at h
  cases W with
  | nil => cases h
  | cons word W =>
  cases W with
  | nil => cases h
  | cons told rest =>
    dsimp only at h
    rw [sum_cons, sum_cons, List.length_cons, List.length_cons]
    have bt := body_len told
    by_cases e1 : word = "use"
    · subst e1
      rw [if_pos rfl] at h
      by_cases e2 : rest = []
      · rw [if_pos e2] at h
        cases h
        show (PyData.tuple [.str "use", .str told]).bulk ≤ _
        rw [b2, bs, bs]
        omega
      · rw [if_neg e2] at h; cases h
    rw [if_neg e1] at h
    by_cases e2 : (told :: rest).all twB = false
    · rw [if_pos e2] at h; cases h
    rw [if_neg e2] at h
    by_cases e3 : word = "take"
    · subst e3
      rw [if_pos rfl] at h
      cases h
      show (PyData.tuple [.str "take", .str (bodyS told), .tuple ((rest.map bodyS).map PyData.str)]).bulk ≤ _
      have e2 : (PyData.tuple ((rest.map bodyS).map PyData.str)).bulk = sumLen (rest.map bodyS) + (rest.map bodyS).length := bulk_strs _
      rw [b3, bs, bs, e2, List.length_map]
      have := sum_body rest
      omega
    rw [if_neg e3] at h
    cases rest with
    | nil =>
      dsimp only at h
      by_cases e4 : word = "store"
      · subst e4
        rw [if_pos rfl] at h
        cases h
        show (PyData.tuple [.str "store", .str (bodyS told)]).bulk ≤ _
        rw [b2, bs, bs]
        omega
      · rw [if_neg e4] at h; cases h
    | cons t r =>
    cases r with
    | nil =>
      dsimp only at h
      have bt2 := body_len t
      rw [sum_cons]
      by_cases e4 : word = "put"
      · subst e4
        rw [if_pos rfl] at h
        cases h
        show (PyData.tuple [.str "put", .str (bodyS told), .str (bodyS t)]).bulk ≤ _
        rw [b3, bs, bs, bs]
        show _ ≤ _ + (_ + (t.length + _)) + (1 + 1 + 1) + 1
        omega
      rw [if_neg e4] at h
      by_cases e5 : word = "move"
      · subst e5
        rw [if_pos rfl] at h
        cases h
        show (PyData.tuple [.str "move", .str (bodyS told), .str (bodyS t)]).bulk ≤ _
        rw [b3, bs, bs, bs]
        show _ ≤ _ + (_ + (t.length + _)) + (1 + 1 + 1) + 1
        omega
      rw [if_neg e5] at h
      cases h
    | cons _ _ => cases h
theorem line_bulk {y : Str} {d : DeedV} (h : lineOf y = some d) : d.data.bulk ≤ y.length + 2 := by
  have := row_bulk h
  have ww := split_weight y (one 32) (Nat.le_refl 1)
  unfold sumLen at this
  omega
theorem lines_bulk : ∀ (L : List Str), PyData.bulkAll ((L.filterMap lineOf).map DeedV.data) ≤ sumLen L + 3 * L.length
  | [] => Nat.le_refl _
  | y :: L => by
    have ih := lines_bulk L
    rw [sum_cons, List.length_cons]
    cases e : lineOf y with
    | none => rw [List.filterMap_cons_none e]; omega
    | some d =>
      rw [List.filterMap_cons_some e, List.map_cons, PyData.bulkAll]
      have := line_bulk e
      omega
theorem text_bulk {z : Str} : PyData.bulkAll (((linesL z).filterMap lineOf).map DeedV.data) ≤ z.length + 2 * (linesL z).length + 1 := by
  have h1 := lines_bulk (linesL z)
  have ww := split_weight z (one 10) (Nat.le_refl 1)
  unfold sumLen at h1
  unfold linesL at *
  omega
end K0
end
/-! ### RH -/
section
set_option Elab.async false
set_option linter.all false
set_option maxRecDepth 100000
set_option maxHeartbeats 4000000
/-! read_history. -/
namespace K0
open PySem PySem.Spec PyProof.Rows L2
theorem scRead : FnScope ["lines", "rows", "history", "word", "_", "deed"] ["lines"] (defScope (top iRead)) := ⟨rfl, rfl, rfl, by decide +kernel, rfl, by decide +kernel, by decide +kernel⟩
theorem cons_c {v : V} {t : TA} {σ : L2.St} {H : Hp} {Q : List V → Hp → Prop} (h : t σ H fun xs H2 => Q (v :: xs) H2) : tCons (tC v) t σ H Q := h
theorem cons_1 {te : TE} {σ : L2.St} {H : Hp} {Q : List V → Hp → Prop} (h : te σ H fun x H2 => Q [x] H2) : tCons te tNil σ H Q := h
theorem eqS_of {e : PyData} {z : Str} (h : eqS e z = true) : e = .str z := by
  cases e with
  | str x => rw [eqS_str] at h; rw [of_decide_eq_true h]
  | _ => cases h
theorem put_follow {v : V} : ∀ (i : Nat) (z : Str), followL[i]? = some z → putK ((followL.take i).map fun z => ((.inr z : Key), v)) (.inr z) v = (followL.take (i + 1)).map fun z => ((.inr z : Key), v)
  | 0, _, h => by cases h; rfl
  | 1, _, h => by cases h; rfl
  | 2, _, h => by cases h; rfl
  | 3, _, h => by cases h; rfl
  | 4, _, h => by cases h; rfl
  | 5, _, h => by cases h; rfl
  | _ + 6, _, h => by cases h
theorem rows_data {K : PySem.W.Frag} {H : Hp} : ∀ {rs : List V} {ds : List DeedV}, Paired (OneRow K H) rs ds → ∃ ys, DvAll K H ys (ds.map DeedV.data) ∧ rs.length = ys.length ∧ ∀ (i : Nat) r, rs[i]? = some r → ∃ t w x, r = .ref t ∧ H t = some (.tup [w, .non, x]) ∧ ys[i]? = some x
  | [], _, h => by cases h; exact ⟨[], .nil, rfl, fun i r h => by cases h⟩
  | r :: rs, _, h => by
    cases h with
    | cons h1 h2 =>
      obtain ⟨ys, d, l, g⟩ := rows_data h2
      obtain ⟨t, x, e1, e2, e3⟩ := h1
      refine ⟨x :: ys, .cons e3 d, by rw [List.length_cons, List.length_cons, l], fun i r' hi => ?_⟩
      cases i with
      | zero =>
        cases hi
        exact ⟨t, _, x, e1, e2, rfl⟩
      | succ i => exact g i r' hi
theorem good_len : ∀ {L : List Str}, firstBad (L.map lineOf) = none → (L.filterMap lineOf).length = L.length
  | [], _ => rfl
  | y :: L, h => by
    rw [List.map_cons] at h
    cases e : lineOf y with
    | none => rw [e] at h; cases h
    | some d =>
      rw [e] at h
      have h : (firstBad (L.map lineOf)).map (· + 1) = none := h
      have h2 : firstBad (L.map lineOf) = none := by
        cases q : firstBad (L.map lineOf) with
        | none => rfl
        | some n => rw [q] at h; cases h
      rw [List.filterMap_cons_some e, List.length_cons, List.length_cons, good_len h2]
theorem due_good {L : List Str} (h : firstBad (L.map lineOf) = none) : dueOf L = if isHistD (.tuple ((L.filterMap lineOf).map DeedV.data)) = true then .tuple ((L.filterMap lineOf).map DeedV.data) else .int (L.length : Nat) := by
  unfold dueOf
  rw [h]
  have e : isHistD (.tuple ((L.filterMap lineOf).map DeedV.data)) = (decide (L.length ≤ 40) && (L.filterMap lineOf).all DeedV.ok) := by
    show (decide (((L.filterMap lineOf).map DeedV.data).length ≤ 40) && ((L.filterMap lineOf).map DeedV.data).all isDeedD) = _
    rw [List.length_map, good_len h, List.all_map]
    have : (isDeedD ∘ DeedV.data) = DeedV.ok := funext deed_data
    rw [this]
  rw [e]
  dsimp only
  by_cases h1 : 40 < L.length
  · rw [if_pos (.inl h1), decide_eq_false (by omega), Bool.false_and, if_neg (by decide)]
  · rw [decide_eq_true (by omega), Bool.true_and]
    cases h2 : (L.filterMap lineOf).all DeedV.ok with
    | false => rw [if_pos (.inr rfl), if_neg (by decide)]
    | true => rw [if_neg (by intro q; rcases q with q | q; exact h1 q; cases q), if_pos rfl]
/-- what is told of a text -/
def dueZ (z : Str) : PyData := if z = "" then .tuple [] else dueOf (linesL z)
def spReadH (K : PySem.W.Frag) (CT CP : Addr) : Sp := fun vs H Q E => ∃ (v : V) (e : PyData), vs = [v] ∧ Dv K H v e ∧
  ((isStrD e = false ∧ ∀ H', Same H H' → E (.ref CT) none H') ∨ ∃ z, e = .str z ∧ z.length ≤ 50000 ∧ (linesL z).length ≤ 1000 ∧ (∀ y ∈ linesL z, y.length ≤ 9000) ∧
    (∀ n : Nat, dueZ z = .int n → ∀ H' dd, Same H H' → H' dd = some (exd dd [("number", .int n)]) → E (.ref CP) (some dd) H') ∧
    (∀ ds, dueZ z = .tuple ds → ∀ H' x, Same H H' → Dv K H' x (.tuple ds) → Q x H'))
section
variable {P : Program} {w : World} {K : PySem.W.Frag} {mg : Str → Option Value} {base : Heap} {f fR fD fH fI CT CP tD : Addr} {fd fdR fdD fdH fdI : FuncData} {B newId initId : String} {bmB : List Value}
theorem ok_read {k : Nat} (F : FnP K "read_history" iRead f fd) (mtuple : mg "tuple" = none) (mlen : mg "len" = none)
    (gP : mg "ParseError" = some (.ref CP)) (xi : XI K CP fI B newId initId bmB "number") (xN : XF K CP) (FI : FnOk P w K mg base CX0 1 fI fdI ["self", "number"] (spIniX CP "number")) (bI : Binds K fdI ["self", "number"] [])
    (FR : FnOk P w K mg base (L2.CX P w) (k + 4) fR fdR ["lines", "row_of", "following"] (spRows K fD CT CP)) (gR : mg "rows_of_lines" = some (.ref fR)) (kR : PySem.W.keepIn K (.ref fR) = true) (bR : Binds K fdR ["lines", "row_of", "following"] [])
    (gD : mg "deed_row" = some (.ref fD)) (gT : mg "DEEDS" = some (.ref tD)) (hT : ∀ H : Hp, SqT K H tD (deedsL.map V.str))
    (FH : FnOk P w K mg base CX0 (k + 4) fH fdH ["value"] (spHist K)) (gH : mg "is_history" = some (.ref fH)) (kH : PySem.W.keepIn K (.ref fH) = true) (bH : Binds K fdH ["value"] []) :
    FnOk P w K mg base (L2.CX P w) (k + 5) f fd ["lines"] (spReadH K CT CP) := by
  refine F.ok scRead (fun vs H Q E h => ?_) (fun cdv A outer s H vs Q E hr h => ?_)
  · obtain ⟨v, e, rfl, _⟩ := h
    rfl
  · obtain ⟨v, e, rfl, hd, h⟩ := h
    have sl : sizeLine = 16777216 := sizeLine_eq
    refine ⟨_, C8.pss_cut (ps_if (pt_cmpR (op_eqSK K rfl hr.units) (pv 0) pe_str (nomark _)) (pss_one (ps_ret (pe_tup pa_nil))) pss_nil)
      (C8.pss_cut (ps_set (i := 1) scRead.nd rfl (.inl rfl) (pe_call FR hr (by rfl) gR kR bR .nil (passes_call (takes_of rfl rfl rfl rfl) fun _ _ _ _ z => z) (pa_cons (pv 0) (pa_cons (pe_glob (v := .ref fD) (by rfl) gD rfl) (pa_cons
        (pe_dc (own := [("word", 3)]) (g := gName 3) (tt := tYes) (tk := tVar 3) (tv := tC (.ref tD)) rfl scRead.nd (pi_tup (pe_tup (pa_cons pe_str (StX.pa_star (pe_glob (v := .ref tD) (by rfl) gT rfl) pa_nil)))) (blkOk_by (N := ["lines", "rows", "history", "word", "_", "deed"]) (sc := defScope (top iRead)) (by decide +kernel))
          (fun _ _ _ _ _ => pg_name (i := 3) scRead.nd rfl (Or.inl rfl)) (fun _ _ _ _ _ => pts_nil) (fun _ _ _ _ _ => pv 3) (fun _ _ _ _ _ => pe_glob (v := .ref tD) (by rfl) gT rfl)) pa_nil)))))
      (C8.pss_cut (ps_set (i := 2) scRead.nd rfl (.inl rfl) (pe_callTy call_tuple_of (by rfl) mtuple (by decide +kernel) (pa_cons (pe_lc (own := [("_", 4), ("deed", 5)]) (g := gTup K 3 (gCons (gName 4) (gCons (gName 4) (gCons (gName 5) gNil)))) (tt := tYes) (te := tVar 5) rfl scRead.nd (pi_list (pv 1)) (blkOk_by (N := ["lines", "rows", "history", "word", "_", "deed"]) (sc := defScope (top iRead)) (by decide +kernel))
          (fun _ _ _ _ _ => pg_tup rfl (pgs_cons (pg_name (i := 4) scRead.nd rfl (Or.inl rfl)) (pgs_cons (pg_name (i := 4) scRead.nd rfl (Or.inl rfl)) (pgs_cons (pg_name (i := 5) scRead.nd rfl (Or.inl rfl)) pgs_nil)))) (fun _ _ _ _ _ => pts_nil) (fun _ _ _ _ _ => pv 5)) pa_nil)))
      (C8.pss_cut (ps_if (pt_not (pt_val (pe_call FH hr (by rfl) gH kH bH .nil pass0 (pa_cons (pv 2) pa_nil))))
        (pss_one (ps_raise rfl (takes_of rfl rfl rfl rfl) (pmk_exo rfl (pe_mkI (C := CP) xi xN FI (hr.mono (by omega)) bI (by rfl) gP (pe_callB call_len_seq (by rfl) mlen PySem.boot_len (pa_cons (pv 1) pa_nil)))))) pss_nil)
      (pss_one (ps_ret (pv 2)))))), ?_⟩
    have isL : ∀ H', Same H H' → ∀ R : VK, (∀ H'' dF, Same H' H'' → FollowAt K H'' dF → R (.ref dF) H'') → tDc (iTup K (tTup (tCons (tC (.str "")) (StX.tStar K (tC (.ref tD)) tNil)))) (gName 3) tYes (tVar 3) (tC (.ref tD)) [3] [some v, none, none, none, none, none] H' R := fun H' s' R hR => by
      refine ⟨tD, deedsL.map V.str, rfl, .inl (hT H'), ?_, fun a na => ⟨a, rfl, ⟨_, .of upd_same⟩, fun D nD => dc_tup (xs := followL.map V.str) (fun i H2 => Same H' H2 ∧ H2 a = some (.tup (followL.map V.str)) ∧ H2 D = some (.dK ((followL.take i).map fun z => (.inr z, .ref tD)))) ?_ ?_ ?_ ?_⟩⟩
      · show (V.str "" :: (deedsL.map V.str ++ [])).length ≤ sizeLine
        rw [sl]
        decide
      · have aD : a ≠ D := fun q => by rw [← q, upd_same] at nD; cases nD
        exact ⟨(same_upd na).trans (same_upd nD), by rw [upd_ne aD]; exact upd_same, upd_same⟩
      · intro i H2 _ h2
        exact .of h2.2.1
      · intro i x H2 hx h2
        obtain ⟨s2, ea, eD⟩ := h2
        rw [List.getElem?_map] at hx
        obtain ⟨z, hz, rfl⟩ := Option.map_eq_some_iff.mp hx
        have aD : a ≠ D := fun q => by rw [q, eD] at ea; cases ea
        refine ⟨rfl, _, rfl, _, .inr z, rfl, eD, ?_, fun b o q => ?_, ?_, ?_⟩
        · rw [List.length_map, List.length_take]
          have : followL.length = 6 := rfl
          omega
        · have nD2 : H' D = none := by
            cases w : H' D with
            | none => rfl
            | some o2 => rw [same_upd na _ _ w] at nD; cases nD
          rw [upd_ne (ne_of_none q nD2)]
          exact s2 _ _ q
        · rw [upd_ne aD]
          exact ea
        · rw [upd_same, put_follow i z hz]
      · intro H2 h2
        obtain ⟨s2, _, eD⟩ := h2
        refine hR H2 D s2 ⟨tD, hT _, ?_⟩
        rw [List.length_map, List.take_length] at eD
        exact eD
    rcases h with ⟨hn, bad⟩ | ⟨z, rfl, zl, ln, short, bad, good⟩
    · refine ⟨fun σ' H' => H' = H ∧ σ' = [some v, none, none, none, none, none], ?_, ?_⟩
      · refine ⟨_, rfl, e, "", rfl, hd, _, rfl, ite2 (fun q => ?_) (fun _ => ⟨rfl, rfl⟩)⟩
        rw [eqS_of q] at hn
        cases hn
      rintro σ1 H1 ⟨rfl, rfl⟩
      refine ⟨fun _ _ => False, ?_, fun _ _ q => q.elim⟩
      refine ⟨_, rfl, ?_⟩
      refine cons_c (cons_1 ?_)
      refine isL H1 (Same.refl _) _ fun H2 dF s2 fo => ?_
      exact ⟨_, _, _, rfl, hd.same s2, fo, .inl ⟨hn, fun H3 s3 => bad H3 (s2.trans s3)⟩⟩
    cases hd
    by_cases z0 : z = ""
    · subst z0
      refine ⟨fun _ _ => False, ?_, fun _ _ q => q.elim⟩
      refine ⟨_, rfl, .str "", "", rfl, .str _, _, rfl, ite2 (fun _ => ?_) (fun q => absurd rfl q)⟩
      refine ⟨Nat.zero_le _, fun a na => good [] rfl _ _ (same_upd na) (.tup (.of upd_same) .nil)⟩
    refine ⟨fun σ' H' => H' = H ∧ σ' = [some (.str z), none, none, none, none, none], ?_, ?_⟩
    · refine ⟨_, rfl, .str z, "", rfl, .str _, _, rfl, ite2 (fun q => ?_) (fun _ => ⟨rfl, rfl⟩)⟩
      rw [eqS_str] at q
      exact absurd (of_decide_eq_true q) z0
    rintro σ1 H1 ⟨rfl, rfl⟩
    have du : dueZ z = dueOf (linesL z) := if_neg z0
    rw [du] at bad good
    refine ⟨fun σ' H' => ∃ l rs, σ' = [some (.str z), some (.ref l), none, none, none, none] ∧ Same H1 H' ∧ H' l = some (.lst rs) ∧ Paired (OneRow K H') rs ((linesL z).filterMap lineOf) ∧ firstBad ((linesL z).map lineOf) = none, ?_, ?_⟩
    · refine ⟨_, rfl, ?_⟩
      refine cons_c (cons_1 ?_)
      refine isL H1 (Same.refl _) _ fun H2 dF s2 fo => ?_
      refine ⟨_, _, _, rfl, .str z, fo, .inr ⟨z, rfl, zl, ln, short, fun n hn H3 dd s3 ed => ?_, fun hn H3 l rs s3 el pr => ⟨l, rs, rfl, s2.trans s3, el, pr, hn⟩⟩⟩
      refine bad n ?_ H3 dd (s2.trans s3) ed
      unfold dueOf
      rw [hn]
    rintro σ2 H2 ⟨l, rs, rfl, s2, el, pr, fb⟩
    have dg := due_good fb
    obtain ⟨ys, dy, rl, rg⟩ := rows_data pr
    have rsl : rs.length = (linesL z).length := by rw [pr.length, good_len fb]
    refine ⟨fun σ' H' => ∃ T, σ' = [some (.str z), some (.ref l), some (.ref T), none, none, none] ∧ Same H2 H' ∧ Dv K H' (.ref T) (.tuple (((linesL z).filterMap lineOf).map DeedV.data)), ?_, ?_⟩
    · refine ⟨_, rfl, l, rfl, ⟨_, .of el⟩, fun D nD => lc_map (walk_list (xs := rs)) (xs := rs) (fun i => ys[i]?) (fun i _ _ _ hi hy => hy) nD (fun H' s => .of (s _ _ el)) (by omega) (fun i y H' R hi hy s hR => ?_) (fun H' s eD => ?_)⟩
      · obtain ⟨t, w, x, rfl, et, hx⟩ := rg i y hy
        exact ⟨t, _, rfl, .of (s _ _ et), rfl, _, _, rfl, _, _, rfl, _, _, rfl, rfl, rfl, _, rfl, hR _ _ hx.symm (Same.refl _)⟩
      · rw [rl, fm_get] at eD
        exact ⟨D, _, rfl, .inl ⟨.of eD, fun T nT => ⟨T, rfl, s.trans (same_upd nT), .tup (.of upd_same) (DvAll.same (s.trans (same_upd nT)) _ _ dy)⟩⟩⟩
    rintro σ3 H3 ⟨T, rfl, s3, dT⟩
    have blk : (PyData.tuple (((linesL z).filterMap lineOf).map DeedV.data)).bulk ≤ 100000 := by
      have := text_bulk (z := z)
      show PyData.bulkAll _ ≤ _
      omega
    refine ⟨fun σ' H' => σ' = [some (.str z), some (.ref l), some (.ref T), none, none, none] ∧ Same H3 H' ∧ isHistD (.tuple (((linesL z).filterMap lineOf).map DeedV.data)) = true, ?_, ?_⟩
    · refine ⟨_, rfl, _, _, rfl, dT, blk, fun H4 s4 => ⟨_, rfl, ?_⟩⟩
      cases e : isHistD (.tuple (((linesL z).filterMap lineOf).map DeedV.data)) with
      | true => exact ite2 (fun q => by cases q) (fun _ => ⟨rfl, s4, rfl⟩)
      | false =>
        rw [e, if_neg (by decide)] at dg
        refine ite2 (fun _ => ?_) (fun q => absurd rfl q)
        have el4 := s4 _ _ (s3 _ _ el)
        refine ⟨_, rfl, l, rs, rfl, .inl (.of el4), fun H7 a dx s7 na nd ne' ea ed => ⟨a, CP, some dx, rfl, ea, none_back (((s2.trans s3).trans s4)) na, raises_own xN.hsub xN.ty, bad _ dg _ dx (same_off ((((s2.trans s3).trans s4)).trans s7) (none_back ((s2.trans s3).trans s4) na)) (by rw [delH_ne ne', ed, rsl])⟩⟩
    rintro σ4 H4 ⟨rfl, s4, e⟩
    rw [e, if_pos rfl] at dg
    exact ⟨_, rfl, good _ dg H4 _ ((s2.trans s3).trans s4) (dT.same s4)⟩
end
end K0
end
/-! ### LW1 -/
section
set_option Elab.async false
set_option linter.all false
set_option maxRecDepth 100000
set_option maxHeartbeats 4000000
/-! _law_word, _law_path, _law_deed. -/
namespace K0
open PySem PySem.Spec PyProof.Rows L2
theorem cd_glued : ∀ ws : List Str, cd (Builtin.Str.glued ("" : Str) ws) = (ws.map cd).flatten := by
  have go : ∀ (ws : List Str) (acc : Array Nat), (ws.foldl (fun acc p => acc ++ ("" : Str).cps ++ p.cps) acc).toList = acc.toList ++ (ws.map cd).flatten := by
    intro ws
    induction ws with
    | nil => intro acc; simp
    | cons w ws ih =>
      intro acc
      rw [List.foldl_cons, ih, List.map_cons, List.flatten_cons, Array.toList_append, Array.toList_append, List.append_assoc, List.append_assoc]
      rfl
  intro ws
  cases ws with
  | nil => rfl
  | cons w ws =>
    show (ws.foldl (fun acc p => acc ++ ("" : Str).cps ++ p.cps) w.cps).toList = _
    rw [go, List.map_cons, List.flatten_cons]
    rfl
abbrev lwordN : List Str := ["dice", "upto", "turn"]
theorem scLWord : FnScope lwordN ["dice", "upto"] (defScope (top iLWord)) := ⟨rfl, rfl, rfl, by decide +kernel, rfl, by decide +kernel, by decide +kernel⟩
def spLWord : Sp := fun vs H Q _ => ∃ (p : Addr) (n : Nat), vs = [.ref p, .int (n : Nat)] ∧ Dice p H ∧ n ≤ 100 ∧ ∀ H' z, Keep p H H' → sgAll z = true → z.length ≤ n → Q (.str z) H'
def rangeV (n : Nat) : List V := (List.range n).map fun (i : Nat) => V.int (0 + (i : Nat))
theorem range_y {n : Nat} {i : Nat} {H H' : Hp} {x : V} (hi : i < n) (h : YFn (fun i => .int (0 + (i : Nat))) i H x H') : H' = H ∧ (rangeV n)[i]? = some x := by
  obtain ⟨rfl, rfl⟩ := h
  refine ⟨rfl, ?_⟩
  unfold rangeV
  rw [List.getElem?_map, List.getElem?_range hi]
  rfl
theorem all_one {j c : Nat} (h : (cd allSigns)[j]? = some c) : sgB c = true := by
  unfold sgB
  have := List.mem_of_getElem? h
  rw [Array.contains_iff_mem]
  exact Array.mem_toList_iff.mp this
section
variable {P : Program} {w : World} {K : PySem.W.Frag} {mg : Str → Option Value} {base : Heap} {f fR fO fA fW : Addr} {fd fdR fdO fdA fdW : FuncData}
theorem ok_lword {k : Nat} (F : FnP K "_law_word" iLWord f fd) (mrange : mg "range" = none)
    (FR : FnOk P w K mg base CX0 (k + 2) fR fdR ["dice", "total"] spRoll) (gR : mg "_law_roll" = some (.ref fR)) (kR : PySem.W.keepIn K (.ref fR) = true) (bR : Binds K fdR ["dice", "total"] [])
    (FO : FnOk P w K mg base CX0 (k + 2) fO fdO ["dice", "items"] (spOne K)) (gO : mg "_law_one_of" = some (.ref fO)) (kO : PySem.W.keepIn K (.ref fO) = true) (bO : Binds K fdO ["dice", "items"] [])
    (FA : FnOk P w K mg base CX0 (k + 2) fA fdA [] spAll) (gA : mg "_law_all_signs" = some (.ref fA)) (kA : PySem.W.keepIn K (.ref fA) = true) (bA : Binds K fdA [] []) :
    FnOk P w K mg base CX0 (k + 3) f fd ["dice", "upto"] spLWord := by
  refine F.ok scLWord (fun vs H Q E h => ?_) (fun cdv A outer s H vs Q E hr h => ?_)
  · obtain ⟨p, n, rfl, _⟩ := h
    rfl
  · obtain ⟨p, n, rfl, ⟨a, b, c, hp⟩, n100, q⟩ := h
    have sl : sizeLine = 16777216 := sizeLine_eq
    refine ⟨_, PSs.nox (pss_one (ps_ret (pe_join pe_str (pe_lc (own := [("turn", 2)]) (g := gName 2) (tt := tYes) rfl scLWord.nd (pi_range1 (by rfl) mrange (pa_cons (pe_call FR hr (by rfl) gR kR bR .nil pass0 (pa_cons (pv 0) (pa_cons (pe_op op_add (pv 1) pe_int) pa_nil))) pa_nil)) (blkOk_by (N := lwordN) (sc := defScope (top iLWord)) (by decide +kernel))
      (fun _ _ _ _ _ => pg_name (i := 2) scLWord.nd rfl (Or.inl rfl)) (fun _ _ _ _ _ => pts_nil) (fun _ _ _ _ _ => pe_call FO hr (by rfl) gO kO bO .nil pass0 (pa_cons (pv 0) (pa_cons (pe_call0 FA hr (by rfl) gA kA bA .nil pass0) pa_nil))))))), ?_⟩
    refine ⟨⟨_, rfl⟩, _, rfl, _, rfl, _, _, rfl, rfl, p, a, b, c, _, rfl, hp, ?_, fun a' b' c' r r0 r1 => ?_⟩
    · exact len_div (n := n + 1) (by omega) (by omega)
    have kk := Keep.dice (H := H) (p := p) a' b' c'
    refine ⟨r, rfl, by omega, by omega, fun D nD => lc_draw (walk_range (lo := 0) (n := r.toNat)) (xs := rangeV r.toNat) (fun y _ => ∃ c, y = V.str ⟨#[c]⟩ ∧ sgB c = true) (fun i H x H' hi h => range_y hi h) ⟨a', b', c', upd_same⟩ nD (fun _ _ => trivial) (by omega) (fun y H' H'' _ g => g) (fun i y H' R S hi hy k1 hR => ?_) (fun H' ys k1 eD Dp yl gd => ?_)⟩
    · obtain ⟨a2, b2, c2, hp2⟩ := k1.2
      refine ⟨rfl, _, rfl, rfl, p, a2, b2, c2, _, _, rfl, hp2, .inr ⟨allSigns, rfl, by decide +kernel, rfl⟩, by decide +kernel, by decide +kernel, fun _ _ _ => .inr ⟨allSigns, rfl, by decide +kernel, rfl⟩, fun a3 b3 c3 j x hx => hR _ _ ?_ (.dice a3 b3 c3)⟩
      rw [List.getElem?_map] at hx
      obtain ⟨cc, hc, rfl⟩ := Option.map_eq_some_iff.mp hx
      exact ⟨cc, rfl, all_one hc⟩
    · have ex : ∃ cs : List Nat, ys = (cs.map fun c => (⟨#[c]⟩ : Str)).map V.str ∧ cs.all sgB = true ∧ cs.length = ys.length := by
        clear yl eD
        induction ys with
        | nil => exact ⟨[], rfl, rfl, rfl⟩
        | cons y ys ih =>
          obtain ⟨cs, e1, e2, e3⟩ := ih fun y h => gd y (List.mem_cons_of_mem _ h)
          obtain ⟨c, e4, e5⟩ := gd y List.mem_cons_self
          refine ⟨c :: cs, ?_, ?_, by rw [List.length_cons, List.length_cons, e3]⟩
          · rw [e4, List.map_cons, List.map_cons, ← e1]
          · rw [List.all_cons, e5, e2]; rfl
      obtain ⟨cs, rfl, call, cl⟩ := ex
      have cz : cd (Txt.join ("" : Str) (cs.map fun c => (⟨#[c]⟩ : Str))) = cs := by
        show cd (Builtin.Str.glued ("" : Str) _) = _
        rw [cd_glued, List.map_map]
        clear call cl eD gd yl
        induction cs with
        | nil => rfl
        | cons c cs ih =>
          rw [List.map_cons, List.flatten_cons, ih]
          rfl
      have sm : (((cs.map fun c => (⟨#[c]⟩ : Str)).map (·.length)).sum : Nat) = cs.length := by
        clear cz call cl eD gd yl
        induction cs with
        | nil => rfl
        | cons c cs ih =>
          rw [List.map_cons, List.map_cons, List.sum_cons, ih, List.length_cons]
          show 1 + _ = _
          omega
      refine ⟨"", D, _, rfl, rfl, .inl (.of eD), ?_, q H' _ (kk.trans k1) ?_ ?_⟩
      · rw [sm]
        show cs.length + _ * 0 ≤ 16777216
        omega
      · rw [sgAll_cd, cz]
        exact call
      · rw [← cd_len, cz]
        omega
end
end K0
end
/-! ### LW2 -/
section
set_option Elab.async false
set_option linter.all false
set_option maxRecDepth 100000
set_option maxHeartbeats 4000000
/-! _law_path, _law_deed. -/
namespace K0
open PySem PySem.Spec PyProof.Rows L2
theorem scLPath : FnScope ["dice"] ["dice"] (defScope (top iLPath)) := ⟨rfl, rfl, rfl, by decide +kernel, rfl, by decide +kernel, by decide +kernel⟩
def spLPath : Sp := fun vs H Q _ => ∃ (p : Addr), vs = [.ref p] ∧ Dice p H ∧ ∀ H' z, Keep p H H' → pathS z = true → Q (.str z) H'
theorem path_app {z : Str} (h : sgAll z = true) (l : z.length ≤ 11) : pathS (z ++ "a") = true := by
  have e : (z ++ ("a" : Str)).length = z.length + 1 := by
    rw [← cd_len, cd_app, List.length_append, cd_len]
    rfl
  have e2 : sgAll (z ++ "a") = true := by
    rw [sgAll_cd, cd_app, List.all_append, ← sgAll_cd, h]
    decide +kernel
  unfold pathS
  rw [e, e2, decide_eq_true (by omega), decide_eq_true (by omega)]
  rfl
theorem path_len {z : Str} (h : pathS z = true) : z.length ≤ 12 := by
  unfold pathS at h
  obtain ⟨_, h⟩ := Bool.and_eq_true_iff.mp h
  exact of_decide_eq_true (Bool.and_eq_true_iff.mp h).2
abbrev ldeedN : List Str := ["dice", "way", "turn"]
theorem scLDeed : FnScope ldeedN ["dice"] (defScope (top iLDeed)) := ⟨rfl, rfl, rfl, by decide +kernel, rfl, by decide +kernel, by decide +kernel⟩
def spLDeed (K : PySem.W.Frag) : Sp := fun vs H Q _ => ∃ (p : Addr), vs = [.ref p] ∧ Dice p H ∧ ∀ H' x (d : DeedV), Keep p H H' → Dv K H' x d.data → d.ok = true → d.data.bulk ≤ 100 → Q x H'
theorem one_lst {K : PySem.W.Frag} {p l : Addr} {H : Hp} {xs : List V} {Q : VK} (D0 : Dice p H) (nl : H l = none) (ne : xs ≠ []) (len : xs.length ≤ 1000) (q : ∀ H' x, x ∈ xs → Keep p H H' → Q x H') : spOne K [.ref p, .ref l] (upd H l (.lst xs)) Q (fun _ _ _ => False) := by
  obtain ⟨a, b, c, hp⟩ := D0
  have npl : p ≠ l := ne_of_none hp nl
  exact ⟨p, a, b, c, _, xs, rfl, by rw [upd_ne npl]; exact hp, .inl ⟨l, rfl, .inl (.of upd_same)⟩, ne, by rw [sizeLine_eq]; omega, fun a' b' c' => .inl ⟨l, rfl, .inl (.of (by rw [upd_ne npl.symm, upd_same]))⟩, fun a1 b1 c1 i x hx => q _ x (List.mem_of_getElem? hx) ((Keep.new hp nl).trans (.dice a1 b1 c1))⟩
theorem Keep.at {p : Addr} {H H' : Hp} (k : Keep p H H') : Dice p H' := k.2
section
variable {P : Program} {w : World} {K : PySem.W.Frag} {mg : Str → Option Value} {base : Heap} {f fR fO fP fW : Addr} {fd fdR fdO fdP fdW : FuncData}
theorem ok_lpath {k : Nat} (F : FnP K "_law_path" iLPath f fd)
    (FO : FnOk P w K mg base CX0 (k + 3) fO fdO ["dice", "items"] (spOne K)) (gO : mg "_law_one_of" = some (.ref fO)) (kO : PySem.W.keepIn K (.ref fO) = true) (bO : Binds K fdO ["dice", "items"] [])
    (FW : FnOk P w K mg base CX0 (k + 3) fW fdW ["dice", "upto"] spLWord) (gW : mg "_law_word" = some (.ref fW)) (kW : PySem.W.keepIn K (.ref fW) = true) (bW : Binds K fdW ["dice", "upto"] []) :
    FnOk P w K mg base CX0 (k + 4) f fd ["dice"] spLPath := by
  refine F.ok scLPath (fun vs H Q E h => ?_) (fun cdv A outer s H vs Q E hr h => ?_)
  · obtain ⟨p, rfl, _⟩ := h
    rfl
  · obtain ⟨p, rfl, D0, q⟩ := h
    have sl : sizeLine = 16777216 := sizeLine_eq
    refine ⟨_, PSs.nox (pss_one (ps_ret (pe_call FO hr (by rfl) gO kO bO .nil pass0 (pa_cons (pv 0) (pa_cons (pe_lst (pa_cons pe_str (pa_cons pe_str (pa_cons pe_str (pa_cons (pe_op op_add_str (pe_call FW hr (by rfl) gW kW bW .nil pass0 (pa_cons (pv 0) (pa_cons pe_int pa_nil))) pe_str) (pa_cons (pe_op op_strMul pe_str pe_int) pa_nil)))))) pa_nil))))), ?_⟩
    refine ⟨_, rfl, _, rfl, p, 11, rfl, D0, by decide, fun H1 z k1 zs zl => ⟨z, "a", rfl, rfl, ?_, ?_⟩⟩
    · show z.length + 1 ≤ _
      omega
    refine ⟨"_", 12, rfl, rfl, by decide, by decide, by decide, by decide, by show 5 ≤ sizeLine; omega, fun l nl => one_lst k1.at nl (List.cons_ne_nil _ _) (by show 5 ≤ 1000; decide) fun H2 x hx k2 => ?_⟩
    have fin : ∀ z, x = .str z → pathS z = true → Q x H2 := fun z e pz => by
      rw [e]
      exact q H2 z (k1.trans k2) pz
    rcases List.mem_cons.mp hx with e | hx
    · exact fin _ e (by decide +kernel)
    rcases List.mem_cons.mp hx with e | hx
    · exact fin _ e (by decide +kernel)
    rcases List.mem_cons.mp hx with e | hx
    · exact fin _ e (by decide +kernel)
    rcases List.mem_cons.mp hx with e | hx
    · exact fin _ e (path_app zs zl)
    · exact fin _ (List.mem_singleton.mp hx) (by decide +kernel)
theorem ok_ldeed {k : Nat} (F : FnP K "_law_deed" iLDeed f fd) (mrange : mg "range" = none) (mtuple : mg "tuple" = none)
    (FR : FnOk P w K mg base CX0 (k + 4) fR fdR ["dice", "total"] spRoll) (gR : mg "_law_roll" = some (.ref fR)) (kR : PySem.W.keepIn K (.ref fR) = true) (bR : Binds K fdR ["dice", "total"] [])
    (FO : FnOk P w K mg base CX0 (k + 4) fO fdO ["dice", "items"] (spOne K)) (gO : mg "_law_one_of" = some (.ref fO)) (kO : PySem.W.keepIn K (.ref fO) = true) (bO : Binds K fdO ["dice", "items"] [])
    (FW : FnOk P w K mg base CX0 (k + 4) fW fdW ["dice", "upto"] spLWord) (gW : mg "_law_word" = some (.ref fW)) (kW : PySem.W.keepIn K (.ref fW) = true) (bW : Binds K fdW ["dice", "upto"] [])
    (FP : FnOk P w K mg base CX0 (k + 4) fP fdP ["dice"] spLPath) (gP : mg "_law_path" = some (.ref fP)) (kP : PySem.W.keepIn K (.ref fP) = true) (bP : Binds K fdP ["dice"] []) :
    FnOk P w K mg base CX0 (k + 5) f fd ["dice"] (spLDeed K) := by
  refine F.ok scLDeed (fun vs H Q E h => ?_) (fun cdv A outer s H vs Q E hr h => ?_)
  · obtain ⟨p, rfl, _⟩ := h
    rfl
  · obtain ⟨p, rfl, D0, q⟩ := h
    have sl : sizeLine = 16777216 := sizeLine_eq
    refine ⟨_, PSs.nox (C8.pss_cut (ps_set (i := 1) scLDeed.nd rfl (.inl rfl) (pe_call FR hr (by rfl) gR kR bR .nil pass0 (pa_cons (pv 0) (pa_cons pe_int pa_nil))))
      (C8.pss_cut (ps_if (pt_cmpR op_eq (pv 1) pe_int (nomark _)) (pss_one (ps_ret (pe_tup (pa_cons pe_str (pa_cons (pe_call FO hr (by rfl) gO kO bO .nil pass0 (pa_cons (pv 0) (pa_cons (pe_lst (pa_cons pe_str (pa_cons pe_str (pa_cons pe_str (pa_cons pe_str (pa_cons pe_str pa_nil)))))) pa_nil))) pa_nil))))) pss_nil)
      (C8.pss_cut (ps_if (pt_cmpR op_eq (pv 1) pe_int (nomark _)) (pss_one (ps_ret (pe_tup (pa_cons pe_str (pa_cons (pe_call FP hr (by rfl) gP kP bP .nil pass0 (pa_cons (pv 0) pa_nil)) (pa_cons (pe_call FW hr (by rfl) gW kW bW .nil pass0 (pa_cons (pv 0) (pa_cons (pe_call FO hr (by rfl) gO kO bO .nil pass0 (pa_cons (pv 0) (pa_cons (pe_lst (pa_cons pe_int (pa_cons pe_int (pa_cons pe_int pa_nil)))) pa_nil))) pa_nil))) pa_nil)))))) pss_nil)
      (C8.pss_cut (ps_if (pt_cmpR op_eq (pv 1) pe_int (nomark _)) (pss_one (ps_ret (pe_tup (pa_cons pe_str (pa_cons (pe_call FP hr (by rfl) gP kP bP .nil pass0 (pa_cons (pv 0) pa_nil)) (pa_cons (pe_call FP hr (by rfl) gP kP bP .nil pass0 (pa_cons (pv 0) pa_nil)) pa_nil)))))) pss_nil)
      (C8.pss_cut (ps_if (pt_cmpR op_eq (pv 1) pe_int (nomark _)) (pss_one (ps_ret (pe_tup (pa_cons pe_str (pa_cons (pe_call FP hr (by rfl) gP kP bP .nil pass0 (pa_cons (pv 0) pa_nil)) (pa_cons (pe_callTy call_tuple_of (by rfl) mtuple (by decide +kernel) (pa_cons (pe_lc (own := [("turn", 2)]) (g := gName 2) (tt := tYes) rfl scLDeed.nd (pi_range1 (by rfl) mrange (pa_cons (pe_call FR hr (by rfl) gR kR bR .nil pass0 (pa_cons (pv 0) (pa_cons pe_int pa_nil))) pa_nil)) (blkOk_by (N := ldeedN) (sc := defScope (top iLDeed)) (by decide +kernel))
          (fun _ _ _ _ _ => pg_name (i := 2) scLDeed.nd rfl (Or.inl rfl)) (fun _ _ _ _ _ => pts_nil) (fun _ _ _ _ _ => pe_call FW hr (by rfl) gW kW bW .nil pass0 (pa_cons (pv 0) (pa_cons pe_int pa_nil)))) pa_nil)) pa_nil)))))) pss_nil)
      (pss_one (ps_ret (pe_tup (pa_cons pe_str (pa_cons (pe_call FP hr (by rfl) gP kP bP .nil pass0 (pa_cons (pv 0) pa_nil)) pa_nil)))))))))), ?_⟩
    obtain ⟨a, b, c, hp⟩ := id D0
    refine ⟨fun σ' H' => ∃ r : Int, σ' = [some (.ref p), some (.int r), none] ∧ Keep p H H', ?_, ?_⟩
    · refine ⟨_, rfl, p, a, b, c, _, rfl, hp, len_div (n := 5) (by decide) (by omega), fun a' b' c' r _ _ => ⟨r, rfl, .dice a' b' c'⟩⟩
    rintro σ1 H1 ⟨r, rfl, k1⟩
    refine ⟨fun σ' H' => H' = H1 ∧ σ' = [some (.ref p), some (.int r), none], ?_, ?_⟩
    · refine ⟨_, rfl, rfl, _, rfl, ite2 (fun _ => ?_) (fun _ => ⟨rfl, rfl⟩)⟩
      refine ⟨_, rfl, by show 5 ≤ sizeLine; omega, fun l nl => one_lst k1.at nl (List.cons_ne_nil _ _) (by show 5 ≤ 1000; decide) fun H2 x hx k2 => ?_⟩
      have ex : ∃ z, x = .str z ∧ nameS z = true ∧ z.length ≤ 8 := by
        rcases List.mem_cons.mp hx with e | hx
        · exact ⟨_, e, by decide, by decide⟩
        rcases List.mem_cons.mp hx with e | hx
        · exact ⟨_, e, by decide, by decide⟩
        rcases List.mem_cons.mp hx with e | hx
        · exact ⟨_, e, by decide, by decide⟩
        rcases List.mem_cons.mp hx with e | hx
        · exact ⟨_, e, by decide, by decide⟩
        · exact ⟨_, List.mem_singleton.mp hx, by decide, by decide⟩
      obtain ⟨z, rfl, zn, zl⟩ := ex
      refine ⟨by show 2 ≤ sizeLine; omega, fun t nt => q _ _ (.use z) ((k1.trans k2).new2 nt) (.tup (.of upd_same) (.cons (.str _) (.cons (.str _) .nil))) zn ?_⟩
      show 3 + 1 + (z.length + 1 + 0) ≤ 100
      omega
    rintro σ2 H2 ⟨rfl, rfl⟩
    refine ⟨fun σ' H' => H' = H2 ∧ σ' = [some (.ref p), some (.int r), none], ?_, ?_⟩
    · refine ⟨_, rfl, rfl, _, rfl, ite2 (fun _ => ?_) (fun _ => ⟨rfl, rfl⟩)⟩
      refine ⟨_, rfl, p, rfl, k1.at, fun H3 z1 k3 pz1 => ?_⟩
      refine ⟨_, rfl, _, rfl, by show 3 ≤ sizeLine; omega, fun l nl => one_lst k3.at nl (List.cons_ne_nil _ _) (by show 3 ≤ 1000; decide) fun H4 x hx k4 => ?_⟩
      have ex : ∃ n : Nat, x = .int (n : Nat) ∧ n ≤ 30 := by
        rcases List.mem_cons.mp hx with e | hx
        · exact ⟨0, e, by decide⟩
        rcases List.mem_cons.mp hx with e | hx
        · exact ⟨3, e, by decide⟩
        · exact ⟨30, List.mem_singleton.mp hx, by decide⟩
      obtain ⟨n, rfl, n30⟩ := ex
      refine ⟨p, n, rfl, k4.at, by omega, fun H5 z2 k5 sz2 zl2 => ⟨by show 3 ≤ sizeLine; omega, fun t nt => q _ _ (.put z1 z2) ((((k1.trans k3).trans k4).trans k5).new2 nt) (.tup (.of upd_same) (.cons (.str _) (.cons (.str _) (.cons (.str _) .nil)))) ?_ ?_⟩⟩
      · show (pathS z1 && sgAll z2) = true
        rw [pz1, sz2]
        rfl
      · have := path_len pz1
        show 3 + 1 + (z1.length + 1 + (z2.length + 1 + 0)) ≤ 100
        omega
    rintro σ3 H3 ⟨rfl, rfl⟩
    refine ⟨fun σ' H' => H' = H3 ∧ σ' = [some (.ref p), some (.int r), none], ?_, ?_⟩
    · refine ⟨_, rfl, rfl, _, rfl, ite2 (fun _ => ?_) (fun _ => ⟨rfl, rfl⟩)⟩
      refine ⟨_, rfl, p, rfl, k1.at, fun H4 z1 k4 pz1 => ⟨_, rfl, p, rfl, k4.at, fun H5 z2 k5 pz2 => ?_⟩⟩
      refine ⟨by show 3 ≤ sizeLine; omega, fun t nt => q _ _ (.move z1 z2) (((k1.trans k4).trans k5).new2 nt) (.tup (.of upd_same) (.cons (.str _) (.cons (.str _) (.cons (.str _) .nil)))) ?_ ?_⟩
      · show (pathS z1 && pathS z2) = true
        rw [pz1, pz2]
        rfl
      · have := path_len pz1
        have := path_len pz2
        show 4 + 1 + (z1.length + 1 + (z2.length + 1 + 0)) ≤ 100
        omega
    rintro σ4 H4 ⟨rfl, rfl⟩
    refine ⟨fun σ' H' => H' = H4 ∧ σ' = [some (.ref p), some (.int r), none], ?_, ?_⟩
    · refine ⟨_, rfl, rfl, _, rfl, ite2 (fun _ => ?_) (fun _ => ⟨rfl, rfl⟩)⟩
      refine ⟨_, rfl, p, rfl, k1.at, fun H5 z1 k5 pz1 => ?_⟩
      obtain ⟨a5, b5, c5, hp5⟩ := k5.at
      refine ⟨_, rfl, p, a5, b5, c5, _, rfl, hp5, len_div (n := 4) (by decide) (by omega), fun a' b' c' r2 r0 r1 => ?_⟩
      have kk := Keep.dice (H := H5) (p := p) a' b' c'
      refine ⟨r2, rfl, by omega, by omega, fun D nD => lc_draw (walk_range (lo := 0) (n := r2.toNat)) (xs := rangeV r2.toNat) (fun y _ => ∃ z, y = V.str z ∧ sgAll z = true ∧ z.length ≤ 3) (fun i H x H' hi h => range_y hi h) ⟨a', b', c', upd_same⟩ nD (fun _ _ => trivial) (by omega) (fun y H' H'' _ g => g) (fun i y H' R S hi hy k1 hR => ?_) (fun H' ys k6 eD Dp yl gd => ?_)⟩
      · refine ⟨rfl, _, rfl, p, 3, rfl, k1.at, by decide, fun H6 z k6 sz zl => hR _ _ ⟨z, rfl, sz, zl⟩ k6⟩
      · have ex : ∃ zs : List Str, ys = zs.map V.str ∧ zs.all sgAll = true ∧ zs.length = ys.length ∧ sumLen zs ≤ 3 * ys.length := by
          clear yl eD
          induction ys with
          | nil => exact ⟨[], rfl, rfl, rfl, Nat.le_refl _⟩
          | cons y ys ih =>
            obtain ⟨zs, e1, e2, e3, e6⟩ := ih fun y h => gd y (List.mem_cons_of_mem _ h)
            obtain ⟨z, e4, e5, e7⟩ := gd y List.mem_cons_self
            refine ⟨z :: zs, ?_, ?_, by rw [List.length_cons, List.length_cons, e3], ?_⟩
            · rw [e4, List.map_cons, ← e1]
            · rw [List.all_cons, e5, e2]; rfl
            · rw [sum_cons, List.length_cons]; omega
        obtain ⟨zs, rfl, zall, zl, zsum⟩ := ex
        refine ⟨D, _, rfl, .inl ⟨.of eD, fun T nT => ⟨by show 3 ≤ sizeLine; omega, fun t nt => ?_⟩⟩⟩
        have sT := same_upd (o := .tup [.str "take", .str z1, .ref T]) nt
        refine q _ _ (.take z1 zs) (((((k1.trans k5).trans kk).trans k6).new2 nT).new2 nt) (.tup (.of upd_same) (.cons (.str _) (.cons (.str _) (.cons (.tup (.of (sT _ _ upd_same)) (dv_strs _)) .nil)))) ?_ ?_
        · show (pathS z1 && zs.all sgAll) = true
          rw [pz1, zall]
          rfl
        · have := path_len pz1
          have e2 : (PyData.tuple (zs.map PyData.str)).bulk = sumLen zs + zs.length := bulk_strs _
          show 4 + 1 + (z1.length + 1 + ((PyData.tuple (zs.map PyData.str)).bulk + 1 + 0)) ≤ 100
          rw [e2]
          omega
    rintro σ5 H5 ⟨rfl, rfl⟩
    refine ⟨_, rfl, p, rfl, k1.at, fun H6 z1 k6 pz1 => ⟨by show 2 ≤ sizeLine; omega, fun t nt => q _ _ (.store z1) ((k1.trans k6).new2 nt) (.tup (.of upd_same) (.cons (.str _) (.cons (.str _) .nil))) pz1 ?_⟩⟩
    have := path_len pz1
    show 5 + 1 + (z1.length + 1 + 0) ≤ 100
    omega
end
end K0
end
/-! ### LW3 -/
section
set_option Elab.async false
set_option linter.all false
set_option maxRecDepth 100000
set_option maxHeartbeats 4000000
/-! _law_line. -/
namespace K0
open PySem PySem.Spec PyProof.Rows L2
abbrev llineN : List Str := ["deed", "texts", "text"]
theorem scLLine : FnScope llineN ["deed"] (defScope (top iLLine)) := ⟨rfl, rfl, rfl, by decide +kernel, rfl, by decide +kernel, by decide +kernel⟩
def spLLine (K : PySem.W.Frag) : Sp := fun vs H Q _ => ∃ (v : V) (d : DeedV), vs = [v] ∧ Dv K H v d.data ∧ d.data.bulk ≤ 16000 ∧ ∀ H', Same H H' → Q (.str (lineD d)) H'
theorem deed_shape (d : DeedV) : (∃ n, d = .use n) ∨ (∃ p ts, d = .take p ts) ∨ (∃ (word told : Str) (zs : List Str), word ≠ "use" ∧ word ≠ "take" ∧ d.words = word :: eqw told :: zs.map eqw ∧ d.data = .tuple (.str word :: .str told :: zs.map PyData.str)) := by
  cases d with
  | use n => exact .inl ⟨n, rfl⟩
  | take p ts => exact .inr (.inl ⟨p, ts, rfl⟩)
  | store p => exact .inr (.inr ⟨"store", p, [], by decide, by decide, rfl, rfl⟩)
  | put p t => exact .inr (.inr ⟨"put", p, [t], by decide, by decide, rfl, rfl⟩)
  | move p t => exact .inr (.inr ⟨"move", p, [t], by decide, by decide, rfl, rfl⟩)
theorem line_use (n : Str) : lineD (.use n) = ("use " : Str) ++ n := by
  apply cd_inj
  unfold lineD
  rw [txt_join, cd_join, cd_app]
  rfl
theorem cut1 (x : V) (xs : List V) : cutV (x :: xs) (some 1) none = xs := by
  unfold cutV
  rw [HT.sIx_none, show HT.sIx (x :: xs).length 0 (some 1) = min 1 (x :: xs).length from HT.sIx_nat _ _ 1, List.length_cons, Nat.min_eq_left (by omega)]
  show xs.take (xs.length + 1 - 1) = xs
  rw [Nat.add_sub_cancel, List.take_length]
theorem ne_str {a b : Str} (h : a ≠ b) : decide (V.str a = V.str b) = false := decide_eq_false fun e => h (by injection e)
section
variable {P : Program} {w : World} {K : PySem.W.Frag} {mg : Str → Option Value} {base : Heap} {f : Addr} {fd : FuncData}
theorem ok_lline {k : Nat} (F : FnP K "_law_line" iLLine f fd) (mlist : mg "list" = none) : FnOk P w K mg base CX0 (k + 1) f fd ["deed"] (spLLine K) := by
  refine F.ok scLLine (fun vs H Q E h => ?_) (fun cdv A outer s H vs Q E hr h => ?_)
  · obtain ⟨v, d, rfl, _⟩ := h
    rfl
  · obtain ⟨v, d, rfl, hd, sz, q⟩ := h
    have sl : sizeLine = 16777216 := sizeLine_eq
    refine ⟨_, PSs.nox (C8.pss_cut (ps_if (pt_cmpR op_eq (pe_ix ix_tup (pv 0) pe_int (fun _ _ => rfl)) pe_str (nomark _)) (pss_one (ps_ret (pe_op op_add_str pe_str (pe_ix ix_tup (pv 0) pe_int (fun _ _ => rfl))))) pss_nil)
      (C8.pss_cut (ps_set (i := 1) scLLine.nd rfl (.inl rfl) (pe_callTy call_list_of (by rfl) mlist (by decide +kernel) (pa_cons (pe_slice sl_tupA (pv 0) (po_some pe_int) po_none) pa_nil)))
      (C8.pss_cut (ps_if (pt_cmpR op_eq (pe_ix ix_tup (pv 0) pe_int (fun _ _ => rfl)) pe_str (nomark _)) (pss_one (ps_set (i := 1) scLLine.nd rfl (.inl rfl) (pe_op op_cat (pe_lst (pa_cons (pe_ix ix_tup (pv 0) pe_int (fun _ _ => rfl)) pa_nil)) (pe_callTy call_list_of (by rfl) mlist (by decide +kernel) (pa_cons (pe_ix ix_tup (pv 0) pe_int (fun _ _ => rfl)) pa_nil))))) pss_nil)
      (pss_one (ps_ret (pe_join pe_str (pe_op op_cat (pe_lst (pa_cons (pe_ix ix_tup (pv 0) pe_int (fun _ _ => rfl)) pa_nil)) (pe_lc (own := [("text", 2)]) (g := gName 2) (tt := tYes) rfl scLLine.nd (pi_list (pv 1)) (blkOk_by (N := llineN) (sc := defScope (top iLLine)) (by decide +kernel))
        (fun _ _ _ _ _ => pg_name (i := 2) scLLine.nd rfl (Or.inl rfl)) (fun _ _ _ _ _ => pts_nil) (fun _ _ _ _ _ => pe_op op_add_str pe_str (pv 2)))))))))), ?_⟩
    rcases deed_shape d with ⟨n, rfl⟩ | hsh
    · refine ⟨fun _ _ => False, ?_, fun _ _ z => z.elim⟩
      cases hd with
      | tup hT hA =>
      cases hA with
      | cons v1 hA =>
      cases hA with
      | cons v2 hA =>
      cases hA
      cases v1
      cases v2
      have sz : 3 + 1 + (n.length + 1 + 0) ≤ 16000 := sz
      refine ⟨_, rfl, _, _, 0, .str "use", rfl, rfl, hT, rfl, rfl, _, rfl, ite2 (fun _ => ?_) (fun z => absurd (decide_eq_true rfl) z)⟩
      refine ⟨_, rfl, _, _, 1, .str n, rfl, rfl, hT, rfl, _, _, rfl, rfl, ?_, ?_⟩
      · show 4 + n.length ≤ _
        omega
      · have q2 := q H (Same.refl H)
        rw [line_use] at q2
        exact q2
    have ex : ∃ a word told xs, v = .ref a ∧ SqT K H a (.str word :: .str told :: xs) ∧ word ≠ "use" ∧ word.length ≤ 16000 ∧ told.length ≤ 16000 ∧
        ((word = "take" ∧ ∃ b ts, xs = [.ref b] ∧ SqT K H b (ts.map V.str) ∧ sumLen ts + ts.length ≤ 16000 ∧ d.words = word :: eqw told :: ts.map eqw) ∨ (word ≠ "take" ∧ ∃ ts : List Str, xs = ts.map V.str ∧ sumLen ts + ts.length ≤ 16000 ∧ d.words = word :: eqw told :: ts.map eqw)) := by
      rcases hsh with ⟨p, ts, rfl⟩ | ⟨word, told, zs, nu, nt, ew, ed⟩
      · cases hd with
        | tup hT hA =>
        cases hA with
        | cons v1 hA =>
        cases hA with
        | cons v2 hA =>
        cases hA with
        | cons v3 hA =>
        cases hA
        cases v1
        cases v2
        cases v3 with
        | tup uT uA =>
        rename_i a b us
        have sz2 : 4 + 1 + (p.length + 1 + ((PyData.tuple (ts.map PyData.str)).bulk + 1 + 0)) ≤ 16000 := sz
        rw [show (PyData.tuple (ts.map PyData.str)).bulk = sumLen ts + ts.length from bulk_strs ts] at sz2
        rw [dv_strs_eq uA] at uT
        exact ⟨a, "take", p, _, rfl, hT, by decide, by show 4 ≤ 16000; decide, by omega, .inl ⟨rfl, b, ts, rfl, uT, by omega, rfl⟩⟩
      · rw [ed] at hd sz
        cases hd with
        | tup hT hA =>
        cases hA with
        | cons v1 hA =>
        cases hA with
        | cons v2 hA =>
        cases v1
        cases v2
        rename_i a us
        have sz2 : word.length + 1 + (told.length + 1 + PyData.bulkAll (zs.map PyData.str)) ≤ 16000 := sz
        rw [bulk_strs] at sz2
        rw [dv_strs_eq hA] at hT
        exact ⟨a, word, told, _, rfl, hT, nu, by omega, by omega, .inr ⟨nt, zs, rfl, by omega, ew⟩⟩
    obtain ⟨a, word, told, xs, rfl, hT, nu, wl, tl, hx⟩ := ex
    refine ⟨fun σ' H' => H' = H ∧ σ' = [some (.ref a), none, none], ?_, ?_⟩
    · refine ⟨_, rfl, _, _, 0, .str word, rfl, rfl, hT, atI_nat (j := 0) rfl, rfl, _, rfl, ite2 (fun z => ?_) (fun _ => ⟨rfl, rfl⟩)⟩
      rw [ne_str nu] at z
      cases z
    rintro σ1 H1 ⟨rfl, rfl⟩
    refine ⟨fun σ' H' => ∃ l, Same H1 H' ∧ H' l = some (.lst (.str told :: xs)) ∧ σ' = [some (.ref a), some (.ref l), none], ?_, ?_⟩
    · refine ⟨_, rfl, _, rfl, a, _, rfl, hT, fun z => ?_, fun _ p np => ⟨p, _, rfl, .inr (.of upd_same), fun l nl => ⟨l, (same_upd np).trans (same_upd nl), ?_, rfl⟩⟩⟩
      · have z1 := z.1
        rw [show HT.sIx (V.str word :: V.str told :: xs).length 0 (some 1) = min 1 (V.str word :: V.str told :: xs).length from HT.sIx_nat _ _ 1, List.length_cons] at z1
        omega
      · rw [upd_same, cut1]
    rintro σ2 H2 ⟨l, s2, el, rfl⟩
    refine ⟨fun σ' H' => ∃ l ts, Same H1 H' ∧ H' l = some (.lst ((told :: ts).map V.str)) ∧ σ' = [some (.ref a), some (.ref l), none] ∧ d.words = word :: (told :: ts).map eqw ∧ sumLen ts + ts.length ≤ 16000, ?_, ?_⟩
    · refine ⟨_, rfl, _, _, 0, .str word, rfl, rfl, same_tup s2 hT, atI_nat (j := 0) rfl, rfl, _, rfl, ite2 (fun z => ?_) (fun z => ?_)⟩
      · rcases hx with ⟨rfl, b, ts, rfl, bT, bl, ew⟩ | ⟨nt, _⟩
        · refine ⟨_, rfl, _, _, 1, .str told, rfl, rfl, same_tup s2 hT, rfl, by show 1 ≤ sizeLine; omega, fun l1 n1 => ?_⟩
          have s3 := s2.trans (same_upd (o := .lst [.str told]) n1)
          refine ⟨_, rfl, _, _, 2, .ref b, rfl, rfl, same_tup s3 hT, rfl, b, _, rfl, .inr (same_tup s3 bT), fun l2 n2 => ?_⟩
          have s4 := s3.trans (same_upd (o := .lst (ts.map V.str)) n2)
          refine ⟨l1, l2, _, _, rfl, rfl, same_upd n2 _ _ upd_same, upd_same, ?_, fun l3 n3 => ⟨l3, ts, s4.trans (same_upd n3), ?_, rfl, ew, bl⟩⟩
          · show 1 + (ts.map V.str).length ≤ sizeLine
            rw [List.length_map]
            omega
          · rw [upd_same]
            rfl
        · rw [ne_str nt] at z
          cases z
      · rcases hx with ⟨rfl, _⟩ | ⟨nt, ts, rfl, bl, ew⟩
        · exact absurd (decide_eq_true rfl) z
        · exact ⟨l, ts, s2, el, rfl, ew, bl⟩
    rintro σ3 H3 ⟨l, ts, s3, el, rfl, ew, bl⟩
    have tsz : sumLen (told :: ts) ≤ 32000 ∧ (told :: ts).length ≤ 16001 := by
      rw [sum_cons, List.length_cons]
      omega
    refine ⟨⟨_, rfl⟩, _, rfl, _, _, 0, .str word, rfl, rfl, same_tup s3 hT, atI_nat (j := 0) rfl, by show 1 ≤ sizeLine; omega, fun l1 n1 => ?_⟩
    have s4 := same_upd (o := .lst [.str word]) n1
    refine ⟨_, rfl, l, rfl, ⟨_, .of (s4 _ _ el)⟩, fun D nD => lc_map (walk_list (xs := (told :: ts).map V.str)) (xs := (told :: ts).map V.str) (fun i => (((told :: ts).map eqw).map V.str)[i]?) (fun i _ _ _ hi hy => hy) nD (fun H' s => .of (s _ _ (s4 _ _ el))) (by rw [List.length_map]; omega) (fun i y H' R hi hy s hR => ?_) (fun H' s eL => ?_)⟩
    · rw [List.getElem?_map] at hy
      obtain ⟨z, hz, rfl⟩ := Option.map_eq_some_iff.mp hy
      have zl := len_mem (List.mem_of_getElem? hz)
      refine ⟨rfl, _, rfl, "=", z, rfl, rfl, ?_, hR _ _ (by rw [List.getElem?_map, List.getElem?_map, hz]; rfl) (Same.refl _)⟩
      show 1 + z.length ≤ _
      omega
    · have eF : (List.range ((told :: ts).map V.str).length).filterMap (fun i => (((told :: ts).map eqw).map V.str)[i]?) = ((told :: ts).map eqw).map V.str := by
        rw [show ((told :: ts).map V.str).length = (((told :: ts).map eqw).map V.str).length by rw [List.length_map, List.length_map, List.length_map]]
        exact fm_get _
      rw [eF] at eL
      refine ⟨l1, D, _, _, rfl, rfl, s _ _ upd_same, eL, ?_, fun l4 n4 => ⟨" ", l4, word :: (told :: ts).map eqw, rfl, rfl, .inl (.of upd_same), ?_, ?_⟩⟩
      · show 1 + (((told :: ts).map eqw).map V.str).length ≤ sizeLine
        rw [List.length_map, List.length_map]
        omega
      · have e1 : sumLen (word :: (told :: ts).map eqw) = word.length + (sumLen (told :: ts) + (told :: ts).length) := by rw [sum_cons, sum_eqw]
        show sumLen (word :: (told :: ts).map eqw) + (word :: (told :: ts).map eqw).length * 1 ≤ 16777216
        have e2 : (word :: (told :: ts).map eqw).length = ts.length + 2 := by rw [List.length_cons, List.length_map, List.length_cons]
        rw [e1, e2]
        rw [List.length_cons]
        omega
      · have q2 := q _ (((s3.trans s4).trans s).trans (same_upd (o := .lst ((word :: (told :: ts).map eqw).map V.str)) n4))
        unfold lineD at q2
        rw [ew] at q2
        exact q2
end
end K0
end
/-! ### LW4 -/
section
set_option Elab.async false
set_option linter.all false
set_option maxRecDepth 100000
set_option maxHeartbeats 4000000
/-! _law_texts_in. -/
namespace K0
open PySem PySem.Spec PyProof.Rows L2
section
variable {X : Cx}
/-- a list of anything, held against the empty one -/
def rNil (K : PySem.W.Frag) (f : Bool → Bool) : R2 := fun x y H Q => ∃ a b xs, x = .ref a ∧ y = .ref b ∧ SqL K H a xs ∧ SqL K H b [] ∧ Q (.bl (f xs.isEmpty)) H
theorem op_eqNil (hu : X.A.units + 64 < cLine) : OpR X (compareOp .Eq) (rNil X.K id) := by
  intro pins s σ H x y v u Q I rx ry h
  obtain ⟨a, b, xs, rfl, rfl, h1, h2, q⟩ := h
  cases rx
  cases ry
  obtain ⟨its, r1, p1, _⟩ := I.list h1
  obtain ⟨its2, r2, p2, _⟩ := I.list h2
  cases r2
  show wpAny _ _ (richCompare .Eq (.ref a) (.ref b)) _ _ s
  cases r1 with
  | nil => exact SeqAt.RcAt.lists (e := fun _ => true) p1.isList p2.isList rfl (by omega) (fun j h1 _ => absurd h1 (Nat.not_lt_zero _)) X.prog X.w _ _ ⟨.bl true, H, I, rfl, q⟩
  | cons r rr => exact SeqAt.RcAt.lists_lengths p1.isList p2.isList (by simp) (by omega) X.prog X.w _ _ ⟨.bl false, H, I, rfl, q⟩
theorem op_neNil (hu : X.A.units + 64 < cLine) : OpR X (compareOp .NotEq) (rNil X.K not) := by
  intro pins s σ H x y v u Q I rx ry h
  obtain ⟨a, b, xs, rfl, rfl, h1, h2, q⟩ := h
  cases rx
  cases ry
  obtain ⟨its, r1, p1, _⟩ := I.list h1
  obtain ⟨its2, r2, p2, _⟩ := I.list h2
  cases r2
  show wpAny _ _ (richCompare .NotEq (.ref a) (.ref b)) _ _ s
  cases r1 with
  | nil => exact SeqAt.RcNeAt.lists (e := fun _ => true) p1.isList p2.isList rfl (by omega) (fun j h1 _ => absurd h1 (Nat.not_lt_zero _)) X.prog X.w _ _ ⟨.bl false, H, I, rfl, q⟩
  | cons r rr => exact SeqAt.RcNeAt.lists_lengths p1.isList p2.isList (by simp) (by omega) X.prog X.w _ _ ⟨.bl true, H, I, rfl, q⟩
end
theorem fm_bind {α β : Type} (ys : List α) (g : α → Option β) : (List.range ys.length).filterMap (fun i => ys[i]?.bind g) = ys.filterMap g := by
  rw [← List.filterMap_filterMap, fm_get]
theorem head_text (z : Str) : cutS z none (some 1) = tx ((cd z).take 1) := by
  unfold cutS
  rw [HT.sIx_none, show HT.sIx z.length z.length (some 1) = min 1 z.length from HT.sIx_nat _ _ 1]
  have hl : z.cps.toList.length = z.length := by
    show _ = z.cps.size
    simp
  show (⟨((z.cps.toList.drop 0).take (min 1 z.length - 0)).toArray⟩ : Str) = ⟨(z.cps.toList.take 1).toArray⟩
  rw [List.drop_zero, Nat.sub_zero]
  congr 2
  rw [← hl, List.take_eq_take_iff]
  omega
def hd61 (z : Str) : Bool := match cd z with | c :: _ => c == 61 | [] => false
theorem head_eq (z : Str) : decide (V.str (cutS z none (some 1)) = V.str "=") = hd61 z := by
  unfold hd61
  rw [head_text]
  have e : (V.str (tx ((cd z).take 1)) = V.str "=") ↔ (cd z).take 1 = [61] := by
    constructor
    · intro h
      injection h with h
      have := congrArg cd h
      rw [cd_tx] at this
      exact this
    · intro h
      rw [h]
      rfl
  rw [Bool.eq_iff_iff, decide_eq_true_iff, e]
  cases cd z with
  | nil => exact ⟨(fun q => by cases q), (fun q => by cases q)⟩
  | cons c r =>
    show [c] = [61] ↔ (c == 61) = true
    rw [beq_iff_eq]
    exact ⟨(fun q => by injection q), (fun q => by rw [q])⟩
abbrev ltxN : List Str := ["words", "word", "sign"]
theorem scLTx : FnScope ltxN ["words"] (defScope (top iLTexts)) := ⟨rfl, rfl, rfl, by decide +kernel, rfl, by decide +kernel, by decide +kernel⟩
def spLTx : Sp := fun vs H Q _ => ∃ (a : Addr) (ws : List Str), vs = [.ref a] ∧ H a = some (.lst (ws.map V.str)) ∧ ws.length ≤ 10000 ∧ (∀ z ∈ ws, z.length ≤ 10000) ∧
  (ws.all twB = false → ∀ H', Same H H' → Q .non H') ∧ (ws.all twB = true → ∀ H' l, Same H H' → H' l = some (.lst ((ws.map bodyS).map V.str)) → Q (.ref l) H')
def badSg (c : Nat) : Option V := if sgB c = true then none else some (.str ⟨#[c]⟩)
theorem bad_none : ∀ (l : List Nat), (l.filterMap badSg).isEmpty = l.all sgB
  | [] => rfl
  | c :: l => by
    rw [List.all_cons]
    cases e : sgB c with
    | true => rw [List.filterMap_cons_none (by unfold badSg; rw [if_pos e]), bad_none l, Bool.true_and]
    | false => rw [List.filterMap_cons_some (by unfold badSg; rw [e]; exact if_neg (by decide))]; rfl
section
variable {P : Program} {w : World} {K : PySem.W.Frag} {mg : Str → Option Value} {base : Heap} {f fA : Addr} {fd fdA : FuncData}
theorem ok_ltx {k : Nat} (F : FnP K "_law_texts_in" iLTexts f fd)
    (FA : FnOk P w K mg base CX0 (k + 1) fA fdA [] spAll) (gA : mg "_law_all_signs" = some (.ref fA)) (kA : PySem.W.keepIn K (.ref fA) = true) (bA : Binds K fdA [] []) :
    FnOk P w K mg base CX0 (k + 2) f fd ["words"] spLTx := by
  refine F.ok scLTx (fun vs H Q E h => ?_) (fun cdv A outer s H vs Q E hr h => ?_)
  · obtain ⟨a, ws, rfl, _⟩ := h
    rfl
  · obtain ⟨a, ws, rfl, ha, wn, wl, bad, good⟩ := h
    have sl : sizeLine = 16777216 := sizeLine_eq
    refine ⟨_, PSs.nox (C8.pss_cut (ps_for PassesOwn.never rfl (pi_list (pv 0)) (pg_name (i := 1) scLTx.nd rfl (.inl rfl))
        (pss_one (ps_if (PW.pt (pw_or (pt_cmpR op_ne (pe_slice sl_str (pv 1) po_none (po_some pe_int)) pe_str (nomark _)) (pw_or1 (pt_cmpR (op_neNil hr.units) (pe_lc (own := [("sign", 2)]) (g := gName 2) (te := tVar 2) rfl scLTx.nd (pi_str (pe_slice sl_str (pv 1) (po_some pe_int) po_none)) (blkOk_by (N := ltxN) (sc := defScope (top iLTexts)) (by decide +kernel))
          (fun _ _ _ _ _ => pg_name (i := 2) scLTx.nd rfl (Or.inl rfl)) (fun _ _ _ _ _ => pts_one (pt_cmpR op_notInS (pv 2) (pe_call0 FA hr (by rfl) gA kA bA .nil pass0) (by rfl))) (fun _ _ _ _ _ => pv 2)) (pe_lst pa_nil) (nomark _))))) (pss_one (ps_ret pe_non)) pss_nil)))
      (pss_one (ps_ret (pe_lc (own := [("word", 1)]) (g := gName 1) (tt := tYes) rfl scLTx.nd (pi_list (pv 0)) (blkOk_by (N := ltxN) (sc := defScope (top iLTexts)) (by decide +kernel))
          (fun _ _ _ _ _ => pg_name (i := 1) scLTx.nd rfl (Or.inl rfl)) (fun _ _ _ _ _ => pts_nil) (fun _ _ _ _ _ => pe_slice sl_str (pv 1) (po_some pe_int) po_none))))), ?_⟩
    refine ⟨fun σ' H' => Same H H' ∧ ws.all twB = true ∧ ∃ x, σ' = [some (.ref a), x, none], ?_, ?_⟩
    · refine ⟨_, rfl, a, rfl, ⟨_, .of ha⟩, for_it (walk_list (xs := ws.map V.str)) (fun m σ' H' => Same H H' ∧ (ws.take m).all twB = true ∧ ∃ x, σ' = [some (.ref a), x, none]) ⟨Same.refl _, rfl, _, rfl⟩ (fun m σ' H' _ hP => .of (hP.1 _ _ ha)) (fun m y σ' H' H'' hm hP hY => ?_) (fun σ' H' hP => ?_)⟩
      · obtain ⟨s', al, x, rfl⟩ := hP
        obtain ⟨rfl, hY⟩ := hY
        rw [List.getElem?_map] at hY
        obtain ⟨z, hz, rfl⟩ := Option.map_eq_some_iff.mp hY
        have zl := wl z (List.mem_of_getElem? hz)
        have tk : ws.take (m + 1) = ws.take m ++ [z] := by rw [List.take_succ, hz]; rfl
        have tb : twB z = (hd61 z && (cd (bodyS z)).all sgB) := by
          unfold twB bodyS hd61
          rw [cd_tx]
          cases cd z with
          | nil => rfl
          | cons c r => rfl
        have no : twB z = false → ∀ H', Same H H' → Q .non H' := fun e => bad (by
          cases e2 : ws.all twB with
          | false => rfl
          | true => rw [List.all_eq_true.mp e2 z (List.mem_of_getElem? hz)] at e; cases e)
        refine ⟨_, rfl, _, rfl, z, rfl, by omega, rfl, _, rfl, ?_⟩
        rw [head_eq]
        cases hh : hd61 z with
        | false =>
          rw [hh, Bool.false_and] at tb
          exact ite2 (fun _ => no tb _ s') (fun q => absurd rfl q)
        | true =>
          rw [hh, Bool.true_and] at tb
          refine ite2 (fun q => by cases q) (fun _ => ?_)
          refine ⟨_, rfl, _, rfl, z, rfl, by omega, ?_⟩
          rw [cut_body]
          have csz : (bodyS z).cps.size = (cd (bodyS z)).length := by
            show (bodyS z).cps.size = (bodyS z).cps.toList.length
            simp
          have bl := body_len z
          refine ⟨bodyS z, rfl, fun D nD => lc_map (walk_str (z := bodyS z)) (xs := (cd (bodyS z)).map fun c => V.str ⟨#[c]⟩) (fun i => (cd (bodyS z))[i]?.bind badSg) (fun i H x H' hi hy => ?_) nD (fun _ _ => trivial) (by rw [csz, cd_len]; omega) (fun i y H' R hi hy s hR => ?_) (fun H' s eL => ?_)⟩
          · obtain ⟨rfl, c, hc, rfl⟩ := hy
            refine ⟨rfl, ?_⟩
            have hc2 : (cd (bodyS z))[i]? = some c := by
              show (bodyS z).cps.toList[i]? = some c
              simpa using hc
            rw [List.getElem?_map, hc2]
            rfl
          · rw [List.getElem?_map] at hy
            obtain ⟨c, hc, rfl⟩ := Option.map_eq_some_iff.mp hy
            refine ⟨rfl, _, rfl, rfl, c, allSigns, rfl, rfl, _, rfl, ?_⟩
            have es : decide (c ∈ allSigns.cps.toList) = sgB c := (sg_mem c).symm
            have ef : (cd (bodyS z))[i]?.bind badSg = badSg c := by rw [hc]; rfl
            rw [es]
            cases e : sgB c with
            | true => exact ite2 (fun q => by cases q) (fun _ => hR _ _ (by rw [ef]; unfold badSg; rw [if_pos e]) (Same.refl _))
            | false => exact ite2 (fun _ => ⟨_, rfl, hR _ _ (by rw [ef]; unfold badSg; rw [e, if_neg (by decide)]) (Same.refl _)⟩) (fun q => absurd rfl q)
          · have el : (bodyS z).cps.size = (cd (bodyS z)).length := csz
            rw [el, fm_bind] at eL
            refine ⟨by show 0 ≤ sizeLine; omega, fun l2 n2 => ⟨D, l2, _, rfl, rfl, .of (same_upd n2 _ _ eL), .of upd_same, _, rfl, ?_⟩⟩
            have s2 := (s'.trans s).trans (same_upd (o := .lst []) n2)
            rw [bad_none, ← tb]
            cases e : twB z with
            | false => exact ite2 (fun _ => no e _ s2) (fun q => absurd rfl q)
            | true =>
              refine ite2 (fun q => by cases q) (fun _ => ⟨s2, ?_, _, rfl⟩)
              rw [tk, List.all_append, al]
              show (true && (twB z && true)) = true
              rw [e]
              rfl
      · obtain ⟨s', al, hx⟩ := hP
        rw [List.length_map, List.take_length] at al
        exact ⟨s', al, hx⟩
    rintro σ1 H1 ⟨s1, al, x, rfl⟩
    refine ⟨_, rfl, a, rfl, ⟨_, .of (s1 _ _ ha)⟩, fun D nD => lc_map (walk_list (xs := ws.map V.str)) (xs := ws.map V.str) (fun i => ((ws.map bodyS).map V.str)[i]?) (fun i _ _ _ hi hy => hy) nD (fun H' s => .of (s _ _ (s1 _ _ ha))) (by rw [List.length_map]; omega) (fun i y H' R hi hy s hR => ?_) (fun H' s eL => ?_)⟩
    · rw [List.getElem?_map] at hy
      obtain ⟨z, hz, rfl⟩ := Option.map_eq_some_iff.mp hy
      have zl := wl z (List.mem_of_getElem? hz)
      refine ⟨rfl, _, rfl, _, rfl, z, rfl, by omega, ?_⟩
      rw [cut_body]
      exact hR _ _ (by rw [List.getElem?_map, List.getElem?_map, hz]; rfl) (Same.refl _)
    · have eF : (List.range (ws.map V.str).length).filterMap (fun i => ((ws.map bodyS).map V.str)[i]?) = (ws.map bodyS).map V.str := by
        rw [show (ws.map V.str).length = ((ws.map bodyS).map V.str).length by rw [List.length_map, List.length_map, List.length_map]]
        exact fm_get _
      rw [eF] at eL
      exact good al _ D (s1.trans s) eL
end
end K0
end
/-! ### LW5 -/
section
set_option Elab.async false
set_option linter.all false
set_option maxRecDepth 100000
set_option maxHeartbeats 4000000
/-! _law_read. -/
namespace K0
open PySem PySem.Spec PyProof.Rows L2
def sizesD : List (Key × V) := [(.inr "put", .int 2), (.inr "move", .int 2), (.inr "store", .int 1)]
def sizeOf' (w : Str) : Option V := valV sizesD (.inr w)
theorem size_eq (w : Str) : sizeOf' w = if w = "put" then some (.int 2) else if w = "move" then some (.int 2) else if w = "store" then some (.int 1) else none := by
  have f1 : ∀ (a : Str), decide ((.inr a : Key) = .inr w) = decide (w = a) := fun a => decide_eq_decide.mpr ⟨fun h => by injection h with h; exact h.symm, fun h => by rw [h]⟩
  show (List.find? (fun kv => decide (kv.1 = (.inr w : Key))) sizesD).map (·.2) = _
  unfold sizesD
  rw [List.find?_cons, List.find?_cons, List.find?_cons, List.find?_nil]
  dsimp only
  rw [f1, f1, f1]
  by_cases h1 : w = "put"
  · rw [if_pos h1, decide_eq_true h1]; rfl
  rw [if_neg h1, decide_eq_false h1]
  by_cases h2 : w = "move"
  · rw [if_pos h2, decide_eq_true h2]; rfl
  rw [if_neg h2, decide_eq_false h2]
  by_cases h3 : w = "store"
  · rw [if_pos h3, decide_eq_true h3]; rfl
  rw [if_neg h3, decide_eq_false h3]
  rfl
theorem tw_nil : twB "" = false := rfl
theorem row_use1 {n : Str} (h : n ≠ "") : rowOf ["use", n] = some (.use n) := by
  unfold rowOf
  rw [if_neg (by
    intro m
    rcases List.mem_cons.mp m with e | m
    · exact absurd e (by decide)
    · exact h (List.mem_singleton.mp m).symm)]
  rfl
theorem row_use0 : rowOf ["use", ""] = none := by
  unfold rowOf
  rw [if_pos (by decide)]
theorem row_useN {r : List Str} (h : r.length ≠ 1) : rowOf ("use" :: r) = none := by
  unfold rowOf
  by_cases e : ("" : Str) ∈ ("use" : Str) :: r
  · rw [if_pos e]
  rw [if_neg e]
  match r, h with
  | [], _ => rfl
  | [_], h => exact absurd rfl h
  | _ :: _ :: _, _ => rfl
theorem row_bad {w : Str} {r : List Str} (nu : w ≠ "use") (h : r.all twB = false) : rowOf (w :: r) = none := by
  unfold rowOf
  by_cases e : ("" : Str) ∈ w :: r
  · rw [if_pos e]
  rw [if_neg e]
  cases r with
  | nil => cases h
  | cons t r =>
    show (if w = "use" then _ else if (t :: r).all twB = false then none else _) = none
    rw [if_neg nu, if_pos h]
theorem free_tw {w : Str} {r : List Str} (hw : w ≠ "") (h : r.all twB = true) : ¬ ("" : Str) ∈ w :: r := fun m => by
  rcases List.mem_cons.mp m with e | m
  · exact hw e.symm
  · have := List.all_eq_true.mp h _ m
    rw [tw_nil] at this
    cases this
theorem row_take0 : rowOf ["take"] = none := rfl
theorem row_takeN {t : Str} {r : List Str} (h : (t :: r).all twB = true) : rowOf ("take" :: t :: r) = some (.take (bodyS t) (r.map bodyS)) := by
  unfold rowOf
  rw [if_neg (free_tw (by decide) h)]
  show (if ("take" : Str) = "use" then _ else if (t :: r).all twB = false then none else if ("take" : Str) = "take" then some (DeedV.take (bodyS t) (r.map bodyS)) else _) = _
  rw [if_neg (by decide), h, if_neg (by decide), if_pos rfl]
theorem row_size {w : Str} {r : List Str} (nu : w ≠ "use") (nt : w ≠ "take") (h : r.all twB = true) :
    (∃ d, rowOf (w :: r) = some d ∧ sizeOf' w = some (.int (r.length : Nat)) ∧ d.data = .tuple (.str w :: (r.map bodyS).map PyData.str)) ∨ (rowOf (w :: r) = none ∧ sizeOf' w ≠ some (.int (r.length : Nat))) := by
  rw [size_eq]
  by_cases w0 : w = ""
  · subst w0
    refine .inr ⟨?_, fun q => by cases q⟩
    unfold rowOf
    rw [if_pos List.mem_cons_self]
  have fr := free_tw w0 h
  have ne : ∀ n m : Int, n ≠ m → (some (V.int n) : Option V) ≠ some (.int m) := fun n m hm q => by
    injection q with q
    injection q with q
    exact hm q
  have no : (none : Option V) ≠ some (.int (r.length : Nat)) := fun q => by cases q
  cases r with
  | nil =>
    refine .inr ⟨?_, ?_⟩
    · unfold rowOf
      rw [if_neg fr]
    by_cases h1 : w = "put"
    · rw [if_pos h1]; exact ne _ _ (by decide)
    rw [if_neg h1]
    by_cases h2 : w = "move"
    · rw [if_pos h2]; exact ne _ _ (by decide)
    rw [if_neg h2]
    by_cases h3 : w = "store"
    · rw [if_pos h3]; exact ne _ _ (by decide)
    rw [if_neg h3]
    exact no
  | cons t r =>
  have e : rowOf (w :: t :: r) = match (generalizing := false) r with
        | [] => if w = "store" then some (.store (bodyS t)) else none
        | [u] => if w = "put" then some (.put (bodyS t) (bodyS u)) else if w = "move" then some (.move (bodyS t) (bodyS u)) else none
        | _ => none := by
    unfold rowOf
    rw [if_neg fr]
    dsimp only
    rw [if_neg nu, h, if_neg (by decide), if_neg nt]
    all_goals
      cases r with
      | nil => rfl
      | cons u r =>
        cases r with
        | nil => rfl
        | cons _ _ => rfl
  rw [e]
  cases r with
  | nil =>
    dsimp only
    by_cases h1 : w = "put"
    · rw [if_pos h1, if_neg (by rw [h1]; decide)]
      exact .inr ⟨rfl, ne _ _ (by show (2 : Int) ≠ 1; decide)⟩
    rw [if_neg h1]
    by_cases h2 : w = "move"
    · rw [if_pos h2, if_neg (by rw [h2]; decide)]
      exact .inr ⟨rfl, ne _ _ (by show (2 : Int) ≠ 1; decide)⟩
    rw [if_neg h2]
    by_cases h3 : w = "store"
    · rw [if_pos h3, if_pos h3]
      exact .inl ⟨_, rfl, rfl, by rw [h3]; rfl⟩
    rw [if_neg h3, if_neg h3]
    exact .inr ⟨rfl, no⟩
  | cons u r =>
  cases r with
  | nil =>
    dsimp only
    by_cases h1 : w = "put"
    · rw [if_pos h1, if_pos h1]
      exact .inl ⟨_, rfl, rfl, by rw [h1]; rfl⟩
    rw [if_neg h1, if_neg h1]
    by_cases h2 : w = "move"
    · rw [if_pos h2, if_pos h2]
      exact .inl ⟨_, rfl, rfl, by rw [h2]; rfl⟩
    rw [if_neg h2, if_neg h2]
    refine .inr ⟨rfl, ?_⟩
    by_cases h3 : w = "store"
    · rw [if_pos h3]
      exact ne _ _ (by show (1 : Int) ≠ 2; decide)
    rw [if_neg h3]
    exact no
  | cons x r =>
    refine .inr ⟨rfl, ?_⟩
    have big : ((t :: u :: x :: r : List Str).length : Nat) ≥ 3 := by simp only [List.length_cons]; omega
    by_cases h1 : w = "put"
    · rw [if_pos h1]; exact ne _ _ (by omega)
    rw [if_neg h1]
    by_cases h2 : w = "move"
    · rw [if_pos h2]; exact ne _ _ (by omega)
    rw [if_neg h2]
    by_cases h3 : w = "store"
    · rw [if_pos h3]; exact ne _ _ (by omega)
    rw [if_neg h3]
    exact no
end K0
end
/-! ### LW6 -/
section
set_option Elab.async false
set_option linter.all false
set_option maxRecDepth 100000
set_option maxHeartbeats 4000000
/-! _law_read. -/
namespace K0
open PySem PySem.Spec PyProof.Rows L2
abbrev lreadN : List Str := ["line", "words", "texts", "sizes"]
theorem scLRead : FnScope lreadN ["line"] (defScope (top iLRead)) := ⟨rfl, rfl, rfl, by decide +kernel, rfl, by decide +kernel, by decide +kernel⟩
/-- what is told of a line: None or the deed -/
def LineV (K : PySem.W.Frag) (H : Hp) (x : V) (o : Option DeedV) : Prop := (x = .non ∧ o = none) ∨ ∃ d, o = some d ∧ Dv K H x d.data
def spLRead (K : PySem.W.Frag) : Sp := fun vs H Q _ => ∃ z : Str, vs = [.str z] ∧ z.length ≤ 9000 ∧ ∀ H' x, Same H H' → LineV K H' x (lineOf z) → Q x H'
section
variable {P : Program} {w : World} {K : PySem.W.Frag} {mg : Str → Option Value} {base : Heap} {f fT : Addr} {fd fdT : FuncData}
theorem ok_lread {k : Nat} (F : FnP K "_law_read" iLRead f fd) (mlen : mg "len" = none) (mtuple : mg "tuple" = none)
    (FT : FnOk P w K mg base CX0 (k + 2) fT fdT ["words"] spLTx) (gT : mg "_law_texts_in" = some (.ref fT)) (kT : PySem.W.keepIn K (.ref fT) = true) (bT : Binds K fdT ["words"] []) :
    FnOk P w K mg base CX0 (k + 3) f fd ["line"] (spLRead K) := by
  refine F.ok scLRead (fun vs H Q E h => ?_) (fun cdv A outer s H vs Q E hr h => ?_)
  · obtain ⟨z, rfl, _⟩ := h
    rfl
  · obtain ⟨z, rfl, zl, q⟩ := h
    have sl : sizeLine = 16777216 := sizeLine_eq
    refine ⟨_, PSs.nox (C8.pss_cut (ps_set (i := 1) scLRead.nd rfl (.inl rfl) (pe_split (pv 0) pe_str))
      (C8.pss_cut (ps_if (pt_cmpR op_eq (pe_ix ix_list (pv 1) pe_int (fun _ _ => rfl)) pe_str (nomark _)) (pss_one (ps_ret (pe_ifExp (PW.pt (pw_and (pt_cmpR op_eq (pe_callB call_len_seq (by rfl) mlen PySem.boot_len (pa_cons (pv 1) pa_nil)) pe_int (nomark _)) (pw_and1 (pt_cmpR op_ne (pe_ix ix_list (pv 1) pe_int (fun _ _ => rfl)) pe_str (nomark _)))))
          (pe_callTy call_tuple_of (by rfl) mtuple (by decide +kernel) (pa_cons (pv 1) pa_nil)) pe_non))) pss_nil)
      (C8.pss_cut (ps_set (i := 2) scLRead.nd rfl (.inl rfl) (pe_call FT hr (by rfl) gT kT bT .nil pass0 (pa_cons (pe_slice sl_list (pv 1) (po_some pe_int) po_none) pa_nil)))
      (C8.pss_cut (ps_if (pt_cmp (pc_isN (pv 2))) (pss_one (ps_ret pe_non)) pss_nil)
      (C8.pss_cut (ps_if (pt_cmpR op_eq (pe_ix ix_list (pv 1) pe_int (fun _ _ => rfl)) pe_str (nomark _)) (pss_one (ps_ret (pe_ifExp (pt_cmpR (op_neNil hr.units) (pv 2) (pe_lst pa_nil) (nomark _))
          (pe_tup (pa_cons pe_str (pa_cons (pe_ix ix_list (pv 2) pe_int (fun _ _ => rfl)) (pa_cons (pe_callTy call_tuple_of (by rfl) mtuple (by decide +kernel) (pa_cons (pe_slice sl_list (pv 2) (po_some pe_int) po_none) pa_nil)) pa_nil)))) pe_non))) pss_nil)
      (C8.pss_cut (ps_set (i := 3) scLRead.nd rfl (.inl rfl) (pe_disp (pps_cons pe_str pe_int (pps_cons pe_str pe_int (pps_cons pe_str pe_int pps_nil))) rfl rfl (by simp) (by decide)))
      (pss_one (ps_ret (pe_ifExp (pt_cmpR op_eq (pe_dget1 (hu_of hr) (pv 3) (pe_ix ix_list (pv 1) pe_int (fun _ _ => rfl)) ⟨rfl, rfl, rfl, rfl⟩) (pe_callB call_len_seq (by rfl) mlen PySem.boot_len (pa_cons (pv 2) pa_nil)) (nomark _))
          (pe_op op_catT (pe_tup (pa_cons (pe_ix ix_list (pv 1) pe_int (fun _ _ => rfl)) pa_nil)) (pe_callTy call_tuple_of (by rfl) mtuple (by decide +kernel) (pa_cons (pv 2) pa_nil))) pe_non))))))))), ?_⟩
    have ww := split_weight z (one 32) (Nat.le_refl 1)
    have lo : lineOf z = rowOf (Txt.split z (one 32)) := rfl
    rw [lo] at q
    have ne := split_ne z (one 32)
    generalize hW : Txt.split z (one 32) = W at *
    cases W with
    | nil => exact absurd rfl ne
    | cons w0 r =>
    have wsz : sumLen (w0 :: r) + (w0 :: r).length ≤ 9001 := by
      unfold sumLen
      omega
    have w0l : w0.length ≤ 9001 := by rw [sum_cons] at wsz; omega
    have rl : sumLen r + r.length ≤ 9001 := by rw [sum_cons, List.length_cons] at wsz; omega
    refine ⟨fun σ' H' => ∃ l, Same H H' ∧ H' l = some (.lst ((w0 :: r).map V.str)) ∧ σ' = [some (.str z), some (.ref l), none, none], ?_, ?_⟩
    · refine ⟨_, rfl, ⟨_, rfl⟩, z, " ", rfl, rfl, rfl, by omega, fun l nl => ?_⟩
      have hW2 : Txt.split z (" " : Str) = w0 :: r := hW
      rw [hW2]
      exact ⟨l, same_upd nl, upd_same, rfl⟩
    rintro σ1 H1 ⟨l, s1, el, rfl⟩
    have none_q : rowOf (w0 :: r) = none → ∀ H', Same H H' → Q .non H' := fun e H' s => q H' .non s (.inl ⟨rfl, e⟩)
    have some_q : ∀ d, rowOf (w0 :: r) = some d → ∀ H' x, Same H H' → Dv K H' x d.data → Q x H' := fun d e H' x s hx => q H' x s (.inr ⟨d, e, hx⟩)
    refine ⟨fun σ' H' => H' = H1 ∧ w0 ≠ "use" ∧ σ' = [some (.str z), some (.ref l), none, none], ?_, ?_⟩
    · refine ⟨_, rfl, l, _, 0, .str w0, rfl, rfl, .of el, atI_nat (j := 0) rfl, rfl, _, rfl, ite2 (fun e => ?_) (fun e => ⟨rfl, fun e2 => e (by rw [e2]; exact decide_eq_true rfl), rfl⟩)⟩
      have e : w0 = "use" := by
        have := of_decide_eq_true e
        injection this
      subst e
      refine ⟨_, rfl, l, _, rfl, .inl (.of el), rfl, _, rfl, ite2 (fun e => ?_) (fun e => ?_)⟩
      · have len2 : r.length = 1 := by
          have := of_decide_eq_true e
          injection this with this
          rw [List.length_map, List.length_cons] at this
          omega
        match r, len2 with
        | [n], _ =>
          refine ⟨_, rfl, l, _, 1, .str n, rfl, rfl, .of el, atI_nat (j := 1) rfl, rfl, _, rfl, ite2 (fun e => ?_) (fun e => ?_)⟩
          · have nn : n ≠ "" := fun e2 => by rw [e2] at e; cases e
            refine ⟨_, rfl, l, _, rfl, .inl ⟨.of el, fun t nt => some_q _ (row_use1 nn) _ _ (s1.trans (same_upd nt)) (.tup (.of upd_same) (.cons (.str _) (.cons (.str _) .nil)))⟩⟩
          · have nn : n = "" := by
              by_cases h : n = ""
              · exact h
              · rw [ne_str h] at e
                exact absurd rfl e
            subst nn
            exact none_q row_use0 H1 s1
      · have len2 : r.length ≠ 1 := fun e2 => e (by
          refine decide_eq_true ?_
          rw [List.length_map, List.length_cons, e2]
          rfl)
        exact none_q (row_useN len2) H1 s1
    rintro σ2 H2 ⟨rfl, nu, rfl⟩
    refine ⟨fun σ' H' => ∃ x, Same H2 H' ∧ σ' = [some (.str z), some (.ref l), some x, none] ∧ ((x = .non ∧ r.all twB = false) ∨ (r.all twB = true ∧ ∃ t, x = .ref t ∧ H' t = some (.lst ((r.map bodyS).map V.str)))), ?_, ?_⟩
    · refine ⟨_, rfl, _, rfl, l, _, rfl, .of el, fun p np => ⟨p, r, rfl, ?_, by omega, fun y hy => ?_, fun e H' s => ⟨_, (same_upd np).trans s, rfl, .inl ⟨rfl, e⟩⟩, fun e H' t s et => ⟨_, (same_upd np).trans s, rfl, .inr ⟨e, t, rfl, et⟩⟩⟩⟩
      · rw [upd_same]
        show some (HO.lst (cutV (V.str w0 :: r.map V.str) (some 1) none)) = _
        rw [cut1]
      · have := len_mem hy
        omega
    rintro σ3 H3 ⟨x, s3, rfl, hx⟩
    have s03 := s1.trans s3
    have el3 := s3 _ _ el
    refine ⟨fun σ' H' => H' = H3 ∧ r.all twB = true ∧ ∃ t, σ' = [some (.str z), some (.ref l), some (.ref t), none] ∧ H' t = some (.lst ((r.map bodyS).map V.str)), ?_, ?_⟩
    · rcases hx with ⟨rfl, e⟩ | ⟨e, t, rfl, et⟩
      · exact ⟨_, rfl, _, rfl, ite2 (fun _ => none_q (row_bad nu e) H3 s03) (fun q => absurd rfl q)⟩
      · exact ⟨_, rfl, _, rfl, ite2 (fun q => by cases q) (fun _ => ⟨rfl, e, t, rfl, et⟩)⟩
    rintro σ4 H4 ⟨rfl, al, t, rfl, et⟩
    refine ⟨fun σ' H' => H' = H4 ∧ w0 ≠ "take" ∧ σ' = [some (.str z), some (.ref l), some (.ref t), none], ?_, ?_⟩
    · refine ⟨_, rfl, l, _, 0, .str w0, rfl, rfl, .of el3, atI_nat (j := 0) rfl, rfl, _, rfl, ite2 (fun e => ?_) (fun e => ⟨rfl, fun e2 => e (by rw [e2]; exact decide_eq_true rfl), rfl⟩)⟩
      have e : w0 = "take" := by
        have := of_decide_eq_true e
        injection this
      subst e
      refine ⟨_, rfl, by show 0 ≤ sizeLine; omega, fun l2 n2 => ⟨t, l2, _, rfl, rfl, .of (same_upd n2 _ _ et), .of upd_same, _, rfl, ?_⟩⟩
      have s04 := s03.trans (same_upd (o := .lst []) n2)
      have et2 := same_upd (o := .lst []) n2 _ _ et
      cases r with
      | nil => exact ite2 (fun q => by cases q) (fun _ => none_q row_take0 _ s04)
      | cons t0 r =>
        refine ite2 (fun _ => ?_) (fun q => absurd rfl q)
        refine ⟨_, rfl, t, _, 0, .str (bodyS t0), rfl, rfl, .of et2, atI_nat (j := 0) rfl, _, rfl, _, rfl, t, _, rfl, .of et2, fun p np => ⟨p, _, rfl, .inl ⟨.of upd_same, fun T nT => ⟨by show 3 ≤ sizeLine; omega, fun q' nq => ?_⟩⟩⟩⟩
        have sT := same_upd (o := .tup [.str "take", .str (bodyS t0), .ref T]) nq
        refine some_q _ (row_takeN al) _ _ (((s04.trans (same_upd np)).trans (same_upd nT)).trans sT) (.tup (.of upd_same) (.cons (.str _) (.cons (.str _) (.cons (.tup (.of (sT _ _ upd_same)) ?_) .nil))))
        rw [show cutV (((t0 :: r).map bodyS).map V.str) (some 1) none = (r.map bodyS).map V.str from cut1 _ _]
        exact dv_strs _
    rintro σ5 H5 ⟨rfl, nt, rfl⟩
    refine ⟨fun σ' H' => ∃ D, Same H5 H' ∧ H' D = some (.dK sizesD) ∧ σ' = [some (.str z), some (.ref l), some (.ref t), some (.ref D)], ?_, ?_⟩
    · intro D nD
      exact ⟨upd_same, [(.inr "put", .int 2), (.inr "move", .int 2), (.inr "store", .int 1)], rfl, by decide, D, fun b o e => by rw [upd_ne (ne_of_none e nD), upd_ne (ne_of_none e nD)]; exact e, by rw [upd_same]; rfl, rfl⟩
    rintro σ6 H6 ⟨D, s6, eD, rfl⟩
    have s06 := s03.trans s6
    have el6 := s6 _ _ el3
    have et6 := s6 _ _ et
    refine ⟨_, rfl, D, rfl, .inl ⟨_, .of eD⟩, _, rfl, l, _, 0, .str w0, rfl, rfl, .of el6, atI_nat (j := 0) rfl, sizeOf' w0, .inl ⟨_, .inr w0, .of eD, rfl, rfl⟩, _, rfl, t, _, rfl, .inl (.of et6), ?_⟩
    rw [List.length_map, List.length_map]
    rcases row_size nu nt al with ⟨d, e1, e2, e3⟩ | ⟨e1, e2⟩
    · rw [e2]
      refine ⟨rfl, _, rfl, ite2 (fun _ => ?_) (fun q => absurd (decide_eq_true rfl) q)⟩
      refine ⟨_, rfl, l, _, 0, .str w0, rfl, rfl, .of el6, atI_nat (j := 0) rfl, by show 1 ≤ sizeLine; omega, fun p np => ?_⟩
      have sp := same_upd (o := .tup [.str w0]) np
      refine ⟨_, rfl, t, _, rfl, .inl ⟨.of (sp _ _ et6), fun T nT => ?_⟩⟩
      have sT := same_upd (o := .tup ((r.map bodyS).map V.str)) nT
      have s7 := (s06.trans sp).trans sT
      refine ⟨p, T, [.str w0], _, rfl, rfl, .of (sT _ _ upd_same), .of upd_same, List.cons_ne_nil _ _, ?_, fun e4 => ?_, fun _ q' nq => ?_⟩
      · show 1 + ((r.map bodyS).map V.str).length ≤ sizeLine
        rw [List.length_map, List.length_map]
        omega
      · refine some_q d e1 _ _ s7 ?_
        have r0 : r = [] := by
          cases r with
          | nil => rfl
          | cons _ _ => cases e4
        have e5 : d.data = .tuple [.str w0] := by rw [e3, r0]; rfl
        rw [e5]
        exact .tup (.of (sT _ _ upd_same)) (.cons (.str _) .nil)
      · refine some_q d e1 _ _ (s7.trans (same_upd nq)) ?_
        rw [e3]
        exact .tup (.of upd_same) (.cons (.str _) (dv_strs _))
    · refine ⟨?_, _, rfl, ite2 (fun q => ?_) (fun _ => none_q e1 _ s06)⟩
      · rw [size_eq]
        split
        · rfl
        split
        · rfl
        split <;> rfl
      · have q := of_decide_eq_true q
        cases h : sizeOf' w0 with
        | none => rw [h] at q; cases q
        | some v =>
          rw [h] at q e2
          exact absurd (congrArg some q) e2
end
end K0
end
/-! ### LW7 -/
section
set_option Elab.async false
set_option linter.all false
set_option maxRecDepth 100000
set_option maxHeartbeats 4000000
/-! _law_is_deed. -/
namespace K0
open PySem PySem.Spec PyProof.Rows L2
theorem lt1 (a c : Nat) : (([c] : List Nat) < [a]) ↔ c < a := by
  rw [List.cons_lt_cons_iff]
  constructor
  · rintro (h | ⟨_, h⟩)
    · exact h
    · exact absurd h (List.lt_irrefl _)
  · exact .inl
/-- what a deed that was read of a row keeps -/
def readOk : DeedV → Prop
  | .use n => n ≠ ""
  | .store p => sgAll p = true
  | .put p t => sgAll p = true ∧ sgAll t = true
  | .move p q => sgAll p = true ∧ sgAll q = true
  | .take p ts => sgAll p = true ∧ ts.all sgAll = true
theorem tw_sg {w : Str} (h : twB w = true) : sgAll (bodyS w) = true := (tw_body h).2
theorem row_readOk {W : List Str} {d : DeedV} (h : rowOf W = some d) : readOk d := by
  unfold rowOf at h
  by_cases e0 : ("" : Str) ∈ W
  · rw [if_pos e0] at h; cases h
  rw [if_neg e0] at h
  cases W with
  | nil => cases h
  | cons word W =>
  cases W with
  | nil => cases h
  | cons told rest =>
    dsimp only at h
    by_cases e1 : word = "use"
    · rw [if_pos e1] at h
      by_cases e2 : rest = []
      · rw [if_pos e2] at h
        cases h
        exact fun e => e0 (by rw [e]; exact List.mem_cons_of_mem _ List.mem_cons_self)
      · rw [if_neg e2] at h; cases h
    rw [if_neg e1] at h
    by_cases e2 : (told :: rest).all twB = false
    · rw [if_pos e2] at h; cases h
    rw [if_neg e2] at h
    have al : (told :: rest).all twB = true := by
      cases z : (told :: rest).all twB with
      | true => rfl
      | false => exact absurd z e2
    obtain ⟨a1, a2⟩ := Bool.and_eq_true_iff.mp (show (twB told && rest.all twB) = true from al)
    by_cases e3 : word = "take"
    · rw [if_pos e3] at h
      cases h
      refine ⟨tw_sg a1, ?_⟩
      rw [List.all_map, List.all_eq_true]
      exact fun x hx => tw_sg (List.all_eq_true.mp a2 x hx)
    rw [if_neg e3] at h
    cases rest with
    | nil =>
      dsimp only at h
      by_cases e4 : word = "store"
      · rw [if_pos e4] at h
        cases h
        exact tw_sg a1
      · rw [if_neg e4] at h; cases h
    | cons t r =>
    cases r with
    | nil =>
      dsimp only at h
      have a3 : twB t = true := List.all_eq_true.mp a2 t List.mem_cons_self
      by_cases e4 : word = "put"
      · rw [if_pos e4] at h
        cases h
        exact ⟨tw_sg a1, tw_sg a3⟩
      rw [if_neg e4] at h
      by_cases e5 : word = "move"
      · rw [if_pos e5] at h
        cases h
        exact ⟨tw_sg a1, tw_sg a3⟩
      rw [if_neg e5] at h
      cases h
    | cons _ _ => cases h
def lenB (z : Str) : Bool := decide (1 ≤ z.length) && decide (z.length ≤ 12)
/-- the paths that are looked at -/
def pathsOf : DeedV → List Str
  | .use _ => []
  | .store p => [p]
  | .put p _ => [p]
  | .move p q => [p, q]
  | .take p _ => [p]
theorem ok_paths {d : DeedV} (r : readOk d) (nu : ∀ n, d ≠ .use n) : d.ok = (pathsOf d).all lenB := by
  cases d with
  | use n => exact absurd rfl (nu n)
  | store p =>
    show (sgAll p && lenB p) = (lenB p && true)
    rw [show sgAll p = true from r, Bool.true_and, Bool.and_true]
  | put p t =>
    show ((sgAll p && lenB p) && sgAll t) = (lenB p && true)
    rw [r.1, r.2, Bool.true_and]
  | move p q =>
    show ((sgAll p && lenB p) && (sgAll q && lenB q)) = (lenB p && (lenB q && true))
    rw [r.1, r.2, Bool.true_and, Bool.true_and, Bool.and_true]
  | take p ts =>
    show ((sgAll p && lenB p) && ts.all sgAll) = (lenB p && true)
    rw [r.1, r.2, Bool.true_and]
def badNm (c : Nat) : Option V := if nameB c = true then none else some (.str ⟨#[c]⟩)
theorem badn_none : ∀ (l : List Nat), (l.filterMap badNm).isEmpty = l.all nameB
  | [] => rfl
  | c :: l => by
    rw [List.all_cons]
    cases e : nameB c with
    | true => rw [List.filterMap_cons_none (by unfold badNm; rw [if_pos e]), badn_none l, Bool.true_and]
    | false => rw [List.filterMap_cons_some (by unfold badNm; rw [e]; exact if_neg (by decide))]; rfl
def badPt (z : Str) : Option V := if lenB z = true then none else some (.str z)
theorem badp_none : ∀ (l : List Str), (l.filterMap badPt).isEmpty = l.all lenB
  | [] => rfl
  | c :: l => by
    rw [List.all_cons]
    cases e : lenB c with
    | true => rw [List.filterMap_cons_none (by unfold badPt; rw [if_pos e]), badp_none l, Bool.true_and]
    | false => rw [List.filterMap_cons_some (by unfold badPt; rw [e]; exact if_neg (by decide))]; rfl
theorem name_read {n : Str} (h : n ≠ "") : nameS n = (decide (n.length ≤ 8) && (cd n).all nameB) := by
  unfold nameS
  have : 1 ≤ n.length := by
    rw [← cd_len]
    cases e : cd n with
    | nil => exact absurd (cd_nil e) h
    | cons _ _ => simp
  rw [decide_eq_true this, Bool.true_and]
theorem cut12 (x p : V) (r : List V) : cutV (x :: p :: r) (some 1) (some 2) = [p] := by
  unfold cutV
  rw [show HT.sIx (x :: p :: r).length 0 (some 1) = min 1 (x :: p :: r).length from HT.sIx_nat _ _ 1, show HT.sIx (x :: p :: r).length (x :: p :: r).length (some 2) = min 2 (x :: p :: r).length from HT.sIx_nat _ _ 2, List.length_cons, List.length_cons, Nat.min_eq_left (by omega), Nat.min_eq_left (by omega)]
  rfl
theorem six1 {n m : Nat} (h : 0 < n) : ¬ (HT.sIx n 0 (some 1) = 0 ∧ m = n) := fun z => by
  have z1 := z.1
  rw [show HT.sIx n 0 (some 1) = min 1 n from HT.sIx_nat _ _ 1] at z1
  omega
abbrev lisN : List Str := ["deed", "paths", "one", "path"]
theorem scLIs : FnScope lisN ["deed"] (defScope (top iLIsDeed)) := ⟨rfl, rfl, rfl, by decide +kernel, rfl, by decide +kernel, by decide +kernel⟩
def spLIs (K : PySem.W.Frag) : Sp := fun vs H Q _ => ∃ (v : V) (d : DeedV), vs = [v] ∧ Dv K H v d.data ∧ d.data.bulk ≤ 100000 ∧ readOk d ∧ ∀ H', Same H H' → Q (.bl d.ok) H'
section
variable {P : Program} {w : World} {K : PySem.W.Frag} {mg : Str → Option Value} {base : Heap} {f : Addr} {fd : FuncData}
theorem ok_lis {k : Nat} (F : FnP K "_law_is_deed" iLIsDeed f fd) (mlen : mg "len" = none) : FnOk P w K mg base CX0 (k + 1) f fd ["deed"] (spLIs K) := by
  refine F.ok scLIs (fun vs H Q E h => ?_) (fun cdv A outer s H vs Q E hr h => ?_)
  · obtain ⟨v, d, rfl, _⟩ := h
    rfl
  · obtain ⟨v, d, rfl, hd, sz, ro, q⟩ := h
    have sl : sizeLine = 16777216 := sizeLine_eq
    refine ⟨_, PSs.nox (C8.pss_cut (ps_if (pt_cmpR op_eq (pe_ix ix_tup (pv 0) pe_int (fun _ _ => rfl)) pe_str (nomark _)) (pss_one (ps_ret (pe_and (pe_cmpR op_le (pe_callB call_len_str (by rfl) mlen PySem.boot_len (pa_cons (pe_ix ix_tup (pv 0) pe_int (fun _ _ => rfl)) pa_nil)) pe_int (nomark _))
          (pe_one (pe_cmpR (op_eqNil hr.units) (pe_lc (own := [("one", 2)]) (g := gName 2) (te := tVar 2) rfl scLIs.nd (pi_str (pe_ix ix_tup (pv 0) pe_int (fun _ _ => rfl))) (blkOk_by (N := lisN) (sc := defScope (top iLIsDeed)) (by decide +kernel))
            (fun _ _ _ _ _ => pg_name (i := 2) scLIs.nd rfl (Or.inl rfl)) (fun _ _ _ _ _ => pts_one (pt_not (pt_chain op_le_str op_le_str pe_str (pv 2) pe_str))) (fun _ _ _ _ _ => pv 2)) (pe_lst pa_nil) (nomark _)))))) pss_nil)
      (C8.pss_cut (ps_set (i := 1) scLIs.nd rfl (.inl rfl) (pe_ifExp (pt_cmpR op_in_seq (pe_ix ix_tup (pv 0) pe_int (fun _ _ => rfl)) (pe_tup (pa_cons pe_str (pa_cons pe_str pa_nil))) rfl) (pe_slice sl_tupA (pv 0) (po_some pe_int) po_none) (pe_slice sl_tupA (pv 0) (po_some pe_int) (po_some pe_int))))
      (pss_one (ps_ret (pe_cmpR (op_eqNil hr.units) (pe_lc (own := [("path", 3)]) (g := gName 3) (te := tVar 3) rfl scLIs.nd (pi_tup (pv 1)) (blkOk_by (N := lisN) (sc := defScope (top iLIsDeed)) (by decide +kernel))
            (fun _ _ _ _ _ => pg_name (i := 3) scLIs.nd rfl (Or.inl rfl)) (fun _ _ _ _ _ => pts_one (pt_not (pt_chain op_le op_le pe_int (pe_callB call_len_str (by rfl) mlen PySem.boot_len (pa_cons (pv 3) pa_nil)) pe_int))) (fun _ _ _ _ _ => pv 3)) (pe_lst pa_nil) (nomark _)))))), ?_⟩
    by_cases isu : ∃ n, d = .use n
    · obtain ⟨n, rfl⟩ := isu
      refine ⟨fun _ _ => False, ?_, fun _ _ z => z.elim⟩
      cases hd with
      | tup hT hA =>
      cases hA with
      | cons v1 hA =>
      cases hA with
      | cons v2 hA =>
      cases hA
      cases v1
      cases v2
      rename_i a
      have nl : n.length ≤ 100000 := by
        have : 3 + 1 + (n.length + 1 + 0) ≤ 100000 := sz
        omega
      have dv : (DeedV.use n).ok = (decide (n.length ≤ 8) && (cd n).all nameB) := name_read ro
      rw [dv] at q
      have il : ((n.length : Nat) : Int) ≤ 8 ↔ n.length ≤ 8 := by omega
      refine ⟨_, rfl, _, _, 0, .str "use", rfl, rfl, hT, rfl, rfl, _, rfl, ite2 (fun _ => ?_) (fun z => absurd (decide_eq_true rfl) z)⟩
      refine ⟨_, rfl, _, _, 1, .str n, rfl, rfl, hT, rfl, n, rfl, by omega, _, _, rfl, rfl, _, rfl, ite2 (fun e => ?_) (fun e => ?_)⟩
      · have e : n.length ≤ 8 := il.mp (of_decide_eq_true e)
        rw [decide_eq_true e, Bool.true_and] at q
        have csz : n.cps.size = (cd n).length := by
          show n.cps.size = n.cps.toList.length
          simp
        refine ⟨_, rfl, _, _, 1, .str n, rfl, rfl, hT, rfl, n, rfl, fun D nD => lc_map (walk_str (z := n)) (xs := (cd n).map fun c => V.str ⟨#[c]⟩) (fun i => (cd n)[i]?.bind badNm) (fun i H x H' hi hy => ?_) nD (fun _ _ => trivial) (by rw [csz, cd_len]; omega) (fun i y H' R hi hy s hR => ?_) (fun H' s eL => ?_)⟩
        · obtain ⟨rfl, c, hc, rfl⟩ := hy
          refine ⟨rfl, ?_⟩
          have hc2 : (cd n)[i]? = some c := by
            show n.cps.toList[i]? = some c
            simpa using hc
          rw [List.getElem?_map, hc2]
          rfl
        · rw [List.getElem?_map] at hy
          obtain ⟨c, hc, rfl⟩ := Option.map_eq_some_iff.mp hy
          have ef : (cd n)[i]?.bind badNm = badNm c := by rw [hc]; rfl
          have r1 : (!decide (((⟨#[c]⟩ : Str).cps.toList) < (("a" : Str).cps.toList))) = decide (97 ≤ c) := by
            rw [← decide_not]
            exact decide_eq_decide.mpr (by rw [show (("a" : Str).cps.toList) = [97] from rfl, show ((⟨#[c]⟩ : Str).cps.toList) = [c] from rfl, lt1]; omega)
          have r2 : (!decide ((("z" : Str).cps.toList) < ((⟨#[c]⟩ : Str).cps.toList))) = decide (c ≤ 122) := by
            rw [← decide_not]
            exact decide_eq_decide.mpr (by rw [show (("z" : Str).cps.toList) = [122] from rfl, show ((⟨#[c]⟩ : Str).cps.toList) = [c] from rfl, lt1]; omega)
          have good : ∀ Hx, Same H' Hx → nameB c = true → R none Hx := fun Hx sx e => hR _ _ (by rw [ef]; unfold badNm; rw [if_pos e]) sx
          have bad : ∀ Hx, Same H' Hx → nameB c = false → R (some (.str ⟨#[c]⟩)) Hx := fun Hx sx e => hR _ _ (by rw [ef]; unfold badNm; rw [e, if_neg (by decide)]) sx
          refine ⟨rfl, _, rfl, "a", ⟨#[c]⟩, rfl, rfl, _, rfl, ?_⟩
          rw [r1]
          have nb : nameB c = (decide (97 ≤ c) && decide (c ≤ 122)) := rfl
          refine ite2 (fun e1 => ?_) (fun e1 => ?_)
          · refine ⟨⟨#[c]⟩, "z", rfl, rfl, _, rfl, ?_⟩
            rw [r2]
            rw [e1, Bool.true_and] at nb
            rw [← nb]
            cases e3 : nameB c with
            | true => exact ite2 (fun q => by cases q) (fun _ => good _ (Same.refl _) e3)
            | false => exact ite2 (fun _ => ⟨_, rfl, bad _ (Same.refl _) e3⟩) (fun q => absurd rfl q)
          · rw [Bool.eq_false_iff.mpr e1, Bool.false_and] at nb
            exact ⟨_, rfl, ite2 (fun _ => ⟨_, rfl, bad _ (Same.refl _) nb⟩) (fun q => absurd rfl q)⟩
        · have el : n.cps.size = (cd n).length := csz
          rw [el, fm_bind] at eL
          refine ⟨by show 0 ≤ sizeLine; omega, fun l2 n2 => ⟨D, l2, _, rfl, rfl, .of (same_upd n2 _ _ eL), .of upd_same, ?_⟩⟩
          have q2 := q _ (s.trans (same_upd (o := .lst []) n2))
          rw [← badn_none] at q2
          exact q2
      · have e : ¬ n.length ≤ 8 := fun w => e (decide_eq_true (il.mpr w))
        rw [decide_eq_false e, Bool.false_and] at q
        exact q H (Same.refl H)
    have nuse : ∀ n, d ≠ .use n := fun n e => isu ⟨n, e⟩
    have ex : ∃ a word xs, v = .ref a ∧ SqT K H a (.str word :: xs) ∧ word ≠ "use" ∧ ((word ∈ (["move", "store"] : List Str) ∧ xs = (pathsOf d).map V.str) ∨ (¬ word ∈ (["move", "store"] : List Str) ∧ ∃ p y, xs = [.str p, y] ∧ pathsOf d = [p])) := by
      cases d with
      | use n => exact absurd rfl (nuse n)
      | store p =>
        cases hd with
        | tup hT hA =>
        cases hA with
        | cons v1 hA =>
        cases hA with
        | cons v2 hA =>
        cases hA
        cases v1
        cases v2
        exact ⟨_, "store", _, rfl, hT, by decide, .inl ⟨by decide, rfl⟩⟩
      | put p t =>
        cases hd with
        | tup hT hA =>
        cases hA with
        | cons v1 hA =>
        cases hA with
        | cons v2 hA =>
        cases hA with
        | cons v3 hA =>
        cases hA
        cases v1
        cases v2
        exact ⟨_, "put", _, rfl, hT, by decide, .inr ⟨by decide, p, _, rfl, rfl⟩⟩
      | move p t =>
        cases hd with
        | tup hT hA =>
        cases hA with
        | cons v1 hA =>
        cases hA with
        | cons v2 hA =>
        cases hA with
        | cons v3 hA =>
        cases hA
        cases v1
        cases v2
        cases v3
        exact ⟨_, "move", _, rfl, hT, by decide, .inl ⟨by decide, rfl⟩⟩
      | take p t =>
        cases hd with
        | tup hT hA =>
        cases hA with
        | cons v1 hA =>
        cases hA with
        | cons v2 hA =>
        cases hA with
        | cons v3 hA =>
        cases hA
        cases v1
        cases v2
        exact ⟨_, "take", _, rfl, hT, by decide, .inr ⟨by decide, p, _, rfl, rfl⟩⟩
    have psz : ∀ p ∈ pathsOf d, p.length ≤ 100000 := by
      cases d with
      | use n => exact fun p hp => absurd hp List.not_mem_nil
      | store p =>
        have : 5 + 1 + (p.length + 1 + 0) ≤ 100000 := sz
        intro y hy
        rw [List.mem_singleton.mp hy]
        omega
      | put p t =>
        have : 3 + 1 + (p.length + 1 + (t.length + 1 + 0)) ≤ 100000 := sz
        intro y hy
        rw [List.mem_singleton.mp hy]
        omega
      | move p t =>
        have : 4 + 1 + (p.length + 1 + (t.length + 1 + 0)) ≤ 100000 := sz
        intro y hy
        rcases List.mem_cons.mp hy with rfl | hy
        · omega
        · rw [List.mem_singleton.mp hy]
          omega
      | take p ts =>
        have : 4 + 1 + (p.length + 1 + ((PyData.tuple (ts.map PyData.str)).bulk + 1 + 0)) ≤ 100000 := sz
        intro y hy
        rw [List.mem_singleton.mp hy]
        omega
    have pn : (pathsOf d).length ≤ 2 := by cases d <;> (show _ ≤ 2; simp [pathsOf])
    rw [ok_paths ro nuse] at q
    obtain ⟨a, word, xs, rfl, hT, nu, hx⟩ := ex
    refine ⟨fun σ' H' => H' = H ∧ σ' = [some (.ref a), none, none, none], ?_, ?_⟩
    · refine ⟨_, rfl, _, _, 0, .str word, rfl, rfl, hT, atI_nat (j := 0) rfl, rfl, _, rfl, ite2 (fun z => ?_) (fun _ => ⟨rfl, rfl⟩)⟩
      rw [ne_str nu] at z
      cases z
    rintro σ1 H1 ⟨rfl, rfl⟩
    refine ⟨fun σ' H' => ∃ T, Same H1 H' ∧ SqT K H' T ((pathsOf d).map V.str) ∧ σ' = [some (.ref a), some (.ref T), none, none], ?_, ?_⟩
    · refine ⟨_, rfl, _, _, 0, .str word, rfl, rfl, hT, atI_nat (j := 0) rfl, by show 2 ≤ sizeLine; omega, fun p np => ⟨p, _, rfl, .inr (.of upd_same), rfl, rfl, _, rfl, ?_⟩⟩
      have sp := same_upd (o := .tup [.str "move", .str "store"]) np
      have ei : inV (.str word) [.str "move", .str "store"] = decide (word ∈ (["move", "store"] : List Str)) := inV_str (l := ["move", "store"])
      show (if inV (.str word) [.str "move", .str "store"] = true then _ else _)
      rw [ei]
      rcases hx with ⟨hin, rfl⟩ | ⟨hin, pp, y, rfl, ep⟩
      · rw [decide_eq_true hin]
        refine ite2 (fun _ => ?_) (fun z => absurd rfl z)
        refine ⟨_, rfl, _, rfl, a, _, rfl, same_tup sp hT, fun z => absurd z (six1 (by rw [List.length_cons]; omega)), fun _ r nr => ⟨r, sp.trans (same_upd nr), ?_, rfl⟩⟩
        rw [cut1]
        exact .of upd_same
      · rw [decide_eq_false hin]
        refine ite2 (fun z => by cases z) (fun _ => ?_)
        refine ⟨_, rfl, _, rfl, _, rfl, a, _, rfl, same_tup sp hT, fun z => absurd z (fun z => six1 (n := 3) (m := 2) (by decide) ⟨z.1, by have z2 := z.2; exact z2⟩), fun _ r nr => ⟨r, sp.trans (same_upd nr), ?_, rfl⟩⟩
        rw [cut12, ep]
        exact .of upd_same
    rintro σ2 H2 ⟨T, s2, hP, rfl⟩
    refine ⟨_, rfl, T, rfl, ⟨_, hP⟩, fun D nD => lc_map (walk_tup (xs := (pathsOf d).map V.str)) (xs := (pathsOf d).map V.str) (fun i => (pathsOf d)[i]?.bind badPt) (fun i _ _ _ hi hy => hy) nD (fun H' s => same_tup s hP) (by rw [List.length_map]; omega) (fun i y H' R hi hy s hR => ?_) (fun H' s eL => ?_)⟩
    · rw [List.getElem?_map] at hy
      obtain ⟨z, hz, rfl⟩ := Option.map_eq_some_iff.mp hy
      have zl := psz z (List.mem_of_getElem? hz)
      have ef : (pathsOf d)[i]?.bind badPt = badPt z := by rw [hz]; rfl
      have good : ∀ Hx, Same H' Hx → lenB z = true → R none Hx := fun Hx sx e => hR _ _ (by rw [ef]; unfold badPt; rw [if_pos e]) sx
      have bad : ∀ Hx, Same H' Hx → lenB z = false → R (some (.str z)) Hx := fun Hx sx e => hR _ _ (by rw [ef]; unfold badPt; rw [e, if_neg (by decide)]) sx
      have nb : lenB z = (decide (1 ≤ z.length) && decide (z.length ≤ 12)) := rfl
      have r1 : decide ((1 : Int) ≤ (z.length : Nat)) = decide (1 ≤ z.length) := decide_eq_decide.mpr (by omega)
      have r2 : decide (((z.length : Nat) : Int) ≤ 12) = decide (z.length ≤ 12) := decide_eq_decide.mpr (by omega)
      refine ⟨rfl, _, rfl, z, rfl, by omega, _, _, rfl, rfl, _, rfl, ?_⟩
      rw [r1]
      refine ite2 (fun e1 => ?_) (fun e1 => ?_)
      · refine ⟨_, _, rfl, rfl, _, rfl, ?_⟩
        rw [r2]
        rw [e1, Bool.true_and] at nb
        rw [← nb]
        cases e3 : lenB z with
        | true => exact ite2 (fun q => by cases q) (fun _ => good _ (Same.refl _) e3)
        | false => exact ite2 (fun _ => ⟨_, rfl, bad _ (Same.refl _) e3⟩) (fun q => absurd rfl q)
      · rw [Bool.eq_false_iff.mpr e1, Bool.false_and] at nb
        exact ⟨_, rfl, ite2 (fun _ => ⟨_, rfl, bad _ (Same.refl _) nb⟩) (fun q => absurd rfl q)⟩
    · rw [List.length_map, fm_bind] at eL
      refine ⟨by show 0 ≤ sizeLine; omega, fun l2 n2 => ⟨D, l2, _, rfl, rfl, .of (same_upd n2 _ _ eL), .of upd_same, ?_⟩⟩
      have q2 := q _ ((s2.trans s).trans (same_upd (o := .lst []) n2))
      rw [← badp_none] at q2
      exact q2
end
end K0
end
/-! ### LW8 -/
section
set_option Elab.async false
set_option linter.all false
set_option maxRecDepth 100000
set_option maxHeartbeats 4000000
/-! _law_bent. -/
namespace K0
open PySem PySem.Spec PyProof.Rows L2
/-- a row: no line end, small codes -/
def rowP (z : Str) : Prop := ∀ c ∈ cd z, c < 128 ∧ c ≠ 10
theorem rowP_app {a b : Str} (h : rowP a) (g : rowP b) : rowP (a ++ b) := fun c hc => by
  rw [cd_app] at hc
  rcases List.mem_append.mp hc with hc | hc
  · exact h c hc
  · exact g c hc
theorem rowP_sub {a b : Str} (h : rowP a) (g : ∀ c ∈ cd b, c ∈ cd a) : rowP b := fun c hc => h c (g c hc)
theorem cutS_to (z : Str) (n : Nat) : cutS z none (some (n : Nat)) = tx ((cd z).take n) := by
  unfold cutS
  rw [HT.sIx_none, show HT.sIx z.length z.length (some ((n : Nat) : Int)) = min n z.length from HT.sIx_nat _ _ n]
  have hl : z.cps.toList.length = z.length := by
    show _ = z.cps.size
    simp
  show (⟨((z.cps.toList.drop 0).take (min n z.length - 0)).toArray⟩ : Str) = ⟨(z.cps.toList.take n).toArray⟩
  rw [List.drop_zero, Nat.sub_zero]
  congr 2
  rw [← hl, List.take_eq_take_iff]
  omega
theorem cutS_from (z : Str) (n : Nat) : cutS z (some (n : Nat)) none = tx ((cd z).drop n) := by
  unfold cutS
  rw [HT.sIx_none, show HT.sIx z.length 0 (some ((n : Nat) : Int)) = min n z.length from HT.sIx_nat _ _ n]
  have hl : z.cps.toList.length = z.length := by
    show _ = z.cps.size
    simp
  show (⟨((z.cps.toList.drop (min n z.length)).take (z.length - min n z.length)).toArray⟩ : Str) = ⟨(z.cps.toList.drop n).toArray⟩
  rw [List.take_of_length_le (by rw [List.length_drop]; omega)]
  congr 2
  by_cases h : n ≤ z.length
  · rw [Nat.min_eq_left h]
  · rw [Nat.min_eq_right (by omega), List.drop_of_length_le (by omega), List.drop_of_length_le (by omega)]
theorem cutV_to (xs : List V) (n : Nat) : cutV xs none (some (n : Nat)) = xs.take n := by
  unfold cutV
  rw [HT.sIx_none, show HT.sIx xs.length xs.length (some ((n : Nat) : Int)) = min n xs.length from HT.sIx_nat _ _ n, List.drop_zero, Nat.sub_zero, List.take_eq_take_iff]
  omega
theorem cutV_from (xs : List V) (n : Nat) : cutV xs (some (n : Nat)) none = xs.drop n := by
  unfold cutV
  rw [HT.sIx_none, show HT.sIx xs.length 0 (some ((n : Nat) : Int)) = min n xs.length from HT.sIx_nat _ _ n]
  rw [List.take_of_length_le (by rw [List.length_drop]; omega)]
  by_cases h : n ≤ xs.length
  · rw [Nat.min_eq_left h]
  · rw [Nat.min_eq_right (by omega), List.drop_of_length_le (by omega), List.drop_of_length_le (by omega)]
theorem sumLen_app (a b : List Str) : sumLen (a ++ b) = sumLen a + sumLen b := by
  unfold sumLen
  rw [List.map_append, List.sum_append]
theorem sum_parts (W : List Str) (a b : Nat) (h : a ≤ b) : sumLen (W.take a) + sumLen (W.drop b) ≤ sumLen W := by
  have e : W = W.take a ++ ((W.drop a).take (b - a) ++ (W.drop a).drop (b - a)) := by rw [List.take_append_drop, List.take_append_drop]
  have e2 : sumLen W = sumLen (W.take a) + (sumLen ((W.drop a).take (b - a)) + sumLen ((W.drop a).drop (b - a))) := by
    conv => lhs; rw [e]
    rw [sumLen_app, sumLen_app]
  rw [List.drop_drop, show a + (b - a) = b by omega] at e2
  omega
theorem rowP_join {ws : List Str} (h : ∀ y ∈ ws, rowP y) : rowP (Txt.join (one 32) ws) := fun c hc => by
  rw [txt_join, cd_join] at hc
  rcases joinC_mem hc with rfl | ⟨x, hx, hm⟩
  · exact ⟨by decide, by decide⟩
  · obtain ⟨y, hy, rfl⟩ := List.mem_map.mp hx
    exact h y hy c hm
theorem len_join (ws : List Str) : (Txt.join (one 32) ws).length ≤ sumLen ws + ws.length := by
  rw [txt_join]
  have h1 := StrLaws.join_length_le (one 32) ws
  have e : (one 32).length = 1 := rfl
  rw [e, Nat.mul_one] at h1
  exact h1
def rowK (z : Str) : Bool := (cd z).all fun c => decide (c < 128) && decide (c ≠ 10)
theorem rowK_ok {z : Str} (h : rowK z = true) : rowP z := fun c hc => by
  have := List.all_eq_true.mp h c hc
  obtain ⟨h1, h2⟩ := Bool.and_eq_true_iff.mp this
  exact ⟨of_decide_eq_true h1, of_decide_eq_true h2⟩
def someL : List Str := ["=", "=a", "a", "=A", "use", "take", "", "-", "put", "==", ("=" : Str) ++ rep "a" 13, "Old", "abcdefghi"]
theorem some_ok : ∀ z ∈ someL, rowP z ∧ z.length ≤ 14 := by
  have h : (someL.all fun z => rowK z && decide (z.length ≤ 14)) = true := by decide +kernel
  intro z hz
  obtain ⟨h1, h2⟩ := Bool.and_eq_true_iff.mp (List.all_eq_true.mp h z hz)
  exact ⟨rowK_ok h1, of_decide_eq_true h2⟩
theorem sg_ok : ∀ z ∈ ((" =aA#z-" : Str).cps.toList.map fun c => (⟨#[c]⟩ : Str)), rowP z ∧ z.length = 1 := by
  have h : (((" =aA#z-" : Str).cps.toList.map fun c => (⟨#[c]⟩ : Str)).all fun z => rowK z && decide (z.length = 1)) = true := by decide +kernel
  intro z hz
  obtain ⟨h1, h2⟩ := Bool.and_eq_true_iff.mp (List.all_eq_true.mp h z hz)
  exact ⟨rowK_ok h1, of_decide_eq_true h2⟩
theorem one_at {K : PySem.W.Frag} {p l : Addr} {H : Hp} {xs : List V} {Q : VK} (D0 : Dice p H) (nl : l ≠ p) (el : H l = some (.lst xs)) (ne : xs ≠ []) (len : xs.length ≤ 1000) (q : ∀ H' x, x ∈ xs → Keep p H H' → Q x H') : spOne K [.ref p, .ref l] H Q (fun _ _ _ => False) := by
  obtain ⟨a, b, c, hp⟩ := D0
  exact ⟨p, a, b, c, _, xs, rfl, hp, .inl ⟨l, rfl, .inl (.of el)⟩, ne, by rw [sizeLine_eq]; omega, fun a' b' c' => .inl ⟨l, rfl, .inl (.of (by rw [upd_ne nl]; exact el))⟩, fun a1 b1 c1 i x hx => q _ x (List.mem_of_getElem? hx) (.dice a1 b1 c1)⟩
theorem nil_c {σ : L2.St} {H : Hp} {Q : List V → Hp → Prop} (h : Q [] H) : tNil σ H Q := h
theorem roll_of {p : Addr} {H : Hp} {n : Nat} {Q : VK} (D0 : Dice p H) (n0 : 0 < n) (n1 : n ≤ 10000000) (q : ∀ H' (r : Nat), r < n → Keep p H H' → Q (.int (r : Nat)) H') : spRoll [.ref p, .int (n : Nat)] H Q (fun _ _ _ => False) := by
  obtain ⟨a, b, c, hp⟩ := D0
  refine ⟨p, a, b, c, _, rfl, hp, len_div n0 (by rw [sizeLine_eq]; omega), fun a' b' c' r r0 r1 => ?_⟩
  have e : r = ((r.toNat : Nat) : Int) := by omega
  rw [e]
  exact q _ _ (by omega) (.dice a' b' c')
theorem mem_joinC {c : Nat} : ∀ {xs : List (List Nat)} {x : List Nat} {a : Nat}, x ∈ xs → a ∈ x → a ∈ joinC c xs
  | [], _, _, h, _ => absurd h List.not_mem_nil
  | [y], _, a, h, g => by
    rw [List.mem_singleton.mp h] at g
    exact g
  | y :: y2 :: r, x, a, h, g => by
    show a ∈ y ++ c :: joinC c (y2 :: r)
    rcases List.mem_cons.mp h with e | h
    · rw [e] at g
      exact List.mem_append_left _ g
    · exact List.mem_append_right _ (List.mem_cons_of_mem _ (mem_joinC h g))
theorem split_sub {z y : Str} {c a : Nat} (h : y ∈ Txt.split z (one c)) (g : a ∈ cd y) : a ∈ cd z := by
  have e := congrArg cd (StrLaws.join_split z (one c))
  rw [cd_join] at e
  rw [← e]
  exact mem_joinC (List.mem_map_of_mem h) g
abbrev bentN : List Str := ["dice", "line", "words", "way", "at", "spot", "some", "odd"]
theorem scBent : FnScope bentN ["dice", "line"] (defScope (top iLBent)) := ⟨rfl, rfl, rfl, by decide +kernel, rfl, by decide +kernel, by decide +kernel⟩
def spBent : Sp := fun vs H Q _ => ∃ (p : Addr) (z : Str), vs = [.ref p, .str z] ∧ Dice p H ∧ rowP z ∧ z.length ≤ 400 ∧ ∀ H' z', Keep p H H' → rowP z' → z'.length ≤ z.length + 20 → Q (.str z') H'
section
variable {P : Program} {w : World} {K : PySem.W.Frag} {mg : Str → Option Value} {base : Heap} {f fR fO : Addr} {fd fdR fdO : FuncData}
theorem ok_bent {k : Nat} (F : FnP K "_law_bent" iLBent f fd) (mlen : mg "len" = none) (mlist : mg "list" = none) (mint : mg "int" = none)
    (FR : FnOk P w K mg base CX0 (k + 2) fR fdR ["dice", "total"] spRoll) (gR : mg "_law_roll" = some (.ref fR)) (kR : PySem.W.keepIn K (.ref fR) = true) (bR : Binds K fdR ["dice", "total"] [])
    (FO : FnOk P w K mg base CX0 (k + 2) fO fdO ["dice", "items"] (spOne K)) (gO : mg "_law_one_of" = some (.ref fO)) (kO : PySem.W.keepIn K (.ref fO) = true) (bO : Binds K fdO ["dice", "items"] []) :
    FnOk P w K mg base CX0 (k + 3) f fd ["dice", "line"] spBent := by
  refine F.ok scBent (fun vs H Q E h => ?_) (fun cdv A outer s H vs Q E hr h => ?_)
  · obtain ⟨p, z, rfl, _⟩ := h
    rfl
  · obtain ⟨p, z, rfl, D0, rz, zl, q⟩ := h
    have sl : sizeLine = 16777216 := sizeLine_eq
    refine ⟨_, PSs.nox (C8.pss_cut (ps_par (i := 2) (j := 3) (by rfl) scBent.nd rfl rfl (by decide) rfl rfl (pa_cons (pe_split (pv 1) pe_str) (pa_cons (pe_call FR hr (by rfl) gR kR bR .nil pass0 (pa_cons (pv 0) (pa_cons pe_int pa_nil))) pa_nil)) rfl)
      (C8.pss_cut (ps_par (i := 4) (j := 5) (by rfl) scBent.nd rfl rfl (by decide) rfl rfl (pa_cons (pe_call FR hr (by rfl) gR kR bR .nil pass0 (pa_cons (pv 0) (pa_cons (pe_callB call_len_seq (by rfl) mlen PySem.boot_len (pa_cons (pv 2) pa_nil)) pa_nil))) (pa_cons (pe_call FR hr (by rfl) gR kR bR .nil pass0 (pa_cons (pv 0) (pa_cons (pe_op op_add (pe_callB call_len_str (by rfl) mlen PySem.boot_len (pa_cons (pv 1) pa_nil)) pe_int) pa_nil))) pa_nil)) rfl)
      (C8.pss_cut (ps_set (i := 6) scBent.nd rfl (.inl rfl) (pe_lst (pa_cons pe_str (pa_cons pe_str (pa_cons pe_str (pa_cons pe_str (pa_cons pe_str (pa_cons pe_str (pa_cons pe_str (pa_cons pe_str (pa_cons pe_str (pa_cons pe_str (pa_cons (pe_op op_add_str pe_str (pe_op op_strMul pe_str pe_int)) (pa_cons pe_str (pa_cons pe_str pa_nil)))))))))))))))
      (C8.pss_cut (ps_set (i := 7) scBent.nd rfl (.inl rfl) (pe_call FO hr (by rfl) gO kO bO .nil pass0 (pa_cons (pv 0) (pa_cons (pv 6) pa_nil))))
      (C8.pss_cut (ps_if (pt_cmpR op_eq (pv 3) pe_int (nomark _)) (pss_one (ps_ret (pe_op op_add_str (pe_op op_add_str (pe_slice sl_str (pv 1) po_none (po_some (pv 5))) (pe_call FO hr (by rfl) gO kO bO .nil pass0 (pa_cons (pv 0) (pa_cons (pe_callTy (call_list_txt rfl) (by rfl) mlist (by decide +kernel) (pa_cons pe_str pa_nil)) pa_nil)))) (pe_slice sl_str (pv 1) (po_some (pv 5)) po_none)))) pss_nil)
      (C8.pss_cut (ps_if (pt_cmpR op_eq (pv 3) pe_int (nomark _)) (pss_one (ps_ret (pe_op op_add_str (pe_slice sl_str (pv 1) po_none (po_some (pv 5))) (pe_slice sl_str (pv 1) (po_some (pe_op op_add (pv 5) pe_int)) po_none)))) pss_nil)
      (pss_one (ps_ret (pe_join pe_str (pe_op op_cat (pe_op op_cat (pe_slice sl_list (pv 2) po_none (po_some (pv 4))) (pe_op op_rep (pe_lst (pa_cons (pv 7) pa_nil)) (pe_callTy call_int1 (by rfl) mint boot_int (pa_cons (pe_cmpR op_gt (pv 3) pe_int (nomark _)) pa_nil)))) (pe_slice sl_list (pv 2) (po_some (pe_op op_add (pv 4) (pe_callTy call_int1 (by rfl) mint boot_int (pa_cons (pe_cmpR op_ne (pv 3) pe_int (nomark _)) pa_nil)))) po_none))))))))))), ?_⟩
    have ww := split_weight z (one 32) (Nat.le_refl 1)
    have ne := split_ne z (one 32)
    have wr : ∀ y ∈ Txt.split z (one 32), rowP y := fun y hy => rowP_sub rz fun c hc => split_sub hy hc
    generalize hW : Txt.split z (one 32) = W at *
    have hW2 : Txt.split z (" " : Str) = W := hW
    have wpos : 0 < W.length := List.length_pos_iff.mpr ne
    refine ⟨fun σ' H' => ∃ l r, Keep p H H' ∧ l ≠ p ∧ H' l = some (.lst (W.map V.str)) ∧ σ' = [some (.ref p), some (.str z), some (.ref l), some (.int r), none, none, none, none], ?_, ?_⟩
    · refine ⟨_, rfl, ⟨_, rfl⟩, z, " ", rfl, rfl, rfl, by omega, fun l nl => ?_⟩
      rw [hW2]
      have lp := D0.ne nl
      refine ⟨_, rfl, ?_⟩
      refine cons_c (nil_c (roll_of (n := 5) (D0.same (same_upd nl)) (by decide) (by decide) fun H1 r _ k1 => ?_))
      refine ⟨_, _, rfl, l, r, ?_, lp, k1.1 _ _ lp upd_same, rfl⟩
      obtain ⟨a, b, c, hp⟩ := D0
      exact (Keep.new hp nl).trans k1
    rintro σ1 H1 ⟨l, r, k1, lp, el, rfl⟩
    refine ⟨fun σ' H' => ∃ i j : Nat, i < W.length ∧ j ≤ z.length ∧ Keep p H H' ∧ H' l = some (.lst (W.map V.str)) ∧ σ' = [some (.ref p), some (.str z), some (.ref l), some (.int r), some (.int (i : Nat)), some (.int (j : Nat)), none, none], ?_, ?_⟩
    · refine ⟨_, rfl, _, rfl, l, _, rfl, .inl (.of el), ?_⟩
      rw [List.length_map]
      refine nil_c (roll_of k1.at wpos (by omega) fun H2 i hi k2 => ?_)
      refine ⟨_, rfl, _, rfl, z, rfl, by omega, _, _, rfl, rfl, ?_⟩
      refine nil_c (roll_of (n := z.length + 1) k2.at (by omega) (by omega) fun H3 j hj k3 => ?_)
      exact ⟨_, _, rfl, i, j, hi, by omega, (k1.trans k2).trans k3, k3.1 _ _ lp (k2.1 _ _ lp el), rfl⟩
    rintro σ2 H2 ⟨i, j, hi, hj, k2, el2, rfl⟩
    refine ⟨fun σ' H' => ∃ L, Keep p H H' ∧ L ≠ p ∧ H' L = some (.lst (someL.map V.str)) ∧ H' l = some (.lst (W.map V.str)) ∧ σ' = [some (.ref p), some (.str z), some (.ref l), some (.int r), some (.int (i : Nat)), some (.int (j : Nat)), some (.ref L), none], ?_, ?_⟩
    · refine ⟨"a", 13, rfl, rfl, by decide, by decide, by decide, by decide, "=", rep "a" 13, rfl, rfl, by decide +kernel, by show 13 ≤ sizeLine; omega, fun L nL => ⟨L, k2.new2 nL, k2.at.ne nL, upd_same, same_upd nL _ _ el2, rfl⟩⟩
    rintro σ3 H3 ⟨L, k3, Lp, eL, el3, rfl⟩
    refine ⟨fun σ' H' => ∃ o, rowP o ∧ o.length ≤ 14 ∧ Keep p H H' ∧ H' l = some (.lst (W.map V.str)) ∧ σ' = [some (.ref p), some (.str z), some (.ref l), some (.int r), some (.int (i : Nat)), some (.int (j : Nat)), some (.ref L), some (.str o)], ?_, ?_⟩
    · refine ⟨_, rfl, _, rfl, one_at k3.at Lp eL (by decide) (by decide) fun H4 x hx k4 => ?_⟩
      obtain ⟨o, ho, rfl⟩ := List.mem_map.mp hx
      exact ⟨o, (some_ok o ho).1, (some_ok o ho).2, k3.trans k4, k4.1 _ _ lp el3, rfl⟩
    rintro σ4 H4 ⟨o, ro, ol, k4, el4, rfl⟩
    have to_row : rowP (cutS z none (some (j : Nat))) ∧ (cutS z none (some (j : Nat))).length ≤ j := by
      rw [cutS_to]
      refine ⟨rowP_sub rz fun c hc => ?_, ?_⟩
      · rw [cd_tx] at hc
        exact List.mem_of_mem_take hc
      · rw [← cd_len, cd_tx, List.length_take]
        omega
    have from_row : ∀ n : Nat, rowP (cutS z (some (n : Nat)) none) ∧ (cutS z (some (n : Nat)) none).length ≤ z.length - n := fun n => by
      rw [cutS_from]
      refine ⟨rowP_sub rz fun c hc => ?_, ?_⟩
      · rw [cd_tx] at hc
        exact List.mem_of_mem_drop hc
      · rw [← cd_len, cd_tx, List.length_drop, cd_len]
        omega
    have app_len : ∀ a b : Str, (a ++ b).length = a.length + b.length := fun a b => by rw [← cd_len, cd_app, List.length_append, cd_len, cd_len]
    refine ⟨fun σ' H' => H' = H4 ∧ σ' = [some (.ref p), some (.str z), some (.ref l), some (.int r), some (.int (i : Nat)), some (.int (j : Nat)), some (.ref L), some (.str o)], ?_, ?_⟩
    · refine ⟨_, rfl, rfl, _, rfl, ite2 (fun _ => ?_) (fun _ => ⟨rfl, rfl⟩)⟩
      refine ⟨_, rfl, _, rfl, _, rfl, z, rfl, by omega, _, rfl, " =aA#z-", rfl, by decide +kernel, fun l2 n2 => ?_⟩
      refine nil_c (one_lst k4.at n2 (by decide +kernel) (by decide +kernel) fun H5 x hx k5 => ?_)
      unfold signsV at hx
      rw [mapV_str] at hx
      obtain ⟨y, hy, rfl⟩ := List.mem_map.mp hx
      obtain ⟨ry, ly⟩ := sg_ok y hy
      refine ⟨_, y, rfl, rfl, by omega, _, rfl, _, rfl, _, rfl, z, rfl, by omega, _, _, rfl, rfl, ?_, q _ _ (k4.trans k5) (rowP_app (rowP_app to_row.1 ry) (from_row j).1) ?_⟩
      · rw [app_len]
        have := (from_row j).2
        omega
      · rw [app_len, app_len]
        have := (from_row j).2
        omega
    rintro σ5 H5 ⟨rfl, rfl⟩
    refine ⟨fun σ' H' => H' = H5 ∧ σ' = [some (.ref p), some (.str z), some (.ref l), some (.int r), some (.int (i : Nat)), some (.int (j : Nat)), some (.ref L), some (.str o)], ?_, ?_⟩
    · refine ⟨_, rfl, rfl, _, rfl, ite2 (fun _ => ?_) (fun _ => ⟨rfl, rfl⟩)⟩
      have fr := from_row (j + 1)
      refine ⟨_, rfl, _, rfl, _, rfl, z, rfl, by omega, _, rfl, _, rfl, _, _, rfl, rfl, _, rfl, z, rfl, by omega, _, _, rfl, rfl, ?_, q _ _ k4 (rowP_app to_row.1 fr.1) ?_⟩
      · show (cutS z none (some (j : Nat))).length + (cutS z (some ((j + 1 : Nat) : Int)) none).length ≤ sizeLine
        omega
      · show (cutS z none (some (j : Nat)) ++ cutS z (some ((j + 1 : Nat) : Int)) none).length ≤ _
        rw [app_len]
        omega
    rintro σ6 H6 ⟨rfl, rfl⟩
    have rep1 : ∀ b : Bool, (List.replicate (if b = true then (1 : Int) else 0).toNat [V.str o]).flatten = (if b = true then [o] else []).map V.str := fun b => by cases b <;> rfl
    have at2 : ∀ b : Bool, ((i : Nat) : Int) + (if b = true then (1 : Int) else 0) = (((if b = true then i + 1 else i) : Nat) : Int) := fun b => by cases b <;> simp
    refine ⟨⟨_, rfl⟩, _, rfl, _, rfl, _, rfl, l, _, rfl, .of el4, fun P1 n1 => ?_⟩
    have s1 := same_upd (o := .lst (cutV (W.map V.str) none (some (i : Nat)))) n1
    refine ⟨_, rfl, by show 1 ≤ sizeLine; omega, fun P2 n2 => ?_⟩
    have s2 := same_upd (o := .lst [.str o]) n2
    refine ⟨_, rfl, _, _, rfl, rfl, .inr ⟨_, rfl, P2, _, [.str o], rfl, rfl, upd_same, by split <;> decide, by split <;> decide, by show 1 * _ ≤ sizeLine; split <;> (rw [sl]; decide), fun P3 n3 => ?_⟩⟩
    rw [rep1]
    have s3 := same_upd (o := .lst ((if decide (r > 2) = true then [o] else []).map V.str)) n3
    refine ⟨P1, P3, _, _, rfl, rfl, s3 _ _ (s2 _ _ upd_same), upd_same, ?_, fun P4 n4 => ?_⟩
    · rw [cutV_to, List.length_take, List.length_map, List.length_map]
      split <;> (simp only [List.length_cons, List.length_nil]; omega)
    have s4 := same_upd (o := .lst (cutV (W.map V.str) none (some (i : Nat)) ++ (if decide (r > 2) = true then [o] else []).map V.str)) n4
    have el5 := s4 _ _ (s3 _ _ (s2 _ _ (s1 _ _ el4)))
    refine ⟨_, rfl, _, rfl, _, rfl, rfl, .inr ⟨_, rfl, _, _, rfl, rfl, ?_⟩⟩
    refine ⟨_, congrArg V.int (at2 _), l, _, rfl, .of el5, fun P5 n5 => ?_⟩
    have s5 := same_upd (o := .lst (cutV (W.map V.str) (some (((if (!decide (V.int r = V.int 4)) = true then i + 1 else i) : Nat) : Int)) none)) n5
    refine ⟨P4, P5, _, _, rfl, rfl, s5 _ _ upd_same, upd_same, ?_, fun P6 n6 => ?_⟩
    · rw [cutV_to, cutV_from, List.length_append, List.length_take, List.length_drop, List.length_map, List.length_map]
      split <;> (simp only [List.length_cons, List.length_nil]; omega)
    generalize hb1 : (if decide (r > 2) = true then [o] else []) = O at *
    generalize hi2 : (if (!decide (V.int r = V.int 4)) = true then i + 1 else i) = i2 at *
    have ii2 : i ≤ i2 := by rw [← hi2]; split <;> omega
    have hO : ∀ y ∈ O, rowP y := by
      rw [← hb1]
      split
      · intro y hy
        rw [List.mem_singleton.mp hy]
        exact ro
      · intro y hy
        cases hy
    have hO2 : sumLen O + O.length ≤ 15 := by
      rw [← hb1]
      split
      · show (o.length + 0) + 1 ≤ 15
        omega
      · exact Nat.zero_le _
    have ev : cutV (W.map V.str) none (some (i : Nat)) ++ O.map V.str ++ cutV (W.map V.str) (some (i2 : Nat)) none = (W.take i ++ O ++ W.drop i2).map V.str := by
      rw [cutV_to, cutV_from, List.map_append, List.map_append, List.map_take, List.map_drop]
    rw [ev]
    have sm := sum_parts W i i2 ii2
    have sw : sumLen (W.take i ++ O ++ W.drop i2) ≤ sumLen W + sumLen O := by
      rw [sumLen_app, sumLen_app]
      omega
    have lw : (W.take i ++ O ++ W.drop i2).length ≤ W.length + O.length := by
      rw [List.length_append, List.length_append, List.length_take, List.length_drop]
      omega
    have wsum : sumLen W + W.length ≤ z.length + 1 := by
      unfold sumLen
      omega
    refine ⟨" ", P6, W.take i ++ O ++ W.drop i2, rfl, rfl, .inl (.of upd_same), ?_, q _ _ ?_ (rowP_join fun y hy => ?_) ?_⟩
    · show sumLen (W.take i ++ O ++ W.drop i2) + (W.take i ++ O ++ W.drop i2).length * 1 ≤ 16777216
      omega
    · exact ((((((k4.new2 n1).new2 n2).new2 n3).new2 n4).new2 n5).new2 n6)
    · rcases List.mem_append.mp hy with hy | hy
      · rcases List.mem_append.mp hy with hy | hy
        · exact wr y (List.mem_of_mem_take hy)
        · exact hO y hy
      · exact wr y (List.mem_of_mem_drop hy)
    · have := len_join (W.take i ++ O ++ W.drop i2)
      show (Txt.join (one 32) _).length ≤ _
      omega
end
end K0
end
/-! ### E6 -/
section
set_option Elab.async false
set_option linter.all false
set_option maxRecDepth 100000
set_option maxHeartbeats 4000000
/-! bools.index(True, 1); a field of an exception, tracked or caught; repr in a suite. -/
namespace K0
open PySem PySem.Spec PyProof.Rows L2
theorem bools_at : ∀ {bs : List Bool} {us : List Value} {i : Nat} (h : i < us.length), Vals (bs.map V.bl) us → us[i] = .bool (bs.getD i false)
  | [], us, _, h, r => by cases r; exact absurd h (Nat.not_lt_zero _)
  | b :: bs, _, 0, h, r => by cases r with | cons r1 r2 => cases r1; rfl
  | b :: bs, _, i + 1, h, r => by cases r with | cons r1 r2 => exact bools_at (bs := bs) (i := i) (Nat.lt_of_succ_lt_succ h) r2
def rIx1 (K : PySem.W.Frag) : V → List V → Hp → VK → Prop := fun x xs H Q => ∃ (a : Addr) (bs : List Bool) (j : Nat), x = .ref a ∧ xs = [.bl true, .int 1] ∧ SqL K H a (bs.map V.bl) ∧ j < bs.length ∧ 1 ≤ j ∧ bs.getD j false = true ∧ (∀ m, 1 ≤ m → m < j → bs.getD m false = false) ∧ Q (.int (j : Nat)) H
theorem mt_index1 {X : Cx} : MtR X "list.index" (rIx1 X.K) := by
  intro pins s σ H x xs v us Q I rx rxs h
  obtain ⟨a, bs, j, rfl, rfl, hs, hj, j1, hit, hno, q⟩ := h
  cases rx
  obtain ⟨u1, u2, rfl, r1, r2⟩ := vals2 rxs
  cases r1
  obtain ⟨t, rfl⟩ := r2
  obtain ⟨its, rv, ⟨⟨cls, dd, data, sl⟩, n, ho, hc, hdn, hd⟩, hlen⟩ := I.list hs
  simp only at hc hd
  subst hc hd
  have hl := rv.length
  rw [List.length_map] at hl
  rw [List.length_map, sizeLine_eq] at hlen
  have eqs : ∀ m (hm : m < its.toArray.size), its.toArray[m] = .bool (bs.getD m false) := fun m hm => by
    have z := bools_at (i := m) (by simpa using hm) rv
    simpa using z
  refine call_meets PySem.F.slot_list_index ⟨_, ho, rfl⟩ PySem.F.entry_list_index (PySem.F.args_list_index_3 _ _ _) (SeqAt.list_index3_found a its.toArray n dd sl (.bool true) (fun m => bs.getD m false) 1 t j (by simpa using (show j < its.length by omega)) ?_ ?_ hit ?_) ⟨ho, fun m hm => ?_, ?_⟩
  · rw [SeqAt.searchFrom_nonneg (by decide)]
    exact j1
  · have e2 : (2 : Int) ^ 63 = 9223372036854775808 := by decide
    omega
  · intro m hm h1 h2
    rw [SeqAt.searchFrom_nonneg (by decide)] at h1
    exact hno m h1 h2
  · rw [eqs m hm]
    have z := SeqAt.EqAt.bool_bool (A := X.A.in1) (s := s) (bs.getD m false) true
    have e : (bs.getD m false == true) = bs.getD m false := by cases bs.getD m false <;> rfl
    rw [e] at z
    exact z
  · exact ⟨.int (j : Nat), H, I.tok _, ⟨_, rfl⟩, q⟩
section
variable {X : Cx} {C : Addr} {e : Expr} {te : TE} {pos : Pos} {n : Str}
/-- e.n, e caught and pinned -/
def tXfP (p : Addr × Obj) (C : Addr) (n : Str) (te : TE) : TE := fun σ H Q => te σ H fun x H1 => ∃ (dd : Addr) (fs : List (Str × V)) (v : V), x = .ref p.1 ∧ Zc (.ref C) (some dd) p.2 ∧ (∃ us, p.2.data = .fields us) ∧ H1 dd = some (exd dd fs) ∧ fs.lookup n = some v ∧ Q v H1
theorem pe_xfP {p : Addr × Obj} (hp : p ∈ X.pn) (f : XF X.K C) (no : PySem.W.findIn X.K (.ref C) n = some none) (he : PE X e te) (hb : attributeBase e n X.env (eval e X.env) = eval e X.env := by rfl) : PE X (.Attribute e n pos) (tXfP p C n te) := by
  refine ⟨fun pins s σ H Q I h => attr_of hb (thn (he.run pins s σ H _ I h) fun u s1 ⟨x, H1, I1, rx, dd, fs, v, ex, hz, ⟨us, hv⟩, ed, l, q⟩ => ?_)⟩
  subst ex
  obtain rfl : u = Value.ref p.1 := rx
  obtain ⟨ho, _⟩ := I1.pin p (List.mem_append_left _ hp)
  obtain ⟨mA, hns, hr⟩ := exd_at I1.hok ed
  obtain ⟨od, hod, hl⟩ := lookIn_ns hns
  obtain ⟨u, hu, ru⟩ := RelO.some_of (v := v) (o := mA n) (by rw [← l]; exact hr n)
  exact HandSPX.exc_get I1.kIn (od := some od) ⟨ho, hz.1, by unfold PySem.W.notCls; rw [hv] <;> rfl, by rw [hz.2]; exact hod⟩ f.hga f.hgt f.hsub (PySem.W.findObj_own f.hd no rfl (by rw [hl, hu])) (handed_of ru) ⟨v, H1, I1.tok _, ru, q⟩
end
end K0
end
/-! ### LW9 -/
section
set_option Elab.async false
set_option linter.all false
set_option maxRecDepth 100000
set_option maxHeartbeats 4000000
/-! _law_told. -/
namespace K0
open PySem PySem.Spec PyProof.Rows L2
theorem scTold : FnScope ["text", "error"] ["text"] (defScope (top iLTold)) := ⟨rfl, rfl, rfl, by decide +kernel, rfl, by decide +kernel, by decide +kernel⟩
theorem pss_imp {X : Cx} {st : List Stmt} {t t' : TS} (h : PSs X st t) (i : ∀ D σ H, t' D σ H → t D σ H) : PSs X st t' := ⟨fun pins s σ H D I z => h.run pins s σ H D I (i D σ H z)⟩
def tsN (CP : Addr) : Addr → Value → Option Addr → TS := fun a cls d D σ H => ∀ oe : Obj, Zc cls d oe → (∃ vs, oe.data = .fields vs) → tRet (tXfP (a, oe) CP "number" (tVar 1)) D σ H
def textOk (z : Str) : Prop := z.length ≤ 50000 ∧ (linesL z).length ≤ 1000 ∧ ∀ y ∈ linesL z, y.length ≤ 9000
def spTold (K : PySem.W.Frag) : Sp := fun vs H Q _ => ∃ z : Str, vs = [.str z] ∧ textOk z ∧ ∀ H' x, Same H H' → Dv K H' x (dueZ z) → Q x H'
section
variable {P : Program} {w : World} {K : PySem.W.Frag} {mg : Str → Option Value} {base : Heap} {f fR CT CP : Addr} {fd fdR : FuncData}
theorem ok_told {k : Nat} (F : FnP K "_law_told" iLTold f fd) (xN : XF K CP) (gE : mg "ParseError" = some (.ref CP)) (hm : PySem.W.exmOne K (.ref CP) (.ref CP) = some true) (no : PySem.W.findIn K (.ref CP) "number" = some none)
    (FR : FnOk P w K mg base (L2.CX P w) (k + 5) fR fdR ["lines"] (spReadH K CT CP)) (gR : mg "read_history" = some (.ref fR)) (kR : PySem.W.keepIn K (.ref fR) = true) (bR : Binds K fdR ["lines"] []) :
    FnOk P w K mg base CX0 (k + 6) f fd ["text"] (spTold K) := by
  refine F.ok scTold (fun vs H Q E h => ?_) (fun cdv A outer s H vs Q E hr h => ?_)
  · obtain ⟨z, rfl, _⟩ := h
    rfl
  · obtain ⟨z, rfl, ⟨z1, z2, z3⟩, q⟩ := h
    refine ⟨_, PSs.nox (pss_one (ps_tryA (Wout := fun _ _ _ _ => False) (tb := fun W => tRet (tCallS (spReadH K CT CP) (WE W) (tCons (tVar 0) tNil))) (l := [⟨[.ref CP], some 1, tsN CP⟩]) rfl rfl scTold.nd takes0
        (fun W pn xe tk _ => pss_one (ps_ret (pe_callS FR hr (by rfl) gR kR bR (fun σ => passAt tk σ) (by exact (pa_cons (pv 0) pa_nil)))))
        (.cons (.one ⟨by rfl, by decide, .inl gE⟩) (.inr ⟨"error", 1, rfl, rfl, rfl, rfl⟩) (fun a oe cls d pn hz hf => pss_imp (pss_one (ps_ret (pe_xfP (C := CP) (n := "number") List.mem_cons_self xN no (pv 1)))) fun D σ H z => z oe hz hf) .nil))), ?_⟩
    refine ⟨_, rfl, .str z, .str z, rfl, .str z, .inr ⟨z, rfl, z1, z2, z3, fun n e H' dd s ed => ⟨true, ?_, fun _ a na oe hz hf => ?_, fun e => by cases e⟩, fun ds e H' x s hx => q H' x s (by rw [e]; exact hx)⟩⟩
    · show (match PySem.W.exmOne K (.ref CP) (.ref CP), (some false : Option Bool) with | some b, some d => some (b || d) | _, _ => none) = some true
      rw [hm]
      rfl
    · exact ⟨.ref a, rfl, dd, _, .int n, rfl, hz, hf, ed, by simp [List.lookup], q H' _ s (by rw [e]; exact .int _)⟩
end
end K0
end
/-! ### LW10 -/
section
set_option Elab.async false
set_option linter.all false
set_option maxRecDepth 100000
set_option maxHeartbeats 4000000
/-! None among tuples: in, index. -/
namespace K0
open PySem PySem.Spec PyProof.Rows L2
def NonT (K : PySem.W.Frag) (H : Hp) (z : V) : Prop := z = .non ∨ ∃ a xs, z = .ref a ∧ SqT K H a xs
def rNonInT (K : PySem.W.Frag) : R2 := fun x y H Q => ∃ p xs, x = .non ∧ y = .ref p ∧ SqL K H p xs ∧ (∀ z ∈ xs, NonT K H z) ∧ Q (.bl (xs.any isNon)) H
def rIxN (K : PySem.W.Frag) : V → List V → Hp → VK → Prop := fun x xs H Q => ∃ (a : Addr) (ys : List V) (j : Nat), x = .ref a ∧ xs = [.non] ∧ SqL K H a ys ∧ (∀ z ∈ ys, NonT K H z) ∧ ys[j]? = some .non ∧ (∀ m, m < j → ∀ z, ys[m]? = some z → isNon z = false) ∧ Q (.int (j : Nat)) H
section
variable {X : Cx} {pins : List (Addr × Obj)} {σ : L2.St} {H : Hp} {s : Shared}
theorem non_eq (I : Inv X pins σ H s) {A : Around} (hu : A.units < cLine) : ∀ {xs : List V} {us : List Value}, Vals xs us → (∀ z ∈ xs, NonT X.K H z) → ∀ u ∈ us, SeqAt.EqAt A s u .none (Numpy.isNone u)
  | [], _, h, _, u, m => by cases h; exact absurd m List.not_mem_nil
  | v :: xs, _, h, f, u, m => by
    cases h with
    | cons r rr =>
      rcases List.mem_cons.mp m with rfl | m
      · rcases f _ List.mem_cons_self with rfl | ⟨a, xs, rfl, hT⟩
        · cases r
          exact SeqAt.EqAt.same _
        · cases r
          obtain ⟨its, r1, p1, _⟩ := I.tuple hT
          exact SeqAt.EqAt.tuple_none p1 hu
      · exact non_eq I hu rr (fun z hz => f z (List.mem_cons_of_mem _ hz)) u m
theorem non_val {K : PySem.W.Frag} {v : V} {u : Value} (h : NonT K H v) (r : L2.RelV v u) : Numpy.isNone u = isNon v := by
  rcases h with rfl | ⟨a, xs, rfl, _⟩
  · cases r; rfl
  · cases r; rfl
theorem non_any {K : PySem.W.Frag} : ∀ {xs : List V} {us : List Value}, Vals xs us → (∀ z ∈ xs, NonT K H z) → us.any Numpy.isNone = xs.any isNon
  | [], _, h, _ => by cases h; rfl
  | v :: xs, _, h, f => by
    cases h with
    | cons r rr => rw [List.any_cons, List.any_cons, non_val (f _ List.mem_cons_self) r, non_any rr fun z hz => f z (List.mem_cons_of_mem _ hz)]
theorem non_get {K : PySem.W.Frag} : ∀ {xs : List V} {us : List Value}, Vals xs us → (∀ z ∈ xs, NonT K H z) → ∀ (i : Nat) (hi : i < us.length), ∃ z, xs[i]? = some z ∧ Numpy.isNone us[i] = isNon z
  | [], _, h, _, i, hi => by cases h; exact absurd hi (Nat.not_lt_zero _)
  | v :: xs, _, h, f, i, hi => by
    cases h with
    | cons r rr =>
      cases i with
      | zero => exact ⟨v, rfl, non_val (f _ List.mem_cons_self) r⟩
      | succ i => exact non_get rr (fun z hz => f z (List.mem_cons_of_mem _ hz)) i (Nat.lt_of_succ_lt_succ hi)
theorem op_nonInT (hu : X.A.units + 64 < cLine) : OpR X (compareOp .In) (rNonInT X.K) := by
  intro pins s σ H x y v u Q I rx ry h
  obtain ⟨p, xs, rfl, rfl, hq, f, q⟩ := h
  cases rx
  cases ry
  obtain ⟨its, rv, hl, _⟩ := I.list hq
  have hu1 : X.A.in1.units < cLine := by show X.A.units + 1 < cLine; omega
  refine SeqAt.in_listAt Numpy.isNone hl.isList (fun z hz => non_eq I hu1 rv f z (by simpa using hz)) ⟨.bl (xs.any isNon), H, I, ?_, q⟩
  show Value.bool _ = _
  rw [← non_any rv f]
  simp
theorem mt_indexN (hu : X.A.units + 64 < cLine) : MtR X "list.index" (rIxN X.K) := by
  intro pins s σ H x xs v us Q I rx rxs h
  obtain ⟨a, ys, j, rfl, rfl, hs, f, hj, hno, q⟩ := h
  cases rx
  obtain ⟨u1, rfl, r1⟩ := vals1 rxs
  cases r1
  obtain ⟨its, rv, hl, hlen⟩ := I.list hs
  have hu1 : X.A.in1.units < cLine := by show X.A.units + 1 < cLine; omega
  have hl' := hl
  obtain ⟨⟨cls, dd, data, sl⟩, n, ho, hc, hdn, hd⟩ := hl
  simp only at hc hd
  subst hc hd
  have len := rv.length
  have jl : j < its.length := by
    rw [← len]
    exact (List.getElem?_eq_some_iff.mp hj).1
  have jz : (j : Int) < 2 ^ 63 - 1 := by
    have e2 : (2 : Int) ^ 63 = 9223372036854775808 := by decide
    rw [len, sizeLine_eq] at hlen
    omega
  refine call_meets PySem.F.slot_list_index ⟨_, ho, rfl⟩ PySem.F.entry_list_index (PySem.F.args_list_index_2 _ _) (SeqAt.list_indexAt a its.toArray n dd sl .none Numpy.isNone j (by simpa using jl) jz ?_ ?_) ⟨ho, fun y hy => ?_, ?_⟩
  · obtain ⟨z, e1, e2⟩ := non_get rv f j jl
    rw [hj] at e1
    cases e1
    rw [show isNon V.non = true from rfl] at e2
    simpa using e2
  · intro m hm lt
    obtain ⟨z, e1, e2⟩ := non_get rv f m (by simpa using hm)
    have := hno m lt z e1
    rw [this] at e2
    simpa using e2
  · exact non_eq I hu1 rv f y (by simpa using hy)
  · exact ⟨.int (j : Nat), H, I.tok _, ⟨_, rfl⟩, q⟩
end
end K0
end
/-! ### LW11 -/
section
set_option Elab.async false
set_option linter.all false
set_option maxRecDepth 100000
set_option maxHeartbeats 4000000
/-! _law_due. -/
namespace K0
open PySem PySem.Spec PyProof.Rows L2
section
variable {J : It} {n : Nat} {G : Hp → Prop} {Y : Nat → Hp → V → Hp → Prop}
/-- each item is made: what is put keeps its relation to the place -/
theorem lc_rel (w : Walk J n G Y) {g : TG} {tt : TT} {te : TE} {vs : List Nat} {σ : L2.St} {H1 : Hp} {D : Addr} {Qd : Hp → Prop} {xs : List V} (Rl : Nat → V → Hp → Prop) (hY : ∀ i H x H', i < n → Y i H x H' → H' = H ∧ xs[i]? = some x) (nD : H1 D = none) (hG : ∀ H', Same H1 H' → G H') (sz : n < sizeLine)
    (st : ∀ i y H' H'', Same (fz H') H'' → Rl i y H' → Rl i y H'')
    (each : ∀ i x H' (R : V → Hp → Prop) (S : Hp → Prop), i < n → xs[i]? = some x → Same H1 H' → (∀ y H4, Rl i y H4 → Same H' H4 → R y H4) → g x (wipe σ vs) H' fun σ2 H2 => wipe σ2 vs = wipe σ vs ∧ tt σ2 H2 fun b H3 => if b = true then te σ2 H3 fun y H4 => R y H4 else S H3)
    (hd : ∀ H' ys, Same H1 H' → H' D = some (.lst ys) → ys.length = n → (∀ i y, ys[i]? = some y → Rl i y H') → Qd H') :
    ∃ W : Nat → Nat → Hp → Prop, (∃ m, W 0 m (upd H1 D (.lst []))) ∧ ∀ i m H, W i m H →
      (J.stop i H ∧ Qd H) ∨ (J.go i H ∧ ∃ Nx : Hp → Prop, (∀ H', Nx H' → ∃ m', m' < m ∧ W (i + 1) m' H') ∧ ∀ x H', J.yld i H x H' → g x (wipe σ vs) H' fun σ2 H2 => wipe σ2 vs = wipe σ vs ∧ tt σ2 H2 fun b H3 =>
        if b = true then te σ2 H3 fun y H4 => ∃ acc, H4 D = some (.lst acc) ∧ acc.length < sizeLine ∧ Nx (upd H4 D (.lst (acc ++ [y]))) else Nx H3) := by
  refine lc_it w (fun i H' => ∃ ys, Same H1 H' ∧ H' D = some (.lst ys) ∧ ys.length = i ∧ ∀ i y, ys[i]? = some y → Rl i y H') ⟨[], same_upd nD, upd_same, rfl, fun i y hy => by cases hy⟩ (fun i H' _ h => by obtain ⟨_, h, _⟩ := h; exact hG H' h) (fun i x H' H'' hi hP hy => ?_) fun H' h => by
    obtain ⟨ys, k, e, l, gd⟩ := h
    exact hd H' ys k e l gd
  obtain ⟨ys, k1, e1, l1, g1⟩ := hP
  obtain ⟨rfl, hx⟩ := hY i H' x H'' hi hy
  refine each i x H'' _ _ hi hx k1 fun y H4 gy k4 => ?_
  have eD : H4 D = some (.lst ys) := k4 _ _ e1
  have fs : Same (fz H4) (upd H4 D (.lst (ys ++ [y]))) := fun b o z => by
    obtain ⟨e, nl, _⟩ := fz_out z
    rw [upd_ne (fun q => by rw [q, eD] at e; exact nl _ (Option.some.inj e).symm)]
    exact e
  refine ⟨ys, eD, by omega, ys ++ [y], fun b o z => ?_, upd_same, by rw [List.length_append, l1]; rfl, fun i' z hz => ?_⟩
  · rw [upd_ne (ne_of_none z nD)]
    exact k4 _ _ (k1 _ _ z)
  · by_cases hi' : i' < ys.length
    · rw [List.getElem?_append_left hi'] at hz
      exact st _ _ _ _ fs (st _ _ _ _ (fz_same.trans k4) (g1 i' z hz))
    · rw [List.getElem?_append_right (by omega)] at hz
      have e0 : i' - ys.length = 0 := by
        by_cases h : i' - ys.length = 0
        · exact h
        · rw [List.getElem?_eq_none (by show 1 ≤ _; omega)] at hz; cases hz
      rw [e0] at hz
      cases hz
      have e2 : i' = i := by omega
      subst e2
      exact st _ _ _ _ fs gy
end
theorem bad_some : ∀ {l : List (Option DeedV)} {n : Nat}, firstBad l = some n → l[n]? = some none ∧ ∀ m, m < n → ∃ d, l[m]? = some (some d)
  | [], _, h => by cases h
  | none :: l, n, h => by
    have h : some 0 = some n := h
    cases h
    exact ⟨rfl, fun m hm => absurd hm (Nat.not_lt_zero _)⟩
  | some d :: l, n, h => by
    have h : (firstBad l).map (· + 1) = some n := h
    cases e : firstBad l with
    | none => rw [e] at h; cases h
    | some k =>
      rw [e] at h
      have h : some (k + 1) = some n := h
      cases h
      obtain ⟨h1, h2⟩ := bad_some e
      refine ⟨h1, fun m hm => ?_⟩
      cases m with
      | zero => exact ⟨d, rfl⟩
      | succ m => exact h2 m (by omega)
theorem bad_nonA : ∀ {L : List Str}, firstBad (L.map lineOf) = none → L.map lineOf = (L.filterMap lineOf).map some
  | [], _ => rfl
  | y :: L, h => by
    rw [List.map_cons] at h
    cases e : lineOf y with
    | none => rw [e] at h; cases h
    | some d =>
      rw [e] at h
      have h : (firstBad (L.map lineOf)).map (· + 1) = none := h
      have h2 : firstBad (L.map lineOf) = none := by
        cases q : firstBad (L.map lineOf) with
        | none => rfl
        | some n => rw [q] at h; cases h
      rw [List.map_cons, List.filterMap_cons_some e, List.map_cons, e, bad_nonA h2]
theorem LineV.fz {K : PySem.W.Frag} {H H' : Hp} {v : V} {o : Option DeedV} (h : LineV K H v o) (s : Same (fz H) H') : LineV K H' v o := by
  rcases h with h | ⟨d, e, h⟩
  · exact .inl h
  · exact .inr ⟨d, e, Dv.same s _ _ (dv_fz h (data_tup d))⟩
theorem data_is_tup {K : PySem.W.Frag} {H : Hp} {x : V} {d : DeedV} (h : Dv K H x d.data) : ∃ a xs, x = .ref a ∧ SqT K H a xs := by
  cases d <;> (cases h with | tup h1 h2 => exact ⟨_, _, rfl, h1⟩)
abbrev dueN : List Str := ["lines", "deeds", "line", "deed"]
theorem scDue : FnScope dueN ["lines"] (defScope (top iLDue)) := ⟨rfl, rfl, rfl, by decide +kernel, rfl, by decide +kernel, by decide +kernel⟩
def spDue (K : PySem.W.Frag) : Sp := fun vs H Q _ => ∃ (a : Addr) (L : List Str), vs = [.ref a] ∧ H a = some (.lst (L.map V.str)) ∧ L.length ≤ 100 ∧ (∀ y ∈ L, y.length ≤ 9000) ∧ ∀ H' x, Same H H' → Dv K H' x (dueOf L) → Q x H'
section
variable {P : Program} {w : World} {K : PySem.W.Frag} {mg : Str → Option Value} {base : Heap} {f fR fI : Addr} {fd fdR fdI : FuncData}
theorem ok_due {k : Nat} (F : FnP K "_law_due" iLDue f fd) (mlen : mg "len" = none) (mtuple : mg "tuple" = none)
    (FR : FnOk P w K mg base CX0 (k + 3) fR fdR ["line"] (spLRead K)) (gR : mg "_law_read" = some (.ref fR)) (kR : PySem.W.keepIn K (.ref fR) = true) (bR : Binds K fdR ["line"] [])
    (FI : FnOk P w K mg base CX0 (k + 3) fI fdI ["deed"] (spLIs K)) (gI : mg "_law_is_deed" = some (.ref fI)) (kI : PySem.W.keepIn K (.ref fI) = true) (bI : Binds K fdI ["deed"] []) :
    FnOk P w K mg base CX0 (k + 4) f fd ["lines"] (spDue K) := by
  refine F.ok scDue (fun vs H Q E h => ?_) (fun cdv A outer s H vs Q E hr h => ?_)
  · obtain ⟨a, L, rfl, _⟩ := h
    rfl
  · obtain ⟨a, L, rfl, ha, Ln, Ll, q⟩ := h
    have sl : sizeLine = 16777216 := sizeLine_eq
    refine ⟨_, PSs.nox (C8.pss_cut (ps_setLc (i := 1) (own := [("line", 2)]) (g := gName 2) (tt := tYes) (te := tCall (spLRead K) [] (fun _ _ _ => False) (tCons (tVar 2) tNil)) rfl scDue.nd rfl rfl (sw_true rfl rfl rfl (by decide +kernel)) (pi_list (pv 0)) (blkOk_by (N := dueN) (sc := defScope (top iLDue)) (by decide +kernel))
          (fun _ _ _ _ _ => pg_name (i := 2) scDue.nd rfl (Or.inl rfl)) (fun _ _ _ _ _ => pts_nil) (fun _ _ _ _ _ => pe_call FR hr (by rfl) gR kR bR .nil pass0 (pa_cons (pv 2) pa_nil)))
      (C8.pss_cut (ps_if (pt_cmpR (op_nonInT hr.units) pe_non (pv 1) rfl) (pss_one (ps_ret (pe_bm PySem.F.plainAttrs_list PySem.F.slot_list_index PySem.F.type_list_index (mt_indexN hr.units) (pv 1) (pa_cons pe_non pa_nil)))) pss_nil)
      (C8.pss_cut (ps_if (PW.pt (pw_or (pt_cmpR op_gt (pe_callB call_len_seq (by rfl) mlen PySem.boot_len (pa_cons (pv 1) pa_nil)) pe_int (nomark _)) (pw_or1 (pt_cmpR (op_neNil hr.units) (pe_lc (own := [("deed", 3)]) (g := gName 3) (te := tVar 3) rfl scDue.nd (pi_list (pv 1)) (blkOk_by (N := dueN) (sc := defScope (top iLDue)) (by decide +kernel))
          (fun _ _ _ _ _ => pg_name (i := 3) scDue.nd rfl (Or.inl rfl)) (fun _ _ _ _ _ => pts_one (pt_not (pt_val (pe_call FI hr (by rfl) gI kI bI .nil pass0 (pa_cons (pv 3) pa_nil))))) (fun _ _ _ _ _ => pv 3)) (pe_lst pa_nil) (nomark _)))))
        (pss_one (ps_ret (pe_callB call_len_seq (by rfl) mlen PySem.boot_len (pa_cons (pv 0) pa_nil)))) pss_nil)
      (pss_one (ps_ret (pe_callTy call_tuple_of (by rfl) mtuple (by decide +kernel) (pa_cons (pv 1) pa_nil))))))), ?_⟩
    refine ⟨fun σ' H' => ∃ D ys, Same H H' ∧ H' D = some (.lst ys) ∧ ys.length = L.length ∧ (∀ (i : Nat) y, ys[i]? = some y → ∃ z, L[i]? = some z ∧ LineV K H' y (lineOf z)) ∧ σ' = [some (.ref a), some (.ref D), none, none], ?_, ?_⟩
    · refine ⟨_, rfl, a, rfl, ⟨_, .of ha⟩, fun D nD => lc_rel (walk_list (xs := L.map V.str)) (xs := L.map V.str) (fun i y H' => ∃ z, L[i]? = some z ∧ LineV K H' y (lineOf z)) (fun i _ _ _ hi hy => hy) nD (fun H' s => .of (s _ _ ha)) (by rw [List.length_map]; omega) (fun i y H' H'' s h => ?_) (fun i y H' R S hi hy s hR => ?_) (fun H' ys s eD yl rl => ?_)⟩
      · obtain ⟨z, e, h⟩ := h
        exact ⟨z, e, h.fz s⟩
      · rw [List.getElem?_map] at hy
        obtain ⟨z, hz, rfl⟩ := Option.map_eq_some_iff.mp hy
        exact ⟨rfl, _, rfl, z, rfl, Ll z (List.mem_of_getElem? hz), fun H3 x s3 hx => hR x H3 ⟨z, hz, hx⟩ s3⟩
      · rw [List.length_map] at yl
        exact ⟨D, ys, s, eD, yl, rl, rfl⟩
    rintro σ1 H1 ⟨D, ys, s1, eD, yl, rl, rfl⟩
    have nt : ∀ z ∈ ys, NonT K H1 z := fun z hz => by
      obtain ⟨i, hi⟩ := List.getElem?_of_mem hz
      obtain ⟨u, _, h⟩ := rl i z hi
      rcases h with ⟨rfl, _⟩ | ⟨d, _, h⟩
      · exact .inl rfl
      · exact .inr (data_is_tup h)
    refine ⟨fun σ' H' => H' = H1 ∧ firstBad (L.map lineOf) = none ∧ σ' = [some (.ref a), some (.ref D), none, none], ?_, ?_⟩
    · refine ⟨_, rfl, D, ys, rfl, rfl, .of eD, nt, _, rfl, ?_⟩
      have isn : ∀ (i : Nat) y, ys[i]? = some y → ∃ o, (L.map lineOf)[i]? = some o ∧ isNon y = o.isNone := fun i y hy => by
        obtain ⟨z, hz, h⟩ := rl i y hy
        refine ⟨lineOf z, by rw [List.getElem?_map, hz]; rfl, ?_⟩
        rcases h with ⟨rfl, e⟩ | ⟨d, e, h⟩
        · rw [e]; rfl
        · obtain ⟨a, xs, rfl, _⟩ := data_is_tup h
          rw [e]; rfl
      have getY : ∀ i : Nat, i < L.length → ∃ y, ys[i]? = some y := fun i hi => ⟨ys[i]'(by rw [yl]; exact hi), List.getElem?_eq_getElem _⟩
      have du : dueOf L = match firstBad (L.map lineOf) with
        | some n => .int (n : Nat)
        | none => if 40 < L.length ∨ ((L.filterMap lineOf).all DeedV.ok) = false then .int (L.length : Nat) else .tuple ((L.filterMap lineOf).map DeedV.data) := rfl
      cases fb : firstBad (L.map lineOf) with
      | some n =>
        rw [fb] at du
        obtain ⟨b1, b2⟩ := bad_some fb
        have nl : n < L.length := by
          have := (List.getElem?_eq_some_iff.mp b1).1
          rw [List.length_map] at this
          exact this
        obtain ⟨y, hy⟩ := getY n nl
        obtain ⟨o, ho, io⟩ := isn n y hy
        rw [b1] at ho
        cases ho
        have yn : y = .non := by
          cases y <;> first | rfl | cases io
        subst yn
        have an : ys.any isNon = true := List.any_eq_true.mpr ⟨.non, List.mem_of_getElem? hy, rfl⟩
        rw [an]
        refine ite2 (fun _ => ?_) (fun z => absurd rfl z)
        refine ⟨_, rfl, .inl ⟨rfl, _, .of eD⟩, D, ys, n, rfl, rfl, .of eD, nt, hy, fun m hm z hz => ?_, q H1 _ s1 (by rw [du]; exact .int _)⟩
        obtain ⟨o, ho, io⟩ := isn m z hz
        obtain ⟨d, hd⟩ := b2 m hm
        rw [hd] at ho
        cases ho
        exact io
      | none =>
        have an : ys.any isNon = false := by
          cases e : ys.any isNon with
          | false => rfl
          | true =>
            obtain ⟨y, hy, e1⟩ := List.any_eq_true.mp e
            obtain ⟨i, hi⟩ := List.getElem?_of_mem hy
            obtain ⟨o, ho, io⟩ := isn i y hi
            rw [bad_nonA fb, List.getElem?_map] at ho
            obtain ⟨d, _, rfl⟩ := Option.map_eq_some_iff.mp ho
            rw [io] at e1
            cases e1
        rw [an]
        exact ite2 (fun z => by cases z) (fun _ => ⟨rfl, rfl, rfl⟩)
    rintro σ2 H2 ⟨rfl, fb, rfl⟩
    have bn := bad_nonA fb
    have gl := good_len fb
    generalize hds : L.filterMap lineOf = ds at *
    have du : dueOf L = if 40 < L.length ∨ (ds.all DeedV.ok) = false then .int (L.length : Nat) else .tuple (ds.map DeedV.data) := by
      unfold dueOf
      rw [fb, hds]
    rw [du] at q
    have rd : ∀ (i : Nat) y, ys[i]? = some y → ∃ d z, ds[i]? = some d ∧ L[i]? = some z ∧ lineOf z = some d ∧ Dv K H2 y d.data := fun i y hy => by
      obtain ⟨z, hz, h⟩ := rl i y hy
      have e1 : (L.map lineOf)[i]? = some (lineOf z) := by rw [List.getElem?_map, hz]; rfl
      rw [bn, List.getElem?_map] at e1
      obtain ⟨d, e2, e3⟩ := Option.map_eq_some_iff.mp e1
      rcases h with ⟨_, e⟩ | ⟨d', e, h⟩
      · rw [e] at e3; cases e3
      · rw [e] at e3
        cases e3
        exact ⟨d, z, e2, hz, e, h⟩
    have dvs : DvAll K H2 ys (ds.map DeedV.data) := by
      have go : ∀ (ys : List V) (ds : List DeedV), ys.length = ds.length → (∀ (i : Nat) y, ys[i]? = some y → ∃ d, ds[i]? = some d ∧ Dv K H2 y d.data) → DvAll K H2 ys (ds.map DeedV.data) := by
        intro ys
        induction ys with
        | nil => intro ds l _; rw [List.eq_nil_of_length_eq_zero l.symm]; exact .nil
        | cons y ys ih =>
          intro ds l h
          cases ds with
          | nil => cases l
          | cons d ds =>
            obtain ⟨d', e, h0⟩ := h 0 y rfl
            cases e
            exact .cons h0 (ih ds (by simpa using l) fun i y hy => h (i + 1) y hy)
      exact go ys ds (by rw [yl, gl]) fun i y hy => by
        obtain ⟨d, z, e1, _, _, h⟩ := rd i y hy
        exact ⟨d, e1, h⟩
    have lenq : ∀ H', Same H2 H' → (40 < L.length ∨ ds.all DeedV.ok = false) → Q (.int (L.length : Nat)) H' := fun H' s h => q H' _ (s1.trans s) (by rw [if_pos h]; exact .int _)
    have lend : ∀ H', Same H2 H' → (40 < L.length ∨ ds.all DeedV.ok = false) → tRet (tCB (fun xs H Q => ∃ p ys, xs = [.ref p] ∧ (SqL K H p ys ∨ SqT K H p ys) ∧ Q (.int ys.length) H) (tCons (tVar 0) tNil)) { nx := fun σ' H' => H' = H2 ∧ True, rt := Q } [some (.ref a), some (.ref D), none, none] H' := fun H' s h => by
      refine ⟨_, rfl, a, _, rfl, .inl (.of (s _ _ (s1 _ _ ha))), ?_⟩
      rw [List.length_map]
      exact lenq H' s h
    refine ⟨fun σ' H' => Same H2 H' ∧ ¬ (40 < L.length ∨ ds.all DeedV.ok = false) ∧ σ' = [some (.ref a), some (.ref D), none, none], ?_, ?_⟩
    · refine ⟨_, rfl, D, ys, rfl, .inl (.of eD), _, _, rfl, rfl, _, rfl, ?_⟩
      rw [yl]
      refine ite2 (fun e => ?_) (fun e => ?_)
      · have e : 40 < L.length := by
          have := of_decide_eq_true e
          omega
        exact lend H2 (Same.refl _) (.inl e)
      · have e : ¬ 40 < L.length := fun w => e (decide_eq_true (by omega))
        refine ⟨_, rfl, D, rfl, ⟨_, .of eD⟩, fun D2 nD2 => lc_map (walk_list (xs := ys)) (xs := ys) (fun i => ds[i]?.bind fun d => if d.ok = true then none else ys[i]?) (fun i _ _ _ hi hy => hy) nD2 (fun H' s => .of (s _ _ eD)) (by omega) (fun i y H' R hi hy s hR => ?_) (fun H' s eL => ?_)⟩
        · obtain ⟨d, z, e1, e2, e3, hx⟩ := rd i y hy
          have zl := Ll z (List.mem_of_getElem? e2)
          have bk := line_bulk e3
          refine ⟨rfl, _, rfl, y, d, rfl, Dv.same s _ _ hx, by omega, row_readOk e3, fun H3 s3 => ⟨_, rfl, ?_⟩⟩
          cases e4 : d.ok with
          | true => exact ite2 (fun q => by cases q) (fun _ => hR _ _ (by rw [e1]; show none = if d.ok = true then none else _; rw [if_pos e4]) s3)
          | false => exact ite2 (fun _ => ⟨_, rfl, hR _ _ (by rw [e1]; show some y = if d.ok = true then none else _; rw [e4, if_neg (by decide), hy]) s3⟩) (fun q => absurd rfl q)
        · refine ⟨by show 0 ≤ sizeLine; omega, fun l2 n2 => ⟨D2, l2, _, rfl, rfl, .of (same_upd n2 _ _ eL), .of upd_same, _, rfl, ?_⟩⟩
          have s2 := s.trans (same_upd (o := .lst []) n2)
          have em : ((List.range ys.length).filterMap fun i => ds[i]?.bind fun d => if d.ok = true then none else ys[i]?).isEmpty = ds.all DeedV.ok := by
            rw [Bool.eq_iff_iff, List.isEmpty_iff, List.filterMap_eq_nil_iff, List.all_eq_true]
            constructor
            · intro h d hd
              obtain ⟨i, hi⟩ := List.getElem?_of_mem hd
              have il : i < ys.length := by
                have := (List.getElem?_eq_some_iff.mp hi).1
                rw [yl, ← gl]
                exact this
              have h1 := h i (List.mem_range.mpr il)
              rw [hi] at h1
              have h1 : (if d.ok = true then none else ys[i]?) = none := h1
              by_cases ok : d.ok = true
              · exact ok
              · rw [if_neg ok, List.getElem?_eq_getElem il] at h1
                cases h1
            · intro h i hi
              have il := List.mem_range.mp hi
              have il2 : i < ds.length := by rw [gl, ← yl]; exact il
              rw [List.getElem?_eq_getElem il2]
              show (if (ds[i]).ok = true then none else ys[i]?) = none
              rw [if_pos (h _ (List.getElem_mem il2))]
          rw [em]
          cases e5 : ds.all DeedV.ok with
          | true => exact ite2 (fun q => by cases q) (fun _ => ⟨s2, (fun w => w.elim (fun w => e w) (fun w => by cases w)), rfl⟩)
          | false => exact ite2 (fun _ => lend _ s2 (.inr e5)) (fun q => absurd rfl q)
    rintro σ3 H3 ⟨s3, no, rfl⟩
    have eD3 := s3 _ _ eD
    refine ⟨_, rfl, D, ys, rfl, .inl ⟨.of eD3, fun t nt => ?_⟩⟩
    refine q _ _ ((s1.trans s3).trans (same_upd nt)) ?_
    rw [if_neg no]
    exact .tup (.of upd_same) (DvAll.same (s3.trans (same_upd nt)) _ _ dvs)
end
end K0
end
/-! ### M78 -/
section
set_option Elab.async false
set_option linter.all false
set_option maxRecDepth 100000
set_option maxHeartbeats 4000000
/-! What can be shown; what is told of a written history. -/
namespace K0
open PySem PySem.Spec PyProof.Rows L2
def ascS (z : Str) : Prop := ∀ c ∈ cd z, c < 128
def textsOf : DeedV → List Str
  | .use n => [n]
  | .store p => [p]
  | .put p t => [p, t]
  | .move p q => [p, q]
  | .take p ts => p :: ts
def ascD (d : DeedV) : Prop := ∀ t ∈ textsOf d, ascS t
theorem asc_body {w : Str} (h : ascS w) : ascS (bodyS w) := fun c hc => by
  unfold bodyS at hc
  rw [cd_tx] at hc
  exact h c (List.mem_of_mem_drop hc)
theorem sg_asc {c : Nat} (h : sgB c = true) : c < 128 := by
  unfold sgB at h
  rw [sg_mem] at h
  have h := of_decide_eq_true h
  have al : ∀ x ∈ allSigns.cps.toList, x < 128 := by decide +kernel
  exact al c h
theorem sgAll_asc {z : Str} (h : sgAll z = true) : ascS z := fun c hc => sg_asc (List.all_eq_true.mp h c hc)
theorem name_asc {z : Str} (h : nameS z = true) : ascS z := fun c hc => by
  have := List.all_eq_true.mp (Bool.and_eq_true_iff.mp (Bool.and_eq_true_iff.mp h).2).2 c hc
  have := of_decide_eq_true (Bool.and_eq_true_iff.mp this).2
  omega
theorem ok_asc {d : DeedV} (h : d.ok = true) : ascD d := by
  have one : ∀ {z : Str}, ascS z → ∀ t ∈ [z], ascS t := fun h t ht => by rw [List.mem_singleton.mp ht]; exact h
  cases d with
  | use n => exact one (name_asc h)
  | store p => exact one (sgAll_asc (path_sg h))
  | put p t =>
    obtain ⟨h1, h2⟩ := Bool.and_eq_true_iff.mp (show (pathS p && sgAll t) = true from h)
    intro x hx
    rcases List.mem_cons.mp hx with rfl | hx
    · exact sgAll_asc (path_sg h1)
    · exact one (sgAll_asc h2) x hx
  | move p t =>
    obtain ⟨h1, h2⟩ := Bool.and_eq_true_iff.mp (show (pathS p && pathS t) = true from h)
    intro x hx
    rcases List.mem_cons.mp hx with rfl | hx
    · exact sgAll_asc (path_sg h1)
    · exact one (sgAll_asc (path_sg h2)) x hx
  | take p ts =>
    obtain ⟨h1, h2⟩ := Bool.and_eq_true_iff.mp (show (pathS p && ts.all sgAll) = true from h)
    intro x hx
    rcases List.mem_cons.mp hx with rfl | hx
    · exact sgAll_asc (path_sg h1)
    · exact sgAll_asc (List.all_eq_true.mp h2 x hx)
theorem row_asc {W : List Str} {d : DeedV} (h : rowOf W = some d) (a : ∀ w ∈ W, ascS w) : ascD d := by
  have one : ∀ {z : Str}, ascS z → ∀ t ∈ [z], ascS t := fun h t ht => by rw [List.mem_singleton.mp ht]; exact h
  unfold rowOf at h
  by_cases e0 : ("" : Str) ∈ W
  · rw [if_pos e0] at h; cases h
  rw [if_neg e0] at h
  cases W with
  | nil => cases h
  | cons word W =>
  cases W with
  | nil => cases h
  | cons told rest =>
    dsimp only at h
    have at' := a told (by simp)
    by_cases e1 : word = "use"
    · rw [if_pos e1] at h
      by_cases e2 : rest = []
      · rw [if_pos e2] at h
        cases h
        exact one at'
      · rw [if_neg e2] at h; cases h
    rw [if_neg e1] at h
    by_cases e2 : (told :: rest).all twB = false
    · rw [if_pos e2] at h; cases h
    rw [if_neg e2] at h
    by_cases e3 : word = "take"
    · rw [if_pos e3] at h
      cases h
      intro x hx
      rcases List.mem_cons.mp hx with rfl | hx
      · exact asc_body at'
      · obtain ⟨y, hy, rfl⟩ := List.mem_map.mp hx
        exact asc_body (a y (by simp [hy]))
    rw [if_neg e3] at h
    cases rest with
    | nil =>
      dsimp only at h
      by_cases e4 : word = "store"
      · rw [if_pos e4] at h
        cases h
        exact one (asc_body at')
      · rw [if_neg e4] at h; cases h
    | cons t r =>
    cases r with
    | nil =>
      dsimp only at h
      have a2 := a t (by simp)
      have two : ∀ {x y : Str}, ascS x → ascS y → ∀ t ∈ [x, y], ascS t := fun h g t ht => by
        rcases List.mem_cons.mp ht with rfl | ht
        · exact h
        · exact one g t ht
      by_cases e4 : word = "put"
      · rw [if_pos e4] at h
        cases h
        exact two (asc_body at') (asc_body a2)
      rw [if_neg e4] at h
      by_cases e5 : word = "move"
      · rw [if_pos e5] at h
        cases h
        exact two (asc_body at') (asc_body a2)
      rw [if_neg e5] at h
      cases h
    | cons _ _ => cases h
theorem line_asc {y : Str} {d : DeedV} (h : lineOf y = some d) (a : ascS y) : ascD d := row_asc h fun w hw c hc => a c (split_sub hw hc)
/-! ### shown -/
theorem str_show (z : Str) (h : ascS z) : (PyData.str z).leavesShort 60 = true := by
  show (z.cps.toList.all fun c => decide (c < 16 ^ 8)) = true
  rw [List.all_eq_true]
  intro c hc
  have := h c hc
  exact decide_eq_true (by omega)
theorem strs_show : ∀ ts : List Str, (∀ t ∈ ts, ascS t) → PyData.showableAll (ts.map PyData.str) = true ∧ PyData.leavesShortAll 60 (ts.map PyData.str) = true ∧ PyData.depthAll (ts.map PyData.str) = 0
  | [], _ => ⟨rfl, rfl, rfl⟩
  | t :: ts, h => by
    obtain ⟨h1, h2, h3⟩ := strs_show ts fun x hx => h x (List.mem_cons_of_mem _ hx)
    refine ⟨?_, ?_, ?_⟩
    · show (true && PyData.showableAll (ts.map PyData.str)) = true
      rw [h1]; rfl
    · show ((PyData.str t).leavesShort 60 && PyData.leavesShortAll 60 (ts.map PyData.str)) = true
      rw [h2, str_show t (h t List.mem_cons_self)]; rfl
    · show max 0 (PyData.depthAll (ts.map PyData.str)) = 0
      rw [h3]; rfl
theorem deed_show (d : DeedV) (h : ascD d) : d.data.showable = true ∧ d.data.leavesShort 60 = true ∧ d.data.depth ≤ 2 := by
  have flat : ∀ ts : List Str, (∀ t ∈ ts, ascS t) → (PyData.tuple (ts.map PyData.str)).showable = true ∧ (PyData.tuple (ts.map PyData.str)).leavesShort 60 = true ∧ (PyData.tuple (ts.map PyData.str)).depth = 1 := fun ts ht => by
    obtain ⟨h1, h2, h3⟩ := strs_show ts ht
    refine ⟨h1, h2, ?_⟩
    show PyData.depthAll (ts.map PyData.str) + 1 = 1
    rw [h3]
  have lit : ∀ w : Str, ((cd w).all fun c => decide (c < 128)) = true → ascS w := fun w h c hc => of_decide_eq_true (List.all_eq_true.mp h c hc)
  have two : ∀ (w x : Str), ((cd w).all fun c => decide (c < 128)) = true → ascS x → ∀ t ∈ [w, x], ascS t := fun w x h g t ht => by
    rcases List.mem_cons.mp ht with rfl | ht
    · exact lit _ h
    · rw [List.mem_singleton.mp ht]; exact g
  have three : ∀ (w x y : Str), ((cd w).all fun c => decide (c < 128)) = true → ascS x → ascS y → ∀ t ∈ [w, x, y], ascS t := fun w x y h g g2 t ht => by
    rcases List.mem_cons.mp ht with rfl | ht
    · exact lit _ h
    rcases List.mem_cons.mp ht with rfl | ht
    · exact g
    · rw [List.mem_singleton.mp ht]; exact g2
  cases d with
  | use n =>
    obtain ⟨h1, h2, h3⟩ := flat ["use", n] (two _ _ (by decide) (h n (by simp [textsOf])))
    exact ⟨h1, h2, by rw [show (DeedV.use n).data.depth = 1 from h3]; decide⟩
  | store p =>
    obtain ⟨h1, h2, h3⟩ := flat ["store", p] (two _ _ (by decide) (h p (by simp [textsOf])))
    exact ⟨h1, h2, by rw [show (DeedV.store p).data.depth = 1 from h3]; decide⟩
  | put p t =>
    obtain ⟨h1, h2, h3⟩ := flat ["put", p, t] (three _ _ _ (by decide) (h p (by simp [textsOf])) (h t (by simp [textsOf])))
    exact ⟨h1, h2, by rw [show (DeedV.put p t).data.depth = 1 from h3]; decide⟩
  | move p q =>
    obtain ⟨h1, h2, h3⟩ := flat ["move", p, q] (three _ _ _ (by decide) (h p (by simp [textsOf])) (h q (by simp [textsOf])))
    exact ⟨h1, h2, by rw [show (DeedV.move p q).data.depth = 1 from h3]; decide⟩
  | take p ts =>
    obtain ⟨h1, h2, h3⟩ := flat ts fun t ht => h t (by simp [textsOf, ht])
    have hp := str_show p (h p (by simp [textsOf]))
    refine ⟨?_, ?_, ?_⟩
    · show (true && (true && ((PyData.tuple (ts.map PyData.str)).showable && true))) = true
      rw [h1]; rfl
    · show ((PyData.str "take").leavesShort 60 && ((PyData.str p).leavesShort 60 && ((PyData.tuple (ts.map PyData.str)).leavesShort 60 && true))) = true
      rw [hp, h2, str_show "take" (lit _ (by decide))]; rfl
    · show max 0 (max 0 (max (PyData.tuple (ts.map PyData.str)).depth 0)) + 1 ≤ 2
      rw [h3]; decide
theorem deeds_show : ∀ ds : List DeedV, (∀ d ∈ ds, ascD d) → PyData.showableAll (ds.map DeedV.data) = true ∧ PyData.leavesShortAll 60 (ds.map DeedV.data) = true ∧ PyData.depthAll (ds.map DeedV.data) ≤ 2
  | [], _ => ⟨rfl, rfl, Nat.zero_le _⟩
  | d :: ds, h => by
    obtain ⟨h1, h2, h3⟩ := deeds_show ds fun x hx => h x (List.mem_cons_of_mem _ hx)
    obtain ⟨g1, g2, g3⟩ := deed_show d (h d List.mem_cons_self)
    refine ⟨?_, ?_, ?_⟩
    · show (d.data.showable && PyData.showableAll (ds.map DeedV.data)) = true
      rw [h1, g1]; rfl
    · show (d.data.leavesShort 60 && PyData.leavesShortAll 60 (ds.map DeedV.data)) = true
      rw [h2, g2]; rfl
    · show max d.data.depth (PyData.depthAll (ds.map DeedV.data)) ≤ 2
      omega
theorem fit_deeds {ds : List DeedV} (h : ∀ d ∈ ds, ascD d) (b : PyData.bulkAll (ds.map DeedV.data) ≤ 100000) : Fit (.tuple (ds.map DeedV.data)) := by
  obtain ⟨h1, h2, h3⟩ := deeds_show ds h
  exact ⟨h1, h2, b, by show PyData.depthAll (ds.map DeedV.data) + 1 ≤ 8; omega⟩
theorem fit_nat {n : Nat} (h : n ≤ 100) : Fit (.int (n : Nat)) := by
  have all : ∀ n : Fin 101, ((PyData.int (n.val : Nat)).showable && ((PyData.int (n.val : Nat)).leavesShort 60 && decide ((PyData.int (n.val : Nat)).bulk ≤ 100000))) = true := by decide +kernel
  obtain ⟨h1, h2⟩ := Bool.and_eq_true_iff.mp (all ⟨n, by omega⟩)
  obtain ⟨h2, h3⟩ := Bool.and_eq_true_iff.mp h2
  exact ⟨h1, h2, of_decide_eq_true h3, by show (0 : Nat) ≤ 8; decide⟩
/-- what is told of rows can be shown -/
theorem fit_due {L : List Str} (hn : L.length ≤ 100) (hs : sumLen L ≤ 90000) (ha : ∀ y ∈ L, ascS y) : Fit (dueOf L) := by
  have bk := lines_bulk L
  have fin : Fit (if 40 < L.length ∨ ((L.filterMap lineOf).all DeedV.ok) = false then PyData.int (L.length : Nat) else .tuple ((L.filterMap lineOf).map DeedV.data)) := by
    split
    · exact fit_nat hn
    · refine fit_deeds (fun d hd => ?_) (by omega)
      obtain ⟨y, hy, e⟩ := List.mem_filterMap.mp hd
      exact line_asc e (ha y hy)
  have e : dueOf L = match firstBad (L.map lineOf) with
    | some n => .int (n : Nat)
    | none => if 40 < L.length ∨ ((L.filterMap lineOf).all DeedV.ok) = false then .int (L.length : Nat) else .tuple ((L.filterMap lineOf).map DeedV.data) := rfl
  rw [e]
  cases fb : firstBad (L.map lineOf) with
  | none => exact fin
  | some n =>
    have := bad_lt fb
    rw [List.length_map] at this
    exact fit_nat (by omega)
/-! ### a written history is read -/
theorem lines_joined {L : List Str} (ne : L ≠ []) (h : ∀ y ∈ L, 10 ∉ cd y) : linesL (Txt.join (one 10) L) = L := split_joined ne h
theorem good_lines : ∀ {hs : List DeedV}, hs.all DeedV.ok = true → firstBad ((hs.map lineD).map lineOf) = none ∧ (hs.map lineD).filterMap lineOf = hs
  | [], _ => ⟨rfl, rfl⟩
  | d :: hs, h => by
    obtain ⟨h1, h2⟩ := Bool.and_eq_true_iff.mp (show (d.ok && hs.all DeedV.ok) = true from h)
    obtain ⟨g1, g2⟩ := good_lines h2
    have e := line_line h1
    refine ⟨?_, ?_⟩
    · rw [List.map_cons, List.map_cons, e]
      show (firstBad ((hs.map lineD).map lineOf)).map (· + 1) = none
      rw [g1]; rfl
    · rw [List.map_cons, List.filterMap_cons_some e, g2]
theorem due_written {hs : List DeedV} (h40 : hs.length ≤ 40) (al : hs.all DeedV.ok = true) : dueOf (hs.map lineD) = .tuple (hs.map DeedV.data) := by
  obtain ⟨h1, h2⟩ := good_lines al
  unfold dueOf
  rw [h1, h2, List.length_map, al]
  dsimp only
  rw [if_neg (by intro q; rcases q with q | q; omega; cases q)]
theorem lines_clean {hs : List DeedV} (al : hs.all DeedV.ok = true) : ∀ y ∈ hs.map lineD, 10 ∉ cd y := fun y hy => by
  obtain ⟨d, hd, rfl⟩ := List.mem_map.mp hy
  exact line_clean (List.all_eq_true.mp al d hd)
theorem dueZ_written {hs : List DeedV} (h40 : hs.length ≤ 40) (al : hs.all DeedV.ok = true) (ne : hs ≠ []) : dueZ (histS hs) = .tuple (hs.map DeedV.data) := by
  have hl : linesL (histS hs) = hs.map lineD := lines_joined (fun z => ne (List.map_eq_nil_iff.mp z)) (lines_clean al)
  unfold dueZ
  by_cases e : histS hs = ""
  · exfalso
    rw [e] at hl
    have e2 : linesL "" = ([""] : List Str) := by decide +kernel
    rw [e2] at hl
    cases hs with
    | nil => exact ne rfl
    | cons d hs =>
      rw [List.map_cons] at hl
      injection hl with h1 h2
      have h3 := line_line (Bool.and_eq_true_iff.mp (show (d.ok && hs.all DeedV.ok) = true from al)).1
      rw [← h1] at h3
      have e4 : lineOf "" = none := by decide +kernel
      rw [e4] at h3
      cases h3
  · rw [if_neg e, hl, due_written h40 al]
theorem len_joinN (ws : List Str) : (Txt.join (one 10) ws).length ≤ sumLen ws + ws.length := by
  rw [txt_join]
  have h1 := StrLaws.join_length_le (one 10) ws
  have e : (one 10).length = 1 := rfl
  rw [e, Nat.mul_one] at h1
  exact h1
end K0
end
/-! ### LR0 -/
section
set_option Elab.async false
set_option linter.all false
set_option maxRecDepth 100000
set_option maxHeartbeats 4000000
/-! Tables of code objects beside the dice; displays over a heap that is there; _law_word_of. -/
namespace K0
open PySem PySem.Spec PyProof.Rows L2 LamX
/-- the heap without its tables -/
def noTab (H : Hp) : Hp := fun b => match H b with
  | some (.tbl _) => none
  | o => o
theorem noTab_some {H : Hp} {b : Addr} {o : HO} (h : H b = some o) (n : ∀ ps, o ≠ .tbl ps) : noTab H b = some o := by
  unfold noTab
  rw [h]
  cases o with
  | tbl ps => exact absurd rfl (n ps)
  | _ => rfl
theorem noTab_of {H : Hp} {b : Addr} {o : HO} (h : noTab H b = some o) : H b = some o ∧ ∀ ps, o ≠ .tbl ps := by
  unfold noTab at h
  cases e : H b with
  | none => rw [e] at h; cases h
  | some u =>
    rw [e] at h
    cases u with
    | tbl ps => cases h
    | _ => cases h; exact ⟨rfl, fun ps z => by cases z⟩
theorem noTab_out {H : Hp} : Same (noTab H) H := fun b o h => (noTab_of h).1
theorem noTab_ext {H H1 : Hp} (e : ExtN H H1) : Same (noTab H) (noTab H1) := fun b o h => noTab_some (e b o (noTab_of h).1 (noTab_of h).2) (noTab_of h).2
theorem sql_noTab {K : PySem.W.Frag} {H : Hp} {a : Addr} {xs : List V} (h : SqL K H a xs) : SqL K (noTab H) a xs := by
  rcases h with (h | ⟨o, h⟩) | h
  · exact .inl (.inl (noTab_some h fun ps z => by cases z))
  · exact .inl (.inr ⟨o, noTab_some h fun ps z => by cases z⟩)
  · exact .inr h
theorem sqt_noTab {K : PySem.W.Frag} {H : Hp} {a : Addr} {xs : List V} (h : SqT K H a xs) : SqT K (noTab H) a xs := by
  rcases h with (h | ⟨o, h⟩) | h
  · exact .inl (.inl (noTab_some h fun ps z => by cases z))
  · exact .inl (.inr ⟨o, noTab_some h fun ps z => by cases z⟩)
  · exact .inr h
mutual
theorem Dv.noTab {K : PySem.W.Frag} {H : Hp} : ∀ (d : PyData) (v : V), Dv K H v d → Dv K (K0.noTab H) v d
  | .none, _, h => by cases h; exact .non
  | .bool b, _, h => by cases h; exact .bl b
  | .int i, _, h => by cases h; exact .int i
  | .str x, _, h => by cases h; exact .str x
  | .list ds, _, h => by cases h with | lst h1 h2 => exact .lst (sql_noTab h1) (DvAll.noTab ds _ h2)
  | .tuple ds, _, h => by cases h with | tup h1 h2 => exact .tup (sqt_noTab h1) (DvAll.noTab ds _ h2)
  | .dict ds, _, h => by cases h with | dic h1 h2 h3 => exact .dic (noTab_some h1 fun ps z => by cases z) h2 (DvAll.noTabKv ds _ h3)
theorem DvAll.noTab {K : PySem.W.Frag} {H : Hp} : ∀ (ds : List PyData) (vs : List V), DvAll K H vs ds → DvAll K (K0.noTab H) vs ds
  | [], _, h => by cases h; exact .nil
  | d :: ds, _, h => by cases h with | cons h1 h2 => exact .cons (Dv.noTab d _ h1) (DvAll.noTab ds _ h2)
theorem DvAll.noTabKv {K : PySem.W.Frag} {H : Hp} : ∀ (ds : List (PyData × PyData)) (vs : List V), DvAll K H vs (ds.map (·.2)) → DvAll K (K0.noTab H) vs (ds.map (·.2))
  | [], _, h => by cases h; exact .nil
  | (k, d) :: ds, _, h => by cases h with | cons h1 h2 => exact .cons (Dv.noTab d _ h1) (DvAll.noTabKv ds _ h2)
end
theorem Dv.extN {K : PySem.W.Frag} {H H1 : Hp} {v : V} {d : PyData} (h : Dv K H v d) (e : ExtN H H1) : Dv K H1 v d := Dv.same noTab_out d v (Dv.same (noTab_ext e) d v (Dv.noTab d v h))
abbrev lamQ : Str := "_law_refused" ++ ".<locals>." ++ "<lambda>"
/-- all but the dice at p and the table at P is as it was -/
def KeepN (p P : Addr) (H H' : Hp) : Prop := (∀ b o, b ≠ p → (∀ ps, o ≠ .tbl ps) → H b = some o → H' b = some o) ∧ Dice p H' ∧ Tabs [(P, lamQ)] H'
theorem tab_keep {p P : Addr} {H H' : Hp} (n : P ≠ p) (k : Keep p H H') (t : Tabs [(P, lamQ)] H) (sep : ∀ b q, H b = some (CodeO b q) → b ≠ p) : Tabs [(P, lamQ)] H' := fun x hx => by
  obtain ⟨ps, h1, h2, h3⟩ := t x hx
  have e : x = (P, lamQ) := List.mem_singleton.mp hx
  subst e
  refine ⟨ps, k.1 _ _ n h1, h2, fun pos cv hc => ?_⟩
  obtain ⟨c, e1, e2⟩ := h3 pos cv hc
  exact ⟨c, e1, k.1 _ _ (sep c _ e2) e2⟩
theorem code_dk {c : Addr} {q : Str} {i j k : Int} : CodeO c q ≠ dk i j k := fun z => by
  unfold CodeO dk at z
  cases z
theorem tabs_keep {p P : Addr} {H H' : Hp} (d : Dice p H) (k : Keep p H H') (t : Tabs [(P, lamQ)] H) : Tabs [(P, lamQ)] H' := by
  obtain ⟨a, b, c, e⟩ := d
  refine tab_keep (fun z => ?_) k t fun x q hx z => ?_
  · obtain ⟨ps, h1, _⟩ := t (P, lamQ) List.mem_cons_self
    have h1 : H P = some (.tbl ps) := h1
    rw [z, e] at h1
    cases h1
  · rw [z, e] at hx
    exact code_dk (Option.some.inj hx).symm
theorem KeepN.keep {p P : Addr} {H H1 H2 : Hp} (k : KeepN p P H H1) (z : Keep p H1 H2) : KeepN p P H H2 := by
  refine ⟨fun b o n t e => z.1 b o n (k.1 b o n t e), ?_, tabs_keep k.2.1 z k.2.2⟩
  obtain ⟨a, b, c, e⟩ := z.2
  exact ⟨a, b, c, e⟩
theorem KeepN.same {p P : Addr} {H H1 H2 : Hp} (k : KeepN p P H H1) (z : Same H1 H2) : KeepN p P H H2 := ⟨fun b o n t e => z _ _ (k.1 b o n t e), k.2.1.same z, k.2.2.ext z⟩
theorem KeepN.extN {p P : Addr} {H H1 H2 : Hp} (k : KeepN p P H H1) (z : ExtN H1 H2) (t : Tabs [(P, lamQ)] H2) : KeepN p P H H2 := by
  refine ⟨fun b o n nt e => z _ _ (k.1 b o n nt e) nt, ?_, t⟩
  obtain ⟨i, j, l, e⟩ := k.2.1
  exact ⟨i, j, l, z _ _ e fun ps q => by cases q⟩
theorem hid_extN {p : Addr} {H H1 : Hp} (z : ExtN H H1) : ExtN (hid p H) (hid p H1) := fun b o e nt => by
  by_cases hb : b = p
  · subst hb
    have y : (none : Option HO) = some o := (if_pos rfl).symm.trans e
    cases y
  · rw [hid_ne hb] at e ⊢
    exact z _ _ e nt
theorem KeepN.fresh {p P : Addr} {B H1 : Hp} {l : Addr} (k : KeepN p P B H1) (nt : ∀ b ps, B b ≠ some (.tbl ps)) (n : H1 l = none) : B l = none := by
  cases e : B l with
  | none => rfl
  | some o =>
    by_cases hp : l = p
    · obtain ⟨a, b, c, z⟩ := k.2.1
      rw [hp, z] at n
      cases n
    · have z := k.1 l o hp (fun ps q => nt l ps (by rw [e, q])) e
      rw [n] at z
      cases z
theorem tabs_upd {P : Addr} {H : Hp} {l : Addr} {xs ys : List V} (e : H l = some (.lst xs)) (t : Tabs [(P, lamQ)] H) : Tabs [(P, lamQ)] (upd H l (.lst ys)) := fun x hx => by
  obtain ⟨ps, h1, h2, h3⟩ := t x hx
  refine ⟨ps, ?_, h2, fun pos cv hc => ?_⟩
  · rw [upd_ne (fun z => by rw [z, e] at h1; cases h1)]
    exact h1
  · obtain ⟨c, e1, e2⟩ := h3 pos cv hc
    refine ⟨c, e1, ?_⟩
    rw [upd_ne (fun z => by
      rw [z, e] at e2
      have y := Option.some.inj e2
      unfold CodeO at y
      cases y)]
    exact e2
theorem sq_hid {K : PySem.W.Frag} {H : Hp} {p t : Addr} {xs : List V} (h : SqT K (hid p H) t xs) : SqT K H t xs := same_tup hid_out h
theorem dv_rep {K : PySem.W.Frag} {H : Hp} {xs : List V} {ds : List PyData} (m : Nat) (h : DvAll K H xs ds) : DvAll K H (List.replicate m xs).flatten (List.replicate m ds).flatten := by
  induction m with
  | zero => exact .nil
  | succ m ih =>
    rw [List.replicate_succ, List.replicate_succ, List.flatten_cons, List.flatten_cons]
    exact DvAll.append h ih
section
variable {K : PySem.W.Frag} {p : Addr} {B : Hp} {σ : L2.St}
/-- over B -/
def EvB (K : PySem.W.Frag) (p : Addr) (B : Hp) (σ : L2.St) (te : TE) (d : PyData) : Prop := ∀ H Q, Dice p H → Same B (hid p H) → (∀ x H', Same H H' → Dv K (hid p H') x d → Q x H') → te σ H Q
def EvBN (K : PySem.W.Frag) (p : Addr) (B : Hp) (σ : L2.St) (ta : TA) (ds : List PyData) : Prop := ∀ H Q, Dice p H → Same B (hid p H) → (∀ xs H', Same H H' → DvAll K (hid p H') xs ds → Q xs H') → ta σ H Q
theorem evb1 {te : TE} {d : PyData} (h : Ev1 K p σ te d) : EvB K p B σ te d := fun H Q D _ q => h H Q D q
theorem same_hid {H H' : Hp} (s : Same H H') : Same (hid p H) (hid p H') := hid_same fun b o _ z => s b o z
theorem evb_nil : EvBN K p B σ tNil [] := fun H Q _ _ q => q _ H (Same.refl H) .nil
theorem evb_cons {te : TE} {ta : TA} {d : PyData} {ds : List PyData} (h : EvB K p B σ te d) (g : EvBN K p B σ ta ds) : EvBN K p B σ (tCons te ta) (d :: ds) := fun H Q D b q =>
  h H _ D b fun x H1 e1 v1 => g H1 _ (D.same e1) (b.trans (same_hid e1)) fun xs H2 e2 v2 => q _ H2 (e1.trans e2) (.cons (v1.same' (same_hid e2)) v2)
theorem evb_tup {ta : TA} {ds : List PyData} (g : EvBN K p B σ ta ds) (hl : ds.length ≤ 1000) : EvB K p B σ (tTup ta) (.tuple ds) := fun H Q D b q =>
  g H _ D b fun xs H1 e1 v1 => ⟨by rw [v1.length]; exact Nat.le_of_lt (small1000 hl), fun a na => q _ _ (e1.trans (same_upd na)) (.tup (xs := xs) (.of (by rw [hid_ne ((D.same e1).ne na), upd_same])) (DvAll.same (same_hid (same_upd na)) ds _ v1))⟩
theorem evb_lst {ta : TA} {ds : List PyData} (g : EvBN K p B σ ta ds) (hl : ds.length ≤ 1000) : EvB K p B σ (tLst ta) (.list ds) := fun H Q D b q =>
  g H _ D b fun xs H1 e1 v1 => ⟨by rw [v1.length]; exact Nat.le_of_lt (small1000 hl), fun a na => q _ _ (e1.trans (same_upd na)) (.lst (xs := xs) (.of (by rw [hid_ne ((D.same e1).ne na), upd_same])) (DvAll.same (same_hid (same_upd na)) ds _ v1))⟩
theorem evb_var {i : Nat} {v : V} {d : PyData} (e : σ[i]? = some (some v)) (h : Dv K B v d) : EvB K p B σ (tVar i) d := fun H Q _ b q => ⟨v, e, q v H (Same.refl H) (h.same' b)⟩
/-- (..) * n -/
theorem evb_rep {ta : TE} {ds : List PyData} {n : Int} (h : EvB K p B σ ta (.tuple ds)) (n1 : ds ≠ []) (n2 : 2 ≤ n) (n3 : n ≤ 1000) (hl : ds.length ≤ 1000) (hz : ds.length = 1) : EvB K p B σ (tOp (rRepT K) ta (tC (.int n))) (.tuple (List.replicate n.toNat ds).flatten) := fun H Q D b q =>
  h H _ D b fun x H1 e1 v1 => by
    cases v1 with
    | tup hT hA =>
      have l1 := hA.length
      refine ⟨_, n, _, rfl, rfl, sq_hid hT, fun z => ?_, n2, n3, by omega, fun a na => ?_⟩
      · rw [z] at l1
        exact n1 (List.length_eq_zero_iff.mp l1.symm)
      · refine q _ _ (e1.trans (same_upd na)) (.tup (.of (by rw [hid_ne ((D.same e1).ne na), upd_same])) ?_)
        exact dv_rep n.toNat (DvAll.same (same_hid (same_upd na)) ds _ hA)
/-- a display, and one of its items drawn -/
theorem rd_lstB {H : Hp} {Q : VK} {ta : TA} {ds : List PyData} (ev : EvBN K p B σ ta ds) (D0 : Dice p H) (sB : Same B (hid p H)) (hl : ds.length ≤ 1000) (k : ∀ xs H1 l, Same H H1 → DvAll K (hid p H1) xs ds → H1 l = none → Q (.ref l) (upd H1 l (.lst xs))) : tLst ta σ H Q :=
  ev H _ D0 sB fun xs H1 e1 v1 => ⟨by rw [v1.length]; exact Nat.le_of_lt (small1000 hl), fun l n => k xs H1 l e1 v1 n⟩
theorem rd_drawB {H : Hp} {Q : VK} {ta : TA} {ds : List PyData} (ev : EvBN K p B σ ta ds) (D0 : Dice p H) (sB : Same B (hid p H)) (h0 : ds ≠ []) (hl : ds.length ≤ 1000) (k : ∀ x d H', Keep p H H' → Dv K (hid p H') x d → d ∈ ds → Q x H') :
    tLst ta σ H fun x H1 => ∃ (q : Addr) (a b c : Int) (v : V) (xs : List V), ([.ref p, x] : List V) = [.ref q, v] ∧ H1 q = some (dk a b c) ∧ Its K H1 v xs ∧ xs ≠ [] ∧ xs.length ≤ sizeLine ∧ (∀ a' b' c', Its K (upd H1 q (dk a' b' c')) v xs) ∧ ∀ a' b' c' (i : Nat) x, xs[i]? = some x → Q x (upd H1 q (dk a' b' c')) := by
  refine rd_lstB ev D0 sB hl fun xs H1 l s1 v1 n1 => ?_
  have s2 : Same H (upd H1 l (.lst xs)) := s1.trans (same_upd n1)
  obtain ⟨a, b, c, hp⟩ := D0.same s2
  have nl : l ≠ p := (D0.same s1).ne n1
  have ln := v1.length
  refine ⟨p, a, b, c, .ref l, xs, rfl, hp, .inl ⟨l, rfl, .inl (.of upd_same)⟩, fun z => ?_, by rw [ln]; exact Nat.le_of_lt (small1000 hl), fun a' b' c' => .inl ⟨l, rfl, .inl (.of (by rw [upd_ne nl, upd_same]))⟩, fun a' b' c' i x hx => ?_⟩
  · rw [z] at ln
    cases ds with
    | nil => exact h0 rfl
    | cons d ds => cases ln
  · obtain ⟨d, hd, hv⟩ := v1.get hx
    exact k x d _ (keep_of s2 a' b' c') (hv.same (hid_same fun y o n z => by rw [upd_ne n]; exact same_upd n1 _ _ z)) (List.mem_of_getElem? hd)
end
theorem scWordOf : FnScope ["call"] ["call"] (defScope (top iWordOf)) := ⟨rfl, rfl, rfl, by decide +kernel, rfl, by decide +kernel, by decide +kernel⟩
/-- what the def makes of the lambda's reading -/
def TTw (K : PySem.W.Frag) (CO CT : Addr) : (XK → Hp → VK → Prop) → Hp → VK → Prop := fun tl H Q =>
  tl (fun cls _ H' => (PySem.W.exmOne K cls (.ref CO) = some true ∧ Q (.str "operation") H') ∨ (PySem.W.exmOne K cls (.ref CO) = some false ∧ PySem.W.exmOne K cls (.ref CT) = some true ∧ Q (.str "text") H')) H fun _ H' => Q (.str "fine") H'
def tsWord (z : Str) : Addr → Value → Option Addr → TS := fun _ _ _ D σ H => D.rt (.str z) H
theorem word_gives {X : Cx} {q : Str} {g CT CO : Addr} {cdg : Value} (mO : X.mg "InvalidOperation" = some (.ref CO)) (mT : X.mg "InvalidText" = some (.ref CT)) :
    GivesTo X ["call"] "_law_word_of" (defScope (top iWordOf)) g cdg (defBody (top iWordOf)) "call" q (TTw X.K CO CT) := by
  intro f c' s H Q tl act hc h
  refine ⟨_, pss_cons (ps_tryA (X := (cxOf C8.CX0 X.prog X.w X.K X.mg X.base ["call"] "_law_word_of" (defScope (top iWordOf)) g cdg X.A X.stack s H C8.E0).nox) (Wout := fun _ _ _ _ => False)
      (tb := fun W D σ H => ∃ Ech : XK, (∀ cls d σ' H', Ech cls d H' → W cls d σ' H') ∧ σ[0]? = some (some (.ref f)) ∧ H c' = some (CodeO c' q) ∧ tl Ech H fun _ H' => D.nx σ H')
      (l := [⟨[.ref CO], none, tsWord "operation"⟩, ⟨[.ref CT], none, tsWord "text"⟩]) rfl rfl scWordOf.nd L2.takes0 (fun W pn xe tk _ => ?_)
      (.cons (.one ⟨rfl, by decide, .inl mO⟩) (.inl ⟨rfl, rfl⟩) (fun a oe cls d pn _ _ => pss_one (ps_ret pe_str)) (.cons (.one ⟨rfl, by decide, .inl mT⟩) (.inl ⟨rfl, rfl⟩) (fun a oe cls d pn _ _ => pss_one (ps_ret pe_str)) .nil)))
    (pss_one (ps_ret pe_str)), ?_⟩
  · refine ⟨fun pins s' σ H' D I z => ?_⟩
    obtain ⟨Ech, hW, h1, h2, h3⟩ := z
    have hp := fun p1 p2 => act W pn xe Ech p1 p2 tk hW
    exact (pss_one (ps_expr (hp _ _))).run pins s' σ H' D I ⟨h1, h2, h3⟩
  · refine ⟨_, fun cls d σ' H' z => ?_, rfl, hc, h⟩
    rcases z with ⟨e, z⟩ | ⟨e, e2, z⟩
    · refine ⟨true, ?_, fun _ a na => z, fun e => by cases e⟩
      show (match PySem.W.exmOne X.K cls (.ref CO), (some false : Option Bool) with | some b, some d => some (b || d) | _, _ => none) = some true
      rw [e]
      rfl
    · refine ⟨false, ?_, (fun e => by cases e), fun _ => ⟨true, ?_, fun _ a na => z, (fun e => by cases e)⟩⟩
      · show (match PySem.W.exmOne X.K cls (.ref CO), (some false : Option Bool) with | some b, some d => some (b || d) | _, _ => none) = some false
        rw [e]
        rfl
      · show (match PySem.W.exmOne X.K cls (.ref CT), (some false : Option Bool) with | some b, some d => some (b || d) | _, _ => none) = some true
        rw [e2]
        rfl
end K0
end
/-! ### LW12 -/
section
set_option Elab.async false
set_option linter.all false
set_option maxRecDepth 100000
set_option maxHeartbeats 4000000
/-! _law_right. -/
namespace K0
open PySem PySem.Spec PyProof.Rows L2
abbrev rightN : List Str := ["dice", "size", "turn", "deeds", "lines", "text", "rows", "at", "spot", "deed"]
theorem scRight : FnScope rightN ["dice"] (defScope (top iRight)) := ⟨rfl, rfl, rfl, by decide +kernel, rfl, by decide +kernel, by decide +kernel⟩
def spRight : Sp := fun vs H Q _ => ∃ (p : Addr), vs = [.ref p] ∧ Dice p H ∧ ∀ H', Keep p H H' → Q (.bl true) H'
theorem ixN_nat {n j : Nat} (h : j < n) : L2.ixN n (j : Int) = some j := by
  unfold L2.ixN
  simp [h]
/-- rows in a list of their own -/
def Rows (p R : Addr) (n B : Nat) (H : Hp) : Prop := R ≠ p ∧ ∃ L' : List Str, H R = some (.lst (L'.map V.str)) ∧ L'.length = n ∧ ∀ y ∈ L', rowP y ∧ y.length ≤ B
theorem rd_bent {K : PySem.W.Frag} {σ : L2.St} {H' : Hp} {p R : Addr} {n B i j : Nat} {D : Ends} (h0 : σ[0]? = some (some (.ref p))) (h6 : σ[6]? = some (some (.ref R))) (hi : σ[i]? = some (some (.int (j : Nat)))) (D0 : Dice p H') (rw' : Rows p R n B H') (jn : j < n) (B4 : B ≤ 380)
    (q : ∀ H'', (∀ b o, b ≠ p → b ≠ R → H' b = some o → H'' b = some o) → Dice p H'' → Rows p R n (B + 20) H'' → D.nx σ H'') :
    tAsg (tCall spBent [] (fun _ _ _ => False) (tCons (tVar 0) (tCons (tOp (rIxL K) (tVar 6) (tVar i)) tNil))) (gSub (tVar 6) (tVar i) rSetL) D σ H' := by
  obtain ⟨Rp, L', eR, ln, rows⟩ := rw'
  have hz : L'[j]? = some (L'[j]'(by omega)) := List.getElem?_eq_getElem _
  generalize (L'[j]'(by omega)) = z at hz
  have hz2 : (L'.map V.str)[j]? = some (.str z) := by rw [List.getElem?_map, hz]; rfl
  obtain ⟨rz, zl⟩ := rows z (List.mem_of_getElem? hz)
  refine ⟨_, h0, _, h6, _, hi, R, _, (j : Int), .str z, rfl, rfl, .of eR, atI_nat hz2, p, z, rfl, D0, rz, by omega, fun H1 z' k1 rz' zl' => ?_⟩
  have eR1 := k1.1 _ _ Rp eR
  refine ⟨_, h6, _, hi, R, _, _, j, rfl, rfl, eR1, ixN_nat (by rw [List.length_map]; omega), q _ (fun b o bp bR e => ?_) ?_ ⟨Rp, L'.set j z', ?_, by rw [List.length_set]; exact ln, fun y hy => ?_⟩⟩
  · rw [upd_ne bR]
    exact k1.1 _ _ bp e
  · obtain ⟨a, b, c, hp⟩ := k1.at
    exact ⟨a, b, c, by rw [upd_ne Rp.symm]; exact hp⟩
  · rw [upd_same, List.map_set]
  · rcases List.mem_or_eq_of_mem_set hy with hy | rfl
    · have := rows y hy
      exact ⟨this.1, by omega⟩
    · exact ⟨rz', by omega⟩
theorem asc_eqw {z : Str} (h : ascS z) : ascS (eqw z) := fun c hc => by
  rw [cd_eqw] at hc
  rcases List.mem_cons.mp hc with rfl | hc
  · decide
  · exact h c hc
theorem words_asc {d : DeedV} (h : d.ok = true) : ∀ y ∈ d.words, ascS y := by
  have a := ok_asc h
  have lit : ∀ w : Str, ((cd w).all fun c => decide (c < 128)) = true → ascS w := fun w h c hc => of_decide_eq_true (List.all_eq_true.mp h c hc)
  cases d with
  | use n =>
    intro y hy
    rcases List.mem_cons.mp hy with rfl | hy
    · exact lit _ (by decide)
    · rw [List.mem_singleton.mp hy]; exact a n (by simp [textsOf])
  | store p =>
    intro y hy
    rcases List.mem_cons.mp hy with rfl | hy
    · exact lit _ (by decide)
    · rw [List.mem_singleton.mp hy]; exact asc_eqw (a p (by simp [textsOf]))
  | put p t =>
    intro y hy
    rcases List.mem_cons.mp hy with rfl | hy
    · exact lit _ (by decide)
    rcases List.mem_cons.mp hy with rfl | hy
    · exact asc_eqw (a p (by simp [textsOf]))
    · rw [List.mem_singleton.mp hy]; exact asc_eqw (a t (by simp [textsOf]))
  | move p t =>
    intro y hy
    rcases List.mem_cons.mp hy with rfl | hy
    · exact lit _ (by decide)
    rcases List.mem_cons.mp hy with rfl | hy
    · exact asc_eqw (a p (by simp [textsOf]))
    · rw [List.mem_singleton.mp hy]; exact asc_eqw (a t (by simp [textsOf]))
  | take p ts =>
    intro y hy
    rcases List.mem_cons.mp hy with rfl | hy
    · exact lit _ (by decide)
    rcases List.mem_cons.mp hy with rfl | hy
    · exact asc_eqw (a p (by simp [textsOf]))
    · obtain ⟨t, ht, rfl⟩ := List.mem_map.mp hy
      exact asc_eqw (a t (by simp [textsOf, ht]))
theorem line_rowP {d : DeedV} (h : d.ok = true) : rowP (lineD d) := rowP_join fun y hy c hc => ⟨words_asc h y hy c hc, fun e => words_clean h (.inr rfl) y hy (e ▸ hc)⟩
theorem join_ne (L : List Str) : (L = []) ∨ L ≠ [] := by
  cases L with
  | nil => exact .inl rfl
  | cons _ _ => exact .inr (fun h => nomatch h)
section
variable {P : Program} {w : World} {K : PySem.W.Frag} {mg : Str → Option Value} {base : Heap} {f fO fD fL fW fH fR fB fT fU CT CP CO : Addr} {fd fdO fdD fdL fdW fdH fdR fdB fdT fdU : FuncData}
theorem ok_right {k : Nat} (F : FnP K "_law_right" iRight f fd) (sb : sysB K = true) (mrepr : mg "repr" = none) (mtuple : mg "tuple" = none) (mlist : mg "list" = none) (mrange : mg "range" = none)
    (FO : FnOk P w K mg base CX0 (k + 7) fO fdO ["dice", "items"] (spOne K)) (gO : mg "_law_one_of" = some (.ref fO)) (kO : PySem.W.keepIn K (.ref fO) = true) (bO : Binds K fdO ["dice", "items"] [])
    (FR : FnOk P w K mg base CX0 (k + 7) fR fdR ["dice", "total"] spRoll) (gR : mg "_law_roll" = some (.ref fR)) (kR : PySem.W.keepIn K (.ref fR) = true) (bR : Binds K fdR ["dice", "total"] [])
    (FD : FnOk P w K mg base CX0 (k + 7) fD fdD ["dice"] (spLDeed K)) (gD : mg "_law_deed" = some (.ref fD)) (kD : PySem.W.keepIn K (.ref fD) = true) (bD : Binds K fdD ["dice"] [])
    (FL : FnOk P w K mg base CX0 (k + 7) fL fdL ["deed"] (spLLine K)) (gL : mg "_law_line" = some (.ref fL)) (kL : PySem.W.keepIn K (.ref fL) = true) (bL : Binds K fdL ["deed"] [])
    (FW : FnOk P w K mg base (L2.CX P w) (k + 7) fW fdW ["history"] (spWrite K CO)) (gW : mg "write_history" = some (.ref fW)) (kW : PySem.W.keepIn K (.ref fW) = true) (bW : Binds K fdW ["history"] [])
    (FH : FnOk P w K mg base (L2.CX P w) (k + 7) fH fdH ["lines"] (spReadH K CT CP)) (gH : mg "read_history" = some (.ref fH)) (kH : PySem.W.keepIn K (.ref fH) = true) (bH : Binds K fdH ["lines"] [])
    (FB : FnOk P w K mg base CX0 (k + 7) fB fdB ["dice", "line"] spBent) (gB : mg "_law_bent" = some (.ref fB)) (kB : PySem.W.keepIn K (.ref fB) = true) (bB : Binds K fdB ["dice", "line"] [])
    (FT : FnOk P w K mg base CX0 (k + 7) fT fdT ["text"] (spTold K)) (gT : mg "_law_told" = some (.ref fT)) (kT : PySem.W.keepIn K (.ref fT) = true) (bT : Binds K fdT ["text"] [])
    (FU : FnOk P w K mg base CX0 (k + 7) fU fdU ["lines"] (spDue K)) (gU : mg "_law_due" = some (.ref fU)) (kU : PySem.W.keepIn K (.ref fU) = true) (bU : Binds K fdU ["lines"] []) :
    FnG P w K mg base CX0 (k + 8) f fd ["dice"] spRight := by
  refine fnG_ofC F scRight (fun vs H Q E h => ?_) (fun cdv hc A outer s H vs Q E gd hr h => ?_)
  · obtain ⟨p, rfl, _⟩ := h
    rfl
  · obtain ⟨p, rfl, D0, q⟩ := h
    have sl : sizeLine = 16777216 := sizeLine_eq
    refine ⟨_, PSs.nox (C8.pss_cut (ps_set (i := 1) scRight.nd rfl (.inl rfl) (pe_call FO hr (by rfl) gO kO bO .nil pass0 (pa_cons (pv 0) (pa_cons (pe_lst (pa_cons pe_int (pa_cons pe_int (pa_cons pe_int (pa_cons pe_int (pa_cons pe_int pa_nil)))))) pa_nil))))
      (C8.pss_cut (ps_setLc (i := 3) (own := [("turn", 2)]) (g := gName 2) (tt := tYes) (te := tCall (spLDeed K) [] (fun _ _ _ => False) (tCons (tVar 0) tNil)) rfl scRight.nd rfl rfl (sw_true rfl rfl rfl (by decide +kernel)) (pi_range1 (by rfl) mrange (pa_cons (pv 1) pa_nil)) (blkOk_by (N := rightN) (sc := defScope (top iRight)) (by decide +kernel))
          (fun _ _ _ _ _ => pg_name (i := 2) scRight.nd rfl (Or.inl rfl)) (fun _ _ _ _ _ => pts_nil) (fun _ _ _ _ _ => pe_call FD hr (by rfl) gD kD bD .nil pass0 (pa_cons (pv 0) pa_nil)))
      (C8.pss_cut (ps_setLc (i := 4) (own := [("deed", 9)]) (g := gName 9) (tt := tYes) (te := tCall (spLLine K) [] (fun _ _ _ => False) (tCons (tVar 9) tNil)) rfl scRight.nd rfl rfl (sw_true rfl rfl rfl (by decide +kernel)) (pi_list (pv 3)) (blkOk_by (N := rightN) (sc := defScope (top iRight)) (by decide +kernel))
          (fun _ _ _ _ _ => pg_name (i := 9) scRight.nd rfl (Or.inl rfl)) (fun _ _ _ _ _ => pts_nil) (fun _ _ _ _ _ => pe_call FL hr (by rfl) gL kL bL .nil pass0 (pa_cons (pv 9) pa_nil)))
      (C8.pss_cut (ps_set (i := 5) scRight.nd rfl (.inl rfl) (pe_join pe_str (pv 4)))
      (C8.pss_cut (ps_if (PW.pt (pw_or (pt_cmpR op_ne (pe_call (E := fun _ _ _ => False) FW hr (by rfl) gW kW bW .nil (passes_call takes0 fun _ _ _ _ z => z) (pa_cons (pe_callTy call_tuple_of (by rfl) mtuple (by decide +kernel) (pa_cons (pv 3) pa_nil)) pa_nil)) (pv 5) (nomark _))
          (pw_or1 (pt_cmpR op_ne (pe_callB (call_repr sb gd hr.units) (by rfl) mrepr (by decide +kernel) (pa_cons (pe_call (E := fun _ _ _ => False) FH hr (by rfl) gH kH bH .nil (passes_call takes0 fun _ _ _ _ z => z) (pa_cons (pv 5) pa_nil)) pa_nil)) (pe_callB (call_repr sb gd hr.units) (by rfl) mrepr (by decide +kernel) (pa_cons (pe_callTy call_tuple_of (by rfl) mtuple (by decide +kernel) (pa_cons (pv 3) pa_nil)) pa_nil)) (nomark _)))))
          (pss_one (ps_ret pe_bl)) pss_nil)
      (C8.pss_cut (ps_for PassesOwn.never rfl (pi_range1 (by rfl) mrange (pa_cons pe_int pa_nil)) (pg_name (i := 2) scRight.nd rfl (.inl rfl))
        (C8.pss_cut (ps_par (i := 6) (j := 7) (by rfl) scRight.nd rfl rfl (by decide) rfl rfl (pa_cons (pe_callTy call_list_of (by rfl) mlist (by decide +kernel) (pa_cons (pv 4) pa_nil)) (pa_cons (pe_call FR hr (by rfl) gR kR bR .nil pass0 (pa_cons (pv 0) (pa_cons (pv 1) pa_nil))) pa_nil)) rfl)
        (C8.pss_cut (ps_asg (pe_call FB hr (by rfl) gB kB bB .nil pass0 (pa_cons (pv 0) (pa_cons (pe_ix ix_list (pv 6) (pv 7) (fun _ _ => rfl)) pa_nil))) (pg_sub (pv 6) (pv 7) set_list))
        (C8.pss_cut (ps_if (pt_cmpR op_eq (pe_call FR hr (by rfl) gR kR bR .nil pass0 (pa_cons (pv 0) (pa_cons pe_int pa_nil))) pe_int (nomark _))
          (C8.pss_cut (ps_set (i := 8) scRight.nd rfl (.inl rfl) (pe_call FR hr (by rfl) gR kR bR .nil pass0 (pa_cons (pv 0) (pa_cons (pv 1) pa_nil))))
            (pss_one (ps_asg (pe_call FB hr (by rfl) gB kB bB .nil pass0 (pa_cons (pv 0) (pa_cons (pe_ix ix_list (pv 6) (pv 8) (fun _ _ => rfl)) pa_nil))) (pg_sub (pv 6) (pv 8) set_list)))) pss_nil)
        (pss_one (ps_if (PW.pt (pw_and (pt_cmpR op_ne (pe_join pe_str (pv 6)) pe_str (nomark _)) (pw_and1 (pt_cmpR op_ne (pe_callB (call_repr sb gd hr.units) (by rfl) mrepr (by decide +kernel) (pa_cons (pe_call FT hr (by rfl) gT kT bT .nil pass0 (pa_cons (pe_join pe_str (pv 6)) pa_nil)) pa_nil)) (pe_callB (call_repr sb gd hr.units) (by rfl) mrepr (by decide +kernel) (pa_cons (pe_call FU hr (by rfl) gU kU bU .nil pass0 (pa_cons (pv 6) pa_nil)) pa_nil)) (nomark _)))))
            (pss_one (ps_ret pe_bl)) pss_nil))))))
      (pss_one (ps_ret pe_bl)))))))), ?_⟩
    refine ⟨fun σ' H' => ∃ n : Nat, 1 ≤ n ∧ n ≤ 40 ∧ Keep p H H' ∧ σ' = [some (.ref p), some (.int (n : Nat)), none, none, none, none, none, none, none, none], ?_, ?_⟩
    · refine ⟨_, rfl, by show 5 ≤ sizeLine; omega, fun l nl => ?_⟩
      refine nil_c (one_lst D0 nl (List.cons_ne_nil _ _) (by show 5 ≤ 1000; decide) fun H2 x hx k2 => ?_)
      have ex : ∃ n : Nat, x = .int (n : Nat) ∧ 1 ≤ n ∧ n ≤ 40 := by
        rcases List.mem_cons.mp hx with e | hx
        · exact ⟨1, e, by decide, by decide⟩
        rcases List.mem_cons.mp hx with e | hx
        · exact ⟨2, e, by decide, by decide⟩
        rcases List.mem_cons.mp hx with e | hx
        · exact ⟨3, e, by decide, by decide⟩
        rcases List.mem_cons.mp hx with e | hx
        · exact ⟨7, e, by decide, by decide⟩
        · exact ⟨40, List.mem_singleton.mp hx, by decide, by decide⟩
      obtain ⟨n, rfl, n1, n2⟩ := ex
      exact ⟨n, n1, n2, k2, rfl⟩
    rintro σ1 H1 ⟨n, n1, n40, k1, rfl⟩
    refine ⟨fun σ' H' => ∃ D ys, ∃ hs : List DeedV, Keep p H H' ∧ D ≠ p ∧ H' D = some (.lst ys) ∧ DvAll K H' ys (hs.map DeedV.data) ∧ hs.all DeedV.ok = true ∧ hs.length = n ∧ (∀ d ∈ hs, d.data.bulk ≤ 100) ∧ σ' = [some (.ref p), some (.int (n : Nat)), none, some (.ref D), none, none, none, none, none, none], ?_, ?_⟩
    · refine ⟨_, rfl, _, rfl, by omega, by omega, fun D nD => lc_draw (walk_range (lo := 0) (n := ((n : Nat) : Int).toNat)) (xs := rangeV n) (fun y H' => ∃ d : DeedV, Dv K H' y d.data ∧ d.ok = true ∧ d.data.bulk ≤ 100) (fun i H x H' hi h => range_y hi h) k1.at nD (fun _ _ => trivial) (by omega) (fun y H' H'' s g => ?_) (fun i y H' R S hi hy k1 hR => ?_) (fun H' ys k2 eD Dp yl gd => ?_)⟩
      · obtain ⟨d, h1, h2, h3⟩ := g
        exact ⟨d, Dv.same s _ _ (dv_fz h1 (data_tup d)), h2, h3⟩
      · exact ⟨rfl, _, rfl, p, rfl, k1.at, fun H4 x d k4 hx ok bk => hR _ _ ⟨d, hx, ok, bk⟩ k4⟩
      · have ex : ∀ ys : List V, (∀ y ∈ ys, ∃ d : DeedV, Dv K H' y d.data ∧ d.ok = true ∧ d.data.bulk ≤ 100) → ∃ hs : List DeedV, DvAll K H' ys (hs.map DeedV.data) ∧ hs.all DeedV.ok = true ∧ hs.length = ys.length ∧ ∀ d ∈ hs, d.data.bulk ≤ 100 := by
          intro ys
          induction ys with
          | nil => exact fun _ => ⟨[], .nil, rfl, rfl, fun d hd => absurd hd List.not_mem_nil⟩
          | cons y ys ih =>
            intro h
            obtain ⟨hs, a1, a2, a3, a4⟩ := ih fun z hz => h z (List.mem_cons_of_mem _ hz)
            obtain ⟨d, b1, b2, b3⟩ := h y List.mem_cons_self
            refine ⟨d :: hs, .cons b1 a1, by rw [List.all_cons, b2, a2]; rfl, by rw [List.length_cons, List.length_cons, a3], fun x hx => ?_⟩
            rcases List.mem_cons.mp hx with rfl | hx
            · exact b3
            · exact a4 x hx
        obtain ⟨hs, a1, a2, a3, a4⟩ := ex ys gd
        exact ⟨D, ys, hs, k1.trans k2, Dp, eD, a1, a2, by rw [a3, yl]; omega, a4, rfl⟩
    rintro σ2 H2 ⟨D, ys, hs, k2, Dp, eD, dvs, al, hl, bks, rfl⟩
    have yl : ys.length = n := by have := dvs.length; rw [List.length_map] at this; omega
    refine ⟨fun σ' H' => ∃ Ls, Same H2 H' ∧ Ls ≠ p ∧ H' Ls = some (.lst ((hs.map lineD).map V.str)) ∧ σ' = [some (.ref p), some (.int (n : Nat)), none, some (.ref D), some (.ref Ls), none, none, none, none, none], ?_, ?_⟩
    · refine ⟨_, rfl, D, rfl, ⟨_, .of eD⟩, fun L nL => lc_map (walk_list (xs := ys)) (xs := ys) (fun i => ((hs.map lineD).map V.str)[i]?) (fun i _ _ _ hi hy => hy) nL (fun H' s => .of (s _ _ eD)) (by omega) (fun i y H' R hi hy s hR => ?_) (fun H' s eL => ?_)⟩
      · obtain ⟨d1, h1, u1⟩ := dvs.get hy
        rw [List.getElem?_map] at h1
        obtain ⟨dd, hdd, rfl⟩ := Option.map_eq_some_iff.mp h1
        have bk := bks dd (List.mem_of_getElem? hdd)
        refine ⟨rfl, _, rfl, y, dd, rfl, Dv.same s _ _ u1, by omega, fun H3 s3 => hR _ _ ?_ s3⟩
        rw [List.getElem?_map, List.getElem?_map, hdd]
        rfl
      · have eF : (List.range ys.length).filterMap (fun i => ((hs.map lineD).map V.str)[i]?) = (hs.map lineD).map V.str := by
          rw [show ys.length = ((hs.map lineD).map V.str).length by rw [List.length_map, List.length_map, yl, hl]]
          exact fm_get _
        rw [eF] at eL
        exact ⟨L, s, k2.at.ne nL, eL, rfl⟩
    rintro σ3 H3 ⟨Ls, s3, Lp, eL, rfl⟩
    have dvs3 := DvAll.same s3 _ _ dvs
    have eD3 := s3 _ _ eD
    have k3 : Keep p H H3 := by
      obtain ⟨a, b, c, e⟩ := k2.at
      exact k2.trans ⟨fun b o _ e => s3 _ _ e, a, b, c, s3 _ _ e⟩
    have lb : ∀ y ∈ hs.map lineD, y.length ≤ 200 := fun y hy => by
      obtain ⟨d, hd, rfl⟩ := List.mem_map.mp hy
      have := line_len d
      have := bks d hd
      omega
    have lsum : sumLen (hs.map lineD) ≤ n * 200 := by
      have := sum_le lb
      rw [List.length_map, hl] at this
      exact this
    have n200 : n * 200 ≤ 8000 := by omega
    have hne : hs ≠ [] := fun e => by rw [e] at hl; have : (0 : Nat) = n := hl; omega
    have lines : ∀ y ∈ hs.map lineD, rowP y := fun y hy => by
      obtain ⟨d, hd, rfl⟩ := List.mem_map.mp hy
      exact line_rowP (List.all_eq_true.mp al d hd)
    refine ⟨fun σ' H' => H' = H3 ∧ σ' = [some (.ref p), some (.int (n : Nat)), none, some (.ref D), some (.ref Ls), some (.str (histS hs)), none, none, none, none], ?_, ?_⟩
    · refine ⟨⟨_, rfl⟩, _, rfl, "\n", Ls, hs.map lineD, rfl, rfl, .inl (.of eL), ?_, rfl, rfl⟩
      show sumLen (hs.map lineD) + (hs.map lineD).length * 1 ≤ 16777216
      rw [List.length_map]
      omega
    rintro σ4 H4 ⟨rfl, rfl⟩
    have bulks : ∀ (hs : List DeedV), (∀ d ∈ hs, d.data.bulk ≤ 100) → PyData.bulkAll (hs.map DeedV.data) ≤ hs.length * 101 := by
      intro hs
      induction hs with
      | nil => exact fun _ => Nat.le_refl _
      | cons d hs ih =>
        intro h
        rw [List.map_cons, PyData.bulkAll, List.length_cons, Nat.succ_mul]
        have := ih fun x hx => h x (List.mem_cons_of_mem _ hx)
        have := h d List.mem_cons_self
        omega
    have bkA : PyData.bulkAll (hs.map DeedV.data) ≤ 100000 := by
      have := bulks hs bks
      rw [hl] at this
      omega
    have fitH : Fit (.tuple (hs.map DeedV.data)) := fit_deeds (fun d hd => ok_asc (List.all_eq_true.mp al d hd)) bkA
    have tl : (histS hs).length ≤ 50000 := by
      have := len_joinN (hs.map lineD)
      rw [List.length_map, hl] at this
      show (Txt.join (one 10) (hs.map lineD)).length ≤ 50000
      omega
    have tlines : linesL (histS hs) = hs.map lineD := lines_joined (fun z => hne (List.map_eq_nil_iff.mp z)) (lines_clean al)
    have dueT := dueZ_written (by omega) al hne
    refine ⟨fun σ' H' => Same H4 H' ∧ σ' = [some (.ref p), some (.int (n : Nat)), none, some (.ref D), some (.ref Ls), some (.str (histS hs)), none, none, none, none], ?_, ?_⟩
    · refine ⟨_, rfl, D, ys, rfl, .inl ⟨.of eD3, fun t nt => ?_⟩⟩
      refine ⟨.ref t, .tuple (hs.map DeedV.data), rfl, .tup (.of upd_same) (DvAll.same (same_upd nt) _ _ dvs3), bkA, .inr ⟨hs, rfl, by omega, al, fun d hd => by have := bks d hd; omega, fun H5 s5 => ?_⟩⟩
      refine ⟨_, rfl, rfl, _, rfl, ite2 (fun z => by rw [decide_eq_true rfl] at z; cases z) (fun _ => ?_)⟩
      have s45 := (same_upd (o := .tup ys) nt).trans s5
      refine ⟨_, rfl, .str (histS hs), .str (histS hs), rfl, .str _, .inr ⟨histS hs, rfl, tl, by rw [tlines, List.length_map]; omega, fun y hy => ?_, fun m e => ?_, fun ds e H6 x s6 hx => ?_⟩⟩
      · rw [tlines] at hy
        have := lb y hy
        omega
      · rw [dueT] at e
        cases e
      · rw [dueT] at e
        cases e
        have s46 := s45.trans s6
        refine ⟨x, _, rfl, hx, fitH, _, rfl, D, ys, rfl, .inl ⟨.of (s46 _ _ eD3), fun t2 nt2 => ?_⟩⟩
        have s47 := s46.trans (same_upd (o := .tup ys) nt2)
        exact ⟨_, _, rfl, .tup (.of upd_same) (DvAll.same s47 _ _ dvs3), fitH, rfl, _, rfl, ite2 (fun z => by rw [decide_eq_true rfl] at z; cases z) (fun _ => ⟨s47, rfl⟩)⟩
    rintro σ5 H5 ⟨s5, rfl⟩
    have k5 : Keep p H H5 := by
      obtain ⟨a, b, c, e⟩ := k3.at
      exact k3.trans ⟨fun b o _ e => s5 _ _ e, a, b, c, s5 _ _ e⟩
    have eL5 := s5 _ _ eL
    refine ⟨fun σ' H' => Keep p H H', ?_, ?_⟩
    · refine ⟨_, rfl, by decide, by decide, for_it (walk_range (lo := 0) (n := 4)) (fun i σ' H' => Keep p H H' ∧ H' Ls = some (.lst ((hs.map lineD).map V.str)) ∧ ∃ x2 x6 x7 x8, σ' = [some (.ref p), some (.int (n : Nat)), x2, some (.ref D), some (.ref Ls), some (.str (histS hs)), x6, x7, x8, none]) ⟨k5, eL5, _, _, _, _, rfl⟩ (fun _ _ _ _ _ => trivial) (fun i x σ' H' H'' hi hP hY => ?_) (fun σ' H' hP => hP.1)⟩
      obtain ⟨k6, eL6, x2, x6, x7, x8, rfl⟩ := hP
      obtain ⟨rfl, rfl⟩ := hY
      have fresh : ∀ {R : Addr}, H'' R = none → ∀ b o, H'' b = some o → b ≠ R := fun nR b o e q => by rw [q, nR] at e; cases e
      -- rows, at
      refine ⟨fun σ' H6 => ∃ (R : Addr) (j : Nat), j < n ∧ (∀ b o, b ≠ p → H'' b = some o → H6 b = some o) ∧ H'' R = none ∧ Dice p H6 ∧ Rows p R n 200 H6 ∧ ∃ x2, σ' = [some (.ref p), some (.int (n : Nat)), x2, some (.ref D), some (.ref Ls), some (.str (histS hs)), some (.ref R), some (.int (j : Nat)), x8, none], ?_, ?_⟩
      · refine ⟨_, rfl, Ls, _, rfl, .inl (.of eL6), fun R nR => ?_⟩
        have Rp := k6.at.ne nR
        have sR := same_upd (o := .lst ((hs.map lineD).map V.str)) nR
        refine ⟨_, rfl, _, rfl, ?_⟩
        refine nil_c (roll_of (n := n) (k6.at.same sR) (by omega) (by omega) fun H7 j hj k7 => ?_)
        refine ⟨_, _, rfl, R, j, hj, fun b o bp e => k7.1 _ _ bp (sR _ _ e), nR, k7.at, ⟨Rp, hs.map lineD, k7.1 _ _ Rp upd_same, by rw [List.length_map, hl], fun y hy => ⟨lines y hy, lb y hy⟩⟩, _, rfl⟩
      rintro σ6 H6 ⟨R, j, hj, k7, nR, D6, rw6, x2', rfl⟩
      refine ⟨fun σ' H7 => (∀ b o, b ≠ p → H'' b = some o → H7 b = some o) ∧ Dice p H7 ∧ Rows p R n 220 H7 ∧ σ' = [some (.ref p), some (.int (n : Nat)), x2', some (.ref D), some (.ref Ls), some (.str (histS hs)), some (.ref R), some (.int (j : Nat)), x8, none], ?_, ?_⟩
      · exact rd_bent rfl rfl rfl D6 rw6 hj (by decide) fun H7 k8 D7 rw7 => ⟨fun b o bp e => k8 _ _ bp (fresh nR b o e) (k7 _ _ bp e), D7, rw7, rfl⟩
      rintro σ7 H7 ⟨k8, D7, rw7, rfl⟩
      refine ⟨fun σ' H8 => (∀ b o, b ≠ p → H'' b = some o → H8 b = some o) ∧ Dice p H8 ∧ Rows p R n 240 H8 ∧ ∃ x8, σ' = [some (.ref p), some (.int (n : Nat)), x2', some (.ref D), some (.ref Ls), some (.str (histS hs)), some (.ref R), some (.int (j : Nat)), x8, none], ?_, ?_⟩
      · refine ⟨_, rfl, ?_⟩
        refine cons_c (nil_c (roll_of (n := 2) D7 (by decide) (by decide) fun H8 r _ k9 => ?_))
        have rw8 : Rows p R n 220 H8 := by
          obtain ⟨Rp, L', eR, rest⟩ := rw7
          exact ⟨Rp, L', k9.1 _ _ Rp eR, rest⟩
        have k10 : ∀ b o, b ≠ p → H'' b = some o → H8 b = some o := fun b o bp e => k9.1 _ _ bp (k8 _ _ bp e)
        refine ⟨rfl, _, rfl, ite2 (fun _ => ?_) (fun _ => ?_)⟩
        · refine ⟨fun σ' H9 => ∃ m : Nat, m < n ∧ (∀ b o, b ≠ p → H'' b = some o → H9 b = some o) ∧ Dice p H9 ∧ Rows p R n 220 H9 ∧ σ' = [some (.ref p), some (.int (n : Nat)), x2', some (.ref D), some (.ref Ls), some (.str (histS hs)), some (.ref R), some (.int (j : Nat)), some (.int (m : Nat)), none], ?_, ?_⟩
          · refine ⟨_, rfl, _, rfl, ?_⟩
            refine nil_c (roll_of (n := n) k9.at (by omega) (by omega) fun H9 m hm k11 => ?_)
            refine ⟨m, hm, fun b o bp e => k11.1 _ _ bp (k10 _ _ bp e), k11.at, ?_, rfl⟩
            obtain ⟨Rp, L', eR, rest⟩ := rw8
            exact ⟨Rp, L', k11.1 _ _ Rp eR, rest⟩
          rintro σ9 H9 ⟨m, hm, k11, D9, rw9, rfl⟩
          exact rd_bent rfl rfl rfl D9 rw9 hm (by decide) fun H10 k12 D10 rw10 => ⟨fun b o bp e => k12 _ _ bp (fresh nR b o e) (k11 _ _ bp e), D10, rw10, _, rfl⟩
        · refine ⟨k10, k9.at, ?_, _, rfl⟩
          obtain ⟨Rp, L', eR, ln, rest⟩ := rw8
          exact ⟨Rp, L', eR, ln, fun y hy => ⟨(rest y hy).1, by have := (rest y hy).2; omega⟩⟩
      rintro σ8 H8 ⟨k9, D8, ⟨Rp, L', eR, ln, rows⟩, x8', rfl⟩
      have lne : L' ≠ [] := fun e => by rw [e] at ln; have : (0 : Nat) = n := ln; omega
      have lsum' : sumLen L' ≤ n * 240 := by
        have := sum_le (l := L') (B := 240) fun y hy => (rows y hy).2
        rw [ln] at this
        exact this
      have jb : (L'.map (·.length)).sum + L'.length * 1 ≤ 16777216 := by
        show sumLen L' + L'.length * 1 ≤ 16777216
        omega
      have hlin : linesL (Txt.join (one 10) L') = L' := lines_joined lne fun y hy m => (rows y hy).1 10 m |>.2 rfl
      have jl : (Txt.join (one 10) L').length ≤ 50000 := by
        have := len_joinN L'
        omega
      have fit : Fit (dueOf L') := fit_due (by omega) (by omega) fun y hy c hc => ((rows y hy).1 c hc).1
      have fin : ∀ H9, Same H8 H9 → (Keep p H H9 ∧ H9 Ls = some (.lst ((hs.map lineD).map V.str)) ∧ ∃ x2 x6 x7 x8, [some (V.ref p), some (.int (n : Nat)), x2', some (.ref D), some (.ref Ls), some (.str (histS hs)), some (.ref R), some (.int (j : Nat)), x8', none] = [some (.ref p), some (.int (n : Nat)), x2, some (.ref D), some (.ref Ls), some (.str (histS hs)), x6, x7, x8, none]) := fun H9 s9 => by
        obtain ⟨a, b, c, e⟩ := D8
        exact ⟨k6.trans ⟨fun b o bp e => s9 _ _ (k9 _ _ bp e), a, b, c, s9 _ _ e⟩, s9 _ _ (k9 _ _ Lp eL6), _, _, _, _, rfl⟩
      refine ⟨⟨_, rfl⟩, _, rfl, "\n", R, L', rfl, rfl, .inl (.of eR), jb, ?_⟩
      by_cases j0 : Txt.join (one 10) L' = ""
      · have j0' : Txt.join ("\n" : Str) L' = "" := j0
        rw [j0']
        exact ⟨rfl, _, rfl, ite2 (fun z => by cases z) (fun _ => fin H8 (Same.refl _))⟩
      · have hdz : dueZ (Txt.join (one 10) L') = dueOf L' := by
          unfold dueZ
          rw [if_neg j0, hlin]
        refine ⟨rfl, _, rfl, ite2 (fun _ => ?_) (fun _ => fin H8 (Same.refl _))⟩
        refine ⟨⟨_, rfl⟩, _, rfl, "\n", R, L', rfl, rfl, .inl (.of eR), jb, Txt.join (one 10) L', rfl, ⟨jl, by rw [hlin]; omega, fun y hy => ?_⟩, fun H9 x s9 hx => ?_⟩
        · rw [hlin] at hy
          have := (rows y hy).2
          omega
        · rw [hdz] at hx
          refine ⟨x, _, rfl, hx, fit, _, rfl, R, L', rfl, s9 _ _ eR, by omega, fun y hy => by have := (rows y hy).2; omega, fun H10 y s10 hy => ?_⟩
          exact ⟨y, _, rfl, hy, fit, rfl, _, rfl, ite2 (fun z => by rw [decide_eq_true rfl] at z; cases z) (fun _ => fin H10 (s9.trans s10))⟩
    rintro σ6 H6 k6
    exact q H6 k6
end
end K0
end
/-! ### LR -/
section
set_option Elab.async false
set_option linter.all false
set_option maxRecDepth 100000
set_option maxHeartbeats 4000000
/-! _law_refused. -/
namespace K0
open PySem PySem.Spec PyProof.Rows L2 LamX
def sa : PyData := .tuple [.str "store", .str "a"]
def deeds6 : List PyData := [.tuple [.str "use"], .tuple [.str "use", .str "A"], .tuple [.str "use", .str ""], .tuple [.str "put", .str "a"], .tuple [.str "put", .str "", .str "a"], .tuple [.str "put", .str "a", .none]]
def some5 : List PyData := [.tuple [.str "take", .str "a"], .tuple [.str "take", .str "a", .str "b"], .tuple [.str "take", .str "a", .list [.str "b"]], .tuple [.str "store", .str "a", .str "a"], .tuple [.str "fly", .str "a"]]
def some7 : List PyData := [.tuple [.str "move", .str "a", .str (rep "a" 13)], .list [.str "store", .str "a"], .none, .str "store", .tuple [.str "put", .str "a", .str "A"], .tuple [.int 1, .str "a"], .tuple []]
def rest4 : List PyData := [.tuple [.str "use", .str "abcdefghi"], .tuple [.str "take", .str "a", .tuple [.none]], .tuple [.list [.str "put"], .str "a", .str "a"], .tuple [.str "use", .int 1]]
def values9 : List PyData := [.none, .int 0, .bool true, .str "", .str "store =a", .list [], .list [sa], .dict [], .tuple (List.replicate (41 : Int).toNat [sa]).flatten]
def others7 : List PyData := [.none, .int 0, .bool true, .tuple [], .list [.str "store =a"], .tuple [sa], .dict []]
def badD (d : PyData) : Bool := !isDeedD d && decide (d.bulk ≤ 1000)
def badH (d : PyData) : Bool := !isHistD d && decide (d.bulk ≤ 1000)
theorem deeds6_bad : deeds6.all badD = true := by decide +kernel
theorem some5_bad : some5.all badD = true := by decide +kernel
theorem some7_bad : some7.all badD = true := by decide +kernel
theorem rest4_bad : rest4.all badD = true := by decide +kernel
theorem values9_bad : values9.all badH = true := by decide +kernel
theorem others7_bad : others7.all (fun d => !isStrD d) = true := by decide +kernel
theorem badD_ok {d : PyData} (h : badD d = true) : isDeedD d = false ∧ d.bulk ≤ 1000 := by
  obtain ⟨h1, h2⟩ := Bool.and_eq_true_iff.mp h
  exact ⟨by simpa using h1, of_decide_eq_true h2⟩
theorem badH_ok {d : PyData} (h : badH d = true) : isHistD d = false ∧ d.bulk ≤ 1000 := by
  obtain ⟨h1, h2⟩ := Bool.and_eq_true_iff.mp h
  exact ⟨by simpa using h1, of_decide_eq_true h2⟩
theorem hid_keep {p : Addr} {H H' : Hp} (k : Keep p H H') : Same (hid p H) (hid p H') := hid_same k.1
theorem rd_one_dv {K : PySem.W.Frag} {p l : Addr} {H : Hp} {xs : List V} {ds : List PyData} {Q : VK} (D0 : Dice p H) (lp : l ≠ p) (el : H l = some (.lst xs)) (hv : DvAll K (hid p H) xs ds) (h0 : ds ≠ []) (hl : ds.length ≤ 1000) (k : ∀ x d H', Keep p H H' → Dv K (hid p H') x d → d ∈ ds → Q x H') : spOne K [.ref p, .ref l] H Q (fun _ _ _ => False) := by
  have ln := hv.length
  refine one_at D0 lp el (fun z => ?_) (by omega) fun H' x hx kk => ?_
  · rw [z] at ln
    exact h0 (List.length_eq_zero_iff.mp ln.symm)
  · obtain ⟨i, hi⟩ := List.getElem?_of_mem hx
    obtain ⟨d, hd, hv⟩ := hv.get hi
    exact k x d H' kk (hv.same' (hid_keep kk)) (List.mem_of_getElem? hd)
abbrev refN : List Str := ["dice", "deed", "some", "more", "told", "odd", "other", "value"]
theorem scRef : FnScope refN ["dice"] (defScope (top iRefused)) := ⟨rfl, rfl, rfl, by decide +kernel, rfl, by decide +kernel, by decide +kernel⟩
def spRef (P : Addr) : Sp := fun vs H Q _ => ∃ (p : Addr), vs = [.ref p] ∧ ∃ B : Hp, (∀ b ps, B b ≠ some (.tbl ps)) ∧ KeepN p P B H ∧ ∀ H', KeepN p P B H' → Q (.bl true) H'
section
variable {P : Program} {w : World} {K : PySem.W.Frag} {mg : Str → Option Value} {base : Heap} {f fO fW fH fG CT CO CP c T : Addr} {fd fdO fdW fdH fdG : FuncData}
theorem ok_ref {k : Nat} (F : FnP K "_law_refused" iRefused f fd) (hcode : fd.code = .ref c) (TB : TabB base mg c T)
    (FO : FnOk P w K mg base CX0 (k + 7) fO fdO ["dice", "items"] (spOne K)) (gO : mg "_law_one_of" = some (.ref fO)) (kO : PySem.W.keepIn K (.ref fO) = true) (bO : Binds K fdO ["dice", "items"] [])
    (FG : FnP K "_law_word_of" iWordOf fG fdG) (gG : mg "_law_word_of" = some (.ref fG)) (bG : Binds K fdG ["call"] []) (gE : mg "InvalidOperation" = some (.ref CO)) (gT : mg "InvalidText" = some (.ref CT))
    (eO : PySem.W.exmOne K (.ref CO) (.ref CO) = some true) (eN' : PySem.W.exmOne K (.ref CT) (.ref CO) = some false) (eT : PySem.W.exmOne K (.ref CT) (.ref CT) = some true)
    (FW : FnOk P w K mg base (L2.CX P w) (k + 6) fW fdW ["history"] (spWrite K CO)) (gW : mg "write_history" = some (.ref fW)) (kW : PySem.W.keepIn K (.ref fW) = true) (bW : Binds K fdW ["history"] [])
    (FH : FnOk P w K mg base (L2.CX P w) (k + 6) fH fdH ["lines"] (spReadH K CT CP)) (gH : mg "read_history" = some (.ref fH)) (kH : PySem.W.keepIn K (.ref fH) = true) (bH : Binds K fdH ["lines"] []) :
    FnG P w K mg base CX0 (k + 9) f fd ["dice"] (spRef T) := by
  refine fnG_ofC F scRef (fun vs H Q E h => ?_) (fun cdv hc A outer s H vs Q E gd hr h => ?_)
  · obtain ⟨p, rfl, _⟩ := h
    rfl
  · obtain ⟨p, rfl, B, one, KN, q⟩ := h
    obtain ⟨_, D0, T0⟩ := id KN
    obtain rfl : cdv = .ref c := hc.symm.trans hcode
    obtain ⟨oc, od, dV, kV, doc, pm, an, cdw, ct, osl, rfl, lkW, codeW, _, _⟩ := FG.ex
    have lam : ∀ {params : Arguments} {body : Expr} {scope : Scope} {t : XK → TE} {p lpos pos : Pos} (L : LamS (defScope (top iRefused)) scope) (hdef : defaultsOf params (envOfC "_law_refused" (defScope (top iRefused)) s.heap.objs.size f (.ref c)) = ([], []))
        (hbind : ∀ (q : Str) (cl : List (Str × Addr)) (pm cv ctv : Value), bindArgs (PySem.W.kla_fn "<lambda>" q params body scope cl pm cv ctv) ⟨[], []⟩ = pure [])
        (hbody : ∀ (A' : Around) (outer' : List Env) (s' : Shared) (H' : Hp) (E' : XK) (f' c' : Addr), Room (k + 6) (A'.deeper (lamEnv (cxOf CX0 P w K mg base refN "_law_refused" (defScope (top iRefused)) f (.ref c) A outer s H E).nox scope s'.heap.objs.size f' c')) → PE (lamCx (cxOf CX0 P w K mg base refN "_law_refused" (defScope (top iRefused)) f (.ref c) A outer s H E).nox A' outer' s' H' E' scope f' c') body (t E')),
        PE (cxOf CX0 P w K mg base refN "_law_refused" (defScope (top iRefused)) f (.ref c) A outer s H E).nox (.Call (.Name "_law_word_of" p) [.Lambda params body scope lpos] [] pos) (tLam [(T, lamQ)] (TTw K CO CT) t) := fun {params body scope t p lpos pos} L hdef hbind hbody =>
      pe_lamcall (P := T) (c := c) (x := "_law_word_of") (a := "call") (by rfl) gG FG.kp lkW codeW bG scWordOf rfl (.inl rfl) (word_gives gE gT) TB rfl (List.mem_singleton.mpr rfl) (fun x hx _ => by rw [List.mem_singleton.mp hx]; rfl) hr L hdef hbind hbody
    have ps : ∀ {A' : Around} {outer' : List Env} {s' : Shared} {H' : Hp} {E' : XK} {f' c' : Addr} {scope : Scope}, Passes (L2.CX P w) (lamCx (cxOf CX0 P w K mg base refN "_law_refused" (defScope (top iRefused)) f (.ref c) A outer s H E).nox A' outer' s' H' E' scope f' c') E' := passes_call (takes_of rfl rfl rfl rfl) fun _ _ _ _ h => h
    have hr7 := hr.mono (show k + 7 ≤ k + 8 by omega)
    refine ⟨_, PSs.nox (C8.pss_cut (ps_set (i := 1) scRef.nd rfl (.inl rfl) (pe_call FO hr7 (by rfl) gO kO bO .nil pass0 (pa_cons (pv 0) (pa_cons (pe_lst (pa_cons (pe_tup (pa_cons pe_str pa_nil)) (pa_cons (pe_tup (pa_cons pe_str (pa_cons pe_str pa_nil))) (pa_cons (pe_tup (pa_cons pe_str (pa_cons pe_str pa_nil))) (pa_cons (pe_tup (pa_cons pe_str (pa_cons pe_str pa_nil))) (pa_cons (pe_tup (pa_cons pe_str (pa_cons pe_str (pa_cons pe_str pa_nil)))) (pa_cons (pe_tup (pa_cons pe_str (pa_cons pe_str (pa_cons pe_non pa_nil)))) pa_nil))))))) pa_nil))))
      (C8.pss_cut (ps_set (i := 2) scRef.nd rfl (.inl rfl) (pe_lst (pa_cons (pe_tup (pa_cons pe_str (pa_cons pe_str pa_nil))) (pa_cons (pe_tup (pa_cons pe_str (pa_cons pe_str (pa_cons pe_str pa_nil)))) (pa_cons (pe_tup (pa_cons pe_str (pa_cons pe_str (pa_cons (pe_lst (pa_cons pe_str pa_nil)) pa_nil)))) (pa_cons (pe_tup (pa_cons pe_str (pa_cons pe_str (pa_cons pe_str pa_nil)))) (pa_cons (pe_tup (pa_cons pe_str (pa_cons pe_str pa_nil))) pa_nil)))))))
      (C8.pss_cut (ps_set (i := 3) scRef.nd rfl (.inl rfl) (pe_call FO hr7 (by rfl) gO kO bO .nil pass0 (pa_cons (pv 0) (pa_cons (pv 2) pa_nil))))
      (C8.pss_cut (ps_set (i := 2) scRef.nd rfl (.inl rfl) (pe_lst (pa_cons (pv 1) (pa_cons (pv 3) (pa_cons (pe_tup (pa_cons pe_str (pa_cons pe_str (pa_cons (pe_op op_strMul pe_str pe_int) pa_nil)))) (pa_cons (pe_lst (pa_cons pe_str (pa_cons pe_str pa_nil))) (pa_cons pe_non (pa_cons pe_str (pa_cons (pe_tup (pa_cons pe_str (pa_cons pe_str (pa_cons pe_str pa_nil)))) (pa_cons (pe_tup (pa_cons pe_int (pa_cons pe_str pa_nil))) (pa_cons (pe_tup pa_nil) pa_nil)))))))))))
      (C8.pss_cut (ps_set (i := 5) scRef.nd rfl (.inr rfl) (pe_call FO hr7 (by rfl) gO kO bO .nil pass0 (pa_cons (pv 0) (pa_cons (pe_op op_cat (pv 2) (pe_lst (pa_cons (pe_tup (pa_cons pe_str (pa_cons pe_str pa_nil))) (pa_cons (pe_tup (pa_cons pe_str (pa_cons pe_str (pa_cons (pe_tup (pa_cons pe_non pa_nil)) pa_nil)))) (pa_cons (pe_tup (pa_cons (pe_lst (pa_cons pe_str pa_nil)) (pa_cons pe_str (pa_cons pe_str pa_nil)))) (pa_cons (pe_tup (pa_cons pe_str (pa_cons pe_int pa_nil))) pa_nil)))))) pa_nil))))
      (C8.pss_cut (ps_set (i := 7) scRef.nd rfl (.inr rfl) (pe_call FO hr7 (by rfl) gO kO bO .nil pass0 (pa_cons (pv 0) (pa_cons (pe_lst (pa_cons pe_non (pa_cons pe_int (pa_cons pe_bl (pa_cons pe_str (pa_cons pe_str (pa_cons (pe_lst pa_nil) (pa_cons (pe_lst (pa_cons (pe_tup (pa_cons pe_str (pa_cons pe_str pa_nil))) pa_nil)) (pa_cons pe_dnewK (pa_cons (pe_op (op_repT) (pe_tup (pa_cons (pe_tup (pa_cons pe_str (pa_cons pe_str pa_nil))) pa_nil)) pe_int) pa_nil)))))))))) pa_nil))))
      (C8.pss_cut (ps_set (i := 4) scRef.nd rfl (.inl rfl) (pe_lst (pa_cons (lam (t := fun E' => tCall (spWrite K CO) [] E' (tCons (tTup (tCons (tTup (tCons (tC (.str "store")) (tCons (tC (.str "a")) tNil))) (tCons (tVar 5) tNil))) tNil)) (lamS_by (by decide +kernel)) (by rfl) (fun _ _ _ _ _ => rfl) (fun A' o' s' H' E' f' c' hr' => pe_call FW hr' (by rfl) gW kW bW .nil ps (pa_cons (pe_tup (pa_cons (pe_tup (pa_cons pe_str (pa_cons pe_str pa_nil))) (pa_cons (pv 5) pa_nil))) pa_nil))) pa_nil)))
      (C8.pss_cut (ps_expr (pe_bm PySem.F.plainAttrs_list PySem.F.slot_list_append PySem.F.type_list_append mt_append (pv 4) (pa_cons (lam (t := fun E' => tCall (spWrite K CO) [] E' (tCons (tTup (tCons (tVar 5) (tCons (tTup (tCons (tC (.str "store")) (tCons (tC (.str "a")) tNil))) tNil))) tNil)) (lamS_by (by decide +kernel)) (by rfl) (fun _ _ _ _ _ => rfl) (fun A' o' s' H' E' f' c' hr' => pe_call FW hr' (by rfl) gW kW bW .nil ps (pa_cons (pe_tup (pa_cons (pv 5) (pa_cons (pe_tup (pa_cons pe_str (pa_cons pe_str pa_nil))) pa_nil))) pa_nil))) pa_nil)))
      (C8.pss_cut (ps_expr (pe_bm PySem.F.plainAttrs_list PySem.F.slot_list_append PySem.F.type_list_append mt_append (pv 4) (pa_cons (lam (t := fun E' => tCall (spWrite K CO) [] E' (tCons (tVar 7) tNil)) (lamS_by (by decide +kernel)) (by rfl) (fun _ _ _ _ _ => rfl) (fun A' o' s' H' E' f' c' hr' => pe_call FW hr' (by rfl) gW kW bW .nil ps (pa_cons (pv 7) pa_nil))) pa_nil)))
      (C8.pss_cut (ps_set (i := 6) scRef.nd rfl (.inr rfl) (pe_call FO hr7 (by rfl) gO kO bO .nil pass0 (pa_cons (pv 0) (pa_cons (pe_lst (pa_cons pe_non (pa_cons pe_int (pa_cons pe_bl (pa_cons (pe_tup pa_nil) (pa_cons (pe_lst (pa_cons pe_str pa_nil)) (pa_cons (pe_tup (pa_cons (pe_tup (pa_cons pe_str (pa_cons pe_str pa_nil))) pa_nil)) (pa_cons pe_dnewK pa_nil)))))))) pa_nil))))
      (C8.pss_cut (ps_expr (pe_bm PySem.F.plainAttrs_list PySem.F.slot_list_append PySem.F.type_list_append mt_append (pv 4) (pa_cons (lam (t := fun E' => tCall (spReadH K CT CP) [] E' (tCons (tVar 6) tNil)) (lamS_by (by decide +kernel)) (by rfl) (fun _ _ _ _ _ => rfl) (fun A' o' s' H' E' f' c' hr' => pe_call FH hr' (by rfl) gH kH bH .nil ps (pa_cons (pv 6) pa_nil))) pa_nil)))
      (pss_one (ps_ret (pe_cmpR (op_eqD hr.units) (pv 4) (pe_op op_cat (pe_op op_rep (pe_lst (pa_cons pe_str pa_nil)) pe_int) (pe_lst (pa_cons pe_str pa_nil))) (nomark _))))))))))))))), ?_⟩
    have sl : sizeLine = 16777216 := sizeLine_eq
    refine ⟨fun σ' H' => ∃ x d, σ' = [some (.ref p), some x, none, none, none, none, none, none] ∧ KeepN p T B H' ∧ Dv K (hid p H') x d ∧ badD d = true, ?_, ?_⟩
    · exact ⟨_, rfl, rd_drawB (K := K) (p := p) (B := hid p H) (ds := deeds6) (evb_cons (evb_tup (evb_cons (evb1 ev_str) evb_nil) (by decide)) (evb_cons (evb_tup (evb_cons (evb1 ev_str) (evb_cons (evb1 ev_str) evb_nil)) (by decide)) (evb_cons (evb_tup (evb_cons (evb1 ev_str) (evb_cons (evb1 ev_str) evb_nil)) (by decide)) (evb_cons (evb_tup (evb_cons (evb1 ev_str) (evb_cons (evb1 ev_str) evb_nil)) (by decide)) (evb_cons (evb_tup (evb_cons (evb1 ev_str) (evb_cons (evb1 ev_str) (evb_cons (evb1 ev_str) evb_nil))) (by decide)) (evb_cons (evb_tup (evb_cons (evb1 ev_str) (evb_cons (evb1 ev_str) (evb_cons (evb1 ev_non) evb_nil))) (by decide)) evb_nil)))))) D0 (Same.refl _) (by simp [deeds6]) (by decide)
        fun x d H' kk hv hd => ⟨x, d, rfl, KN.keep kk, hv, List.all_eq_true.mp deeds6_bad d hd⟩⟩
    rintro σ1 H1 ⟨x1, d1, rfl, k1, v1, b1⟩
    refine ⟨fun σ' H' => ∃ l xs, σ' = [some (.ref p), some x1, some (.ref l), none, none, none, none, none] ∧ KeepN p T B H' ∧ l ≠ p ∧ H' l = some (.lst xs) ∧ DvAll K (hid p H') xs some5 ∧ Dv K (hid p H') x1 d1, ?_, ?_⟩
    · refine rd_lstB (K := K) (p := p) (B := hid p H1) (ds := some5) (evb_cons (evb_tup (evb_cons (evb1 ev_str) (evb_cons (evb1 ev_str) evb_nil)) (by decide)) (evb_cons (evb_tup (evb_cons (evb1 ev_str) (evb_cons (evb1 ev_str) (evb_cons (evb1 ev_str) evb_nil))) (by decide)) (evb_cons (evb_tup (evb_cons (evb1 ev_str) (evb_cons (evb1 ev_str) (evb_cons (evb_lst (evb_cons (evb1 ev_str) evb_nil) (by decide)) evb_nil))) (by decide)) (evb_cons (evb_tup (evb_cons (evb1 ev_str) (evb_cons (evb1 ev_str) (evb_cons (evb1 ev_str) evb_nil))) (by decide)) (evb_cons (evb_tup (evb_cons (evb1 ev_str) (evb_cons (evb1 ev_str) evb_nil)) (by decide)) evb_nil))))) k1.2.1 (Same.refl _) (by decide)
        fun xs H2 l s2 hv nl => ⟨l, xs, rfl, k1.same (s2.trans (same_upd nl)), (k1.2.1.same s2).ne nl, upd_same, DvAll.same (same_hid (same_upd nl)) _ _ hv, v1.same' (same_hid (s2.trans (same_upd nl)))⟩
    rintro σ2 H2 ⟨l2, xs2, rfl, k2, lp2, e2, a2, v2⟩
    refine ⟨fun σ' H' => ∃ y d2, σ' = [some (.ref p), some x1, some (.ref l2), some y, none, none, none, none] ∧ KeepN p T B H' ∧ Dv K (hid p H') x1 d1 ∧ Dv K (hid p H') y d2 ∧ badD d2 = true, ?_, ?_⟩
    · refine ⟨_, rfl, _, rfl, ?_⟩
      exact nil_c (rd_one_dv k2.2.1 lp2 e2 a2 (by simp [some5]) (by decide) fun y d2 H' kk hv hd => ⟨y, d2, rfl, k2.keep kk, v2.same' (hid_keep kk), hv, List.all_eq_true.mp some5_bad d2 hd⟩)
    rintro σ3 H3 ⟨x2, d2, rfl, k3, v3, w3, b2⟩
    refine ⟨fun σ' H' => ∃ l xs, σ' = [some (.ref p), some x1, some (.ref l), some x2, none, none, none, none] ∧ KeepN p T B H' ∧ l ≠ p ∧ H' l = some (.lst xs) ∧ DvAll K (hid p H') xs (d1 :: d2 :: some7), ?_, ?_⟩
    · refine rd_lstB (K := K) (p := p) (B := hid p H3) (ds := d1 :: d2 :: some7) (evb_cons (evb_var rfl v3) (evb_cons (evb_var rfl w3) (evb_cons (evb_tup (evb_cons (evb1 ev_str) (evb_cons (evb1 ev_str) (evb_cons (evb1 (ev_rep (by decide +kernel))) evb_nil))) (by decide)) (evb_cons (evb_lst (evb_cons (evb1 ev_str) (evb_cons (evb1 ev_str) evb_nil)) (by decide)) (evb_cons (evb1 ev_non) (evb_cons (evb1 ev_str) (evb_cons (evb_tup (evb_cons (evb1 ev_str) (evb_cons (evb1 ev_str) (evb_cons (evb1 ev_str) evb_nil))) (by decide)) (evb_cons (evb_tup (evb_cons (evb1 ev_int) (evb_cons (evb1 ev_str) evb_nil)) (by decide)) (evb_cons (evb_tup evb_nil (by decide)) evb_nil))))))))) k3.2.1 (Same.refl _) (by show 9 ≤ 1000; decide)
        fun xs H4 l s4 hv nl => ⟨l, xs, rfl, k3.same (s4.trans (same_upd nl)), (k3.2.1.same s4).ne nl, upd_same, DvAll.same (same_hid (same_upd nl)) _ _ hv⟩
    rintro σ4 H4 ⟨l4, xs4, rfl, k4, lp4, e4, a4⟩
    refine ⟨fun σ' H' => ∃ xo dO, σ' = [some (.ref p), some x1, some (.ref l4), some x2, none, some xo, none, none] ∧ KeepN p T B H' ∧ Dv K (hid p H') xo dO ∧ badD dO = true, ?_, ?_⟩
    · refine ⟨_, rfl, _, rfl, ?_⟩
      refine rd_lstB (K := K) (p := p) (B := hid p H4) (ds := rest4) (evb_cons (evb_tup (evb_cons (evb1 ev_str) (evb_cons (evb1 ev_str) evb_nil)) (by decide)) (evb_cons (evb_tup (evb_cons (evb1 ev_str) (evb_cons (evb1 ev_str) (evb_cons (evb_tup (evb_cons (evb1 ev_non) evb_nil) (by decide)) evb_nil))) (by decide)) (evb_cons (evb_tup (evb_cons (evb_lst (evb_cons (evb1 ev_str) evb_nil) (by decide)) (evb_cons (evb1 ev_str) (evb_cons (evb1 ev_str) evb_nil))) (by decide)) (evb_cons (evb_tup (evb_cons (evb1 ev_str) (evb_cons (evb1 ev_int) evb_nil)) (by decide)) evb_nil)))) k4.2.1 (Same.refl _) (by decide)
        fun xs H5 l s5 hv nl => ?_
      have s6 := s5.trans (same_upd (o := .lst xs) nl)
      have k5 := k4.same s6
      have ln1 := a4.length
      have ln2 := hv.length
      refine ⟨l4, l, xs4, xs, rfl, rfl, s6 _ _ e4, upd_same, by rw [ln1, ln2, sl]; show 9 + 4 ≤ 16777216; decide, fun m nm => ?_⟩
      have s7 := same_upd (o := .lst (xs4 ++ xs)) nm
      refine nil_c (rd_one_dv (k5.same s7).2.1 (k5.2.1.ne nm) upd_same (DvAll.append (DvAll.same (same_hid (s6.trans s7)) _ _ a4) (DvAll.same (same_hid ((same_upd nl).trans s7)) _ _ hv)) (by simp) (by show 9 + 4 ≤ 1000; decide) fun y d H' kk hy hd => ⟨y, d, rfl, (k5.same s7).keep kk, hy, ?_⟩)
      rcases List.mem_append.mp hd with hd | hd
      · rcases List.mem_cons.mp hd with rfl | hd
        · exact b1
        rcases List.mem_cons.mp hd with rfl | hd
        · exact b2
        · exact List.all_eq_true.mp some7_bad d hd
      · exact List.all_eq_true.mp rest4_bad d hd
    rintro σ5 H5 ⟨xo, dO, rfl, k5, vo5, bo⟩
    obtain ⟨o1, o2⟩ := badD_ok bo
    refine ⟨fun σ' H' => ∃ xv dv, σ' = [some (.ref p), some x1, some (.ref l4), some x2, none, some xo, none, some xv] ∧ KeepN p T B H' ∧ Dv K (hid p H') xo dO ∧ Dv K (hid p H') xv dv ∧ badH dv = true, ?_, ?_⟩
    · exact ⟨_, rfl, rd_drawB (K := K) (p := p) (B := hid p H5) (ds := values9) (evb_cons (evb1 ev_non) (evb_cons (evb1 ev_int) (evb_cons (evb1 ev_bl) (evb_cons (evb1 ev_str) (evb_cons (evb1 ev_str) (evb_cons (evb_lst evb_nil (by decide)) (evb_cons (evb_lst (evb_cons (evb_tup (evb_cons (evb1 ev_str) (evb_cons (evb1 ev_str) evb_nil)) (by decide)) evb_nil) (by decide)) (evb_cons (evb1 ev_dict0) (evb_cons (evb_rep (evb_tup (evb_cons (evb_tup (evb_cons (evb1 ev_str) (evb_cons (evb1 ev_str) evb_nil)) (by decide)) evb_nil) (by decide)) (by simp) (by decide) (by decide) (by decide) rfl) evb_nil))))))))) k5.2.1 (Same.refl _) (by simp [values9]) (by decide)
        fun x d H' kk hv hd => ⟨x, d, rfl, k5.keep kk, vo5.same' (hid_keep kk), hv, List.all_eq_true.mp values9_bad d hd⟩⟩
    rintro σ6 H6 ⟨xv, dv, rfl, k6, vo6, vv6, bv⟩
    obtain ⟨h1, h2⟩ := badH_ok bv
    generalize hV : noTab (hid p H6) = V
    have vO : Dv K V xo dO := by rw [← hV]; exact Dv.noTab dO xo vo6
    have vV : Dv K V xv dv := by rw [← hV]; exact Dv.noTab dv xv vv6
    have sV : Same V H6 := by rw [← hV]; exact fun b o e => hid_out b o (noTab_of e).1
    have nV : ∀ {b : Addr} {o : HO}, V b = some o → ∀ ps, o ≠ .tbl ps := fun {b o} e => by rw [← hV] at e; exact (noTab_of e).2
    have ext : ∀ {H' H1 : Hp}, Same V H' → ExtN H' H1 → Same V H1 := fun s e b o z => e b o (s b o z) (nV z)
    have fr : ∀ {H' : Hp} {l : Addr}, Same V H' → H' l = none → V l = none := fun {H' l} s n => none_back s n
    have hist1 : isHistD (.tuple [sa, dO]) = false := by
      show (decide (2 ≤ 40) && (isDeedD sa && (isDeedD dO && true))) = false
      rw [o1, Bool.false_and, Bool.and_false, Bool.and_false]
    have hist2 : isHistD (.tuple [dO, sa]) = false := by
      show (decide (2 ≤ 40) && (isDeedD dO && (isDeedD sa && true))) = false
      rw [o1, Bool.false_and, Bool.and_false]
    have bulk1 : (PyData.tuple [sa, dO]).bulk ≤ 100000 := by
      show sa.bulk + 1 + (dO.bulk + 1 + 0) ≤ 100000
      have : sa.bulk = 8 := by decide +kernel
      omega
    have bulk2 : (PyData.tuple [dO, sa]).bulk ≤ 100000 := by
      show dO.bulk + 1 + (sa.bulk + 1 + 0) ≤ 100000
      have : sa.bulk = 8 := by decide +kernel
      omega
    refine ⟨fun σ' H' => ∃ l, σ' = [some (.ref p), some x1, some (.ref l4), some x2, some (.ref l), some xo, none, some xv] ∧ KeepN p T B H' ∧ Same V H' ∧ B l = none ∧ V l = none ∧ H' l = some (.lst [.str "operation"]), ?_, ?_⟩
    · refine ⟨k6.2.2, fun H7 eN T7 => ⟨by show 2 ≤ sizeLine; omega, fun a na => ⟨_, rfl, by show 2 ≤ sizeLine; omega, fun b nb => ?_⟩⟩⟩
      have sa' := same_upd (o := .tup [.str "store", .str "a"]) na
      have sb' := same_upd (o := .tup [.ref a, xo]) nb
      have s7 := (ext sV eN)
      refine ⟨.ref b, .tuple [sa, dO], rfl, .tup (.of upd_same) (.cons (.tup (.of (sb' _ _ upd_same)) (.cons (.str _) (.cons (.str _) .nil))) (.cons (vO.same' ((s7.trans sa').trans sb')) .nil)), bulk1, .inl ⟨hist1, fun H8 s8 => .inl ⟨eO, by show 1 ≤ sizeLine; omega, fun l nl => ?_⟩⟩⟩
      have k8 := (((k6.extN eN T7).same sa').same sb').same s8
      have s9 := ((s7.trans sa').trans sb').trans s8
      exact ⟨l, rfl, k8.same (same_upd nl), s9.trans (same_upd nl), k8.fresh one nl, fr s9 nl, upd_same⟩
    rintro σ7 H7 ⟨l, rfl, k7, s7, nl, nVl, e7⟩
    have nlp : l ≠ p := fun z => by
      obtain ⟨a, b, c, e⟩ := k7.2.1
      rw [z, e] at e7
      have y : HO.lst _ = HO.lst _ := Option.some.inj e7
      injection y with y
      cases y
    have app : ∀ {H' H1 H2 : Hp} {xs ys : List L2.V}, KeepN p T B H' → H' l = some (.lst xs) → ExtN H' H1 → Tabs [(T, lamQ)] H1 → Same H1 H2 → H2 l = some (.lst xs) ∧ KeepN p T B (upd H2 l (.lst ys)) := fun {H' H1 H2 xs ys} kk e eN T1 s2 => by
      have e2 : H2 l = some (.lst xs) := s2 _ _ (eN _ _ e fun ps q => by cases q)
      have k2 := (kk.extN eN T1).same s2
      refine ⟨e2, ⟨fun b o n nt z => ?_, ?_, tabs_upd e2 k2.2.2⟩⟩
      · rw [upd_ne (ne_of_none z nl)]
        exact k2.1 b o n nt z
      · obtain ⟨i, j, m, z⟩ := k2.2.1
        exact ⟨i, j, m, by rw [upd_ne nlp.symm]; exact z⟩
    have appV : ∀ {H' H1 H2 : Hp} {ys : List L2.V}, Same V H' → ExtN H' H1 → Same H1 H2 → Same V (upd H2 l (.lst ys)) := fun {H' H1 H2 ys} sv eN s2 b o z => by
      rw [upd_ne (ne_of_none z nVl)]
      exact s2 _ _ (eN _ _ (sv _ _ z) (nV z))
    refine ⟨fun σ' H' => σ' = [some (.ref p), some x1, some (.ref l4), some x2, some (.ref l), some xo, none, some xv] ∧ KeepN p T B H' ∧ Same V H' ∧ H' l = some (.lst [.str "operation", .str "operation"]), ?_, ?_⟩
    · refine ⟨_, rfl, .inl ⟨rfl, _, .of e7⟩, k7.2.2, fun H8 eN T8 => ⟨_, rfl, by show 2 ≤ sizeLine; omega, fun a na => ⟨by show 2 ≤ sizeLine; omega, fun b nb => ?_⟩⟩⟩
      have sa' := same_upd (o := .tup [.str "store", .str "a"]) na
      have sb' := same_upd (o := .tup [xo, .ref a]) nb
      have s8 := (ext s7 eN)
      refine ⟨.ref b, .tuple [dO, sa], rfl, .tup (.of upd_same) (.cons (vO.same' ((s8.trans sa').trans sb')) (.cons (.tup (.of (sb' _ _ upd_same)) (.cons (.str _) (.cons (.str _) .nil))) .nil)), bulk2, .inl ⟨hist2, fun H9 s9 => ?_⟩⟩
      obtain ⟨a1, a2⟩ := app (ys := [.str "operation", .str "operation"]) k7 e7 eN T8 ((sa'.trans sb').trans s9)
      exact .inl ⟨eO, l, _, _, rfl, rfl, a1, by show 1 < sizeLine; omega, rfl, a2, appV s7 eN ((sa'.trans sb').trans s9), upd_same⟩
    rintro σ8 H8 ⟨rfl, k8, s8, e8⟩
    refine ⟨fun σ' H' => σ' = [some (.ref p), some x1, some (.ref l4), some x2, some (.ref l), some xo, none, some xv] ∧ KeepN p T B H' ∧ H' l = some (.lst [.str "operation", .str "operation", .str "operation"]), ?_, ?_⟩
    · refine ⟨_, rfl, .inl ⟨rfl, _, .of e8⟩, k8.2.2, fun H9 eN T9 => ⟨_, rfl, xv, dv, rfl, vV.same' (ext s8 eN), by omega, .inl ⟨h1, fun H10 s10 => ?_⟩⟩⟩
      obtain ⟨a1, a2⟩ := app (ys := [.str "operation", .str "operation", .str "operation"]) k8 e8 eN T9 s10
      exact .inl ⟨eO, l, _, _, rfl, rfl, a1, by show 2 < sizeLine; omega, rfl, a2, upd_same⟩
    rintro σ9 H9 ⟨rfl, k9, e9⟩
    refine ⟨fun σ' H' => ∃ xw dw, σ' = [some (.ref p), some x1, some (.ref l4), some x2, some (.ref l), some xo, some xw, some xv] ∧ KeepN p T B H' ∧ H' l = some (.lst [.str "operation", .str "operation", .str "operation"]) ∧ Dv K H' xw dw ∧ isStrD dw = false, ?_, ?_⟩
    · exact ⟨_, rfl, rd_drawB (K := K) (p := p) (B := hid p H9) (ds := others7) (evb_cons (evb1 ev_non) (evb_cons (evb1 ev_int) (evb_cons (evb1 ev_bl) (evb_cons (evb_tup evb_nil (by decide)) (evb_cons (evb_lst (evb_cons (evb1 ev_str) evb_nil) (by decide)) (evb_cons (evb_tup (evb_cons (evb_tup (evb_cons (evb1 ev_str) (evb_cons (evb1 ev_str) evb_nil)) (by decide)) evb_nil) (by decide)) (evb_cons (evb1 ev_dict0) evb_nil))))))) k9.2.1 (Same.refl _) (by simp [others7]) (by decide)
        fun x d H' kk hv hd => ⟨x, d, rfl, k9.keep kk, kk.1 _ _ nlp e9, hv.same' hid_out, by have := List.all_eq_true.mp others7_bad d hd; simpa using this⟩⟩
    rintro σ10 H10 ⟨xw, dw, rfl, k10, e10, vw, bw⟩
    refine ⟨fun σ' H' => σ' = [some (.ref p), some x1, some (.ref l4), some x2, some (.ref l), some xo, some xw, some xv] ∧ KeepN p T B H' ∧ H' l = some (.lst [.str "operation", .str "operation", .str "operation", .str "text"]), ?_, ?_⟩
    · refine ⟨_, rfl, .inl ⟨rfl, _, .of e10⟩, k10.2.2, fun H11 eN T11 => ⟨_, rfl, xw, dw, rfl, vw.extN eN, .inl ⟨bw, fun H12 s12 => ?_⟩⟩⟩
      obtain ⟨a1, a2⟩ := app (ys := [.str "operation", .str "operation", .str "operation", .str "text"]) k10 e10 eN T11 s12
      exact .inr ⟨eN', eT, l, _, _, rfl, rfl, a1, by show 3 < sizeLine; omega, rfl, a2, upd_same⟩
    rintro σ11 H11 ⟨rfl, k11, e11⟩
    have four : ∀ {H' : Hp} {m : Addr}, H' m = some (.lst [.str "operation", .str "operation", .str "operation", .str "text"]) → Dp K H' (.ref m) (.list [.str "operation", .str "operation", .str "operation", .str "text"]) := fun e => .lst (.of e) (.cons (.str _) (.cons (.str _) (.cons (.str _) (.cons (.str _) .nil))))
    refine ⟨_, rfl, by show 1 ≤ sizeLine; omega, fun m1 n1 => ⟨m1, 3, _, rfl, rfl, upd_same, by decide, by decide, by show 1 * 3 ≤ sizeLine; omega, fun m2 n2 => ⟨by show 1 ≤ sizeLine; omega, fun m3 n3 => ⟨m2, m3, _, _, rfl, rfl, same_upd n3 _ _ upd_same, upd_same, by show 3 + 1 ≤ sizeLine; omega, fun m4 n4 => ?_⟩⟩⟩⟩
    refine ⟨_, _, four (same_upd n4 _ _ (same_upd n3 _ _ (same_upd n2 _ _ (same_upd n1 _ _ e11)))), four (m := m4) upd_same, by decide +kernel, by decide +kernel, ?_⟩
    rw [show PyData.eqv (.list [.str "operation", .str "operation", .str "operation", .str "text"]) (.list [.str "operation", .str "operation", .str "operation", .str "text"]) = true by decide +kernel]
    exact q _ ((((k11.same (same_upd n1)).same (same_upd n2)).same (same_upd n3)).same (same_upd n4))
end
end K0
end
/-! ### M79 -/
section
set_option Elab.async false
set_option linter.all false
set_option maxRecDepth 100000
set_option maxHeartbeats 4000000
/-! The law's written histories: a long one; forty-one and forty rows. -/
namespace K0
open PySem PySem.Spec PyProof.Rows L2
/-! ### plain data -/
mutual
def plainD : PyData → Bool
  | .dict _ => false
  | .list ds => plainDs ds
  | .tuple ds => plainDs ds
  | _ => true
def plainDs : List PyData → Bool
  | [] => true
  | d :: ds => plainD d && plainDs ds
end
mutual
theorem dv_dp {K : PySem.W.Frag} {H : Hp} : ∀ {d : PyData} {v : V}, Dv K H v d → plainD d = true → Dp K H v d
  | .none, _, h, _ => by cases h; exact .non
  | .bool b, _, h, _ => by cases h; exact .bl b
  | .int i, _, h, _ => by cases h; exact .int i
  | .str x, _, h, _ => by cases h; exact .str x
  | .list ds, _, h, z => by
    cases h with
    | lst h1 h2 => exact .lst h1 (dvs_dp h2 z)
  | .dict ds, _, h, z => by cases z
  | .tuple ds, _, h, z => by
    cases h with
    | tup h1 h2 => exact .tup h1 (dvs_dp h2 z)
theorem dvs_dp {K : PySem.W.Frag} {H : Hp} : ∀ {ds : List PyData} {vs : List V}, DvAll K H vs ds → plainDs ds = true → DpAll K H vs ds
  | [], _, h, _ => by cases h; exact .nil
  | d :: ds, _, h, z => by
    obtain ⟨z1, z2⟩ := Bool.and_eq_true_iff.mp (show (plainD d && plainDs ds) = true from z)
    cases h with
    | cons h1 h2 => exact .cons (dv_dp h1 z1) (dvs_dp h2 z2)
end
/-! ### long texts -/
theorem fold_list {α : Type} (cs : Array α) : ∀ (k : Nat) (acc : Array α), ((List.replicate k cs).foldl (· ++ ·) acc).toList = acc.toList ++ (List.replicate k cs.toList).flatten
  | 0, acc => by simp
  | k + 1, acc => by
    rw [List.replicate_succ, List.foldl_cons, fold_list cs k, List.replicate_succ, List.flatten_cons, Array.toList_append, List.append_assoc]
theorem cd_rep (z : Str) (n : Int) : cd (rep z n) = (List.replicate n.toNat (cd z)).flatten := by
  show ((List.replicate n.toNat z.cps).foldl (· ++ ·) #[]).toList = _
  rw [fold_list]
  rfl
theorem rep_sg {z : Str} {n : Int} (h : sgAll z = true) : sgAll (rep z n) = true := by
  rw [sgAll_cd, cd_rep, List.all_eq_true]
  intro c hc
  obtain ⟨l, hl, hcl⟩ := List.mem_flatten.mp hc
  rw [List.eq_of_mem_replicate hl] at hcl
  exact List.all_eq_true.mp h c hcl
def longV (u v w : Str) : List DeedV := [.put "a" u, .take "a" [v, "", w], .store "a"]
theorem longV_ok {u v w : Str} (b : sgAll u = true) (c : sgAll v = true) (d : sgAll w = true) : (longV u v w).all DeedV.ok = true := by
  have a : pathS "a" = true := by decide +kernel
  have e : sgAll "" = true := by decide +kernel
  show ((pathS "a" && sgAll u) && ((pathS "a" && (sgAll v && (sgAll "" && (sgAll w && true)))) && (pathS "a" && true))) = true
  rw [a, b, c, d, e]
  rfl
theorem longV_bulk {u v w : Str} (b : u.length = 3000) (c : v.length = 2500) (d : w.length = 2001) : ∀ x ∈ longV u v w, x.data.bulk ≤ 16000 := by
  intro x hx
  rcases List.mem_cons.mp hx with rfl | hx
  · show 3 + 1 + (1 + 1 + (u.length + 1 + 0)) ≤ 16000
    omega
  rcases List.mem_cons.mp hx with rfl | hx
  · show 4 + 1 + (1 + 1 + ((v.length + 1 + (0 + 1 + (w.length + 1 + 0))) + 1 + 0)) ≤ 16000
    omega
  · rw [List.mem_singleton.mp hx]
    decide +kernel
theorem joinC_len (c : Nat) : ∀ xs : List (List Nat), (joinC c xs).length + 1 = (xs.map List.length).sum + max 1 xs.length
  | [] => rfl
  | [x] => by show x.length + 1 = (x.length + 0) + 1; omega
  | x :: y :: r => by
    have ih := joinC_len c (y :: r)
    show (x ++ c :: joinC c (y :: r)).length + 1 = _
    rw [List.length_append, List.length_cons, List.map_cons, List.sum_cons]
    simp only [List.length_cons] at ih ⊢
    omega
theorem join_len (c : Nat) (ws : List Str) (ne : ws ≠ []) : (Txt.join (one c) ws).length + 1 = sumLen ws + ws.length := by
  have h := joinC_len c (ws.map cd)
  rw [← cd_join, cd_len, ← txt_join, List.length_map, List.map_map] at h
  have e : (List.length ∘ cd) = fun z : Str => z.length := funext cd_len
  rw [e] at h
  have l : 0 < ws.length := List.length_pos_iff.mpr ne
  unfold sumLen
  omega
theorem longV_len {u v w : Str} (b : u.length = 3000) (c : v.length = 2500) (d : w.length = 2001) : (histS (longV u v w)).length = 7532 ∧ ∀ y ∈ (longV u v w).map lineD, y.length ≤ 9000 := by
  have h := join_len 10 ((longV u v w).map lineD) (by simp [longV])
  have l1 := join_len 32 (DeedV.put "a" u).words (words_ne _)
  have l2 := join_len 32 (DeedV.take "a" [v, "", w]).words (words_ne _)
  have l3 := join_len 32 (DeedV.store "a").words (words_ne _)
  have s1 : sumLen (DeedV.put "a" u).words = 3 + (2 + 3001) := by
    show sumLen ["put", eqw "a", eqw u] = _
    rw [sum_cons, sum_cons, sum_cons, eqw_len, eqw_len, b]
    rfl
  have s2 : sumLen (DeedV.take "a" [v, "", w]).words = 4 + (2 + (2501 + (1 + 2002))) := by
    show sumLen ["take", eqw "a", eqw v, eqw "", eqw w] = _
    rw [sum_cons, sum_cons, sum_cons, sum_cons, sum_cons, eqw_len, eqw_len, eqw_len, eqw_len, c, d]
    rfl
  have s3 : sumLen (DeedV.store "a").words = 5 + 2 := by decide +kernel
  have s4 : sumLen ((longV u v w).map lineD) = (lineD (.put "a" u)).length + ((lineD (.take "a" [v, "", w])).length + ((lineD (.store "a")).length + 0)) := by
    show sumLen [lineD _, lineD _, lineD _] = _
    rw [sum_cons, sum_cons, sum_cons]
    rfl
  rw [s1] at l1
  rw [s2] at l2
  rw [s3] at l3
  rw [s4] at h
  have w1 : (DeedV.put "a" u).words.length = 3 := rfl
  have w2 : (DeedV.take "a" [v, "", w]).words.length = 5 := rfl
  have w3 : (DeedV.store "a").words.length = 2 := rfl
  rw [w1] at l1
  rw [w2] at l2
  rw [w3] at l3
  have w4 : ((longV u v w).map lineD).length = 3 := rfl
  rw [w4] at h
  have g1 : (lineD (.put "a" u)).length + 1 = 3 + (2 + 3001) + 3 := l1
  have g2 : (lineD (.take "a" [v, "", w])).length + 1 = 4 + (2 + (2501 + (1 + 2002))) + 5 := l2
  have g3 : (lineD (.store "a")).length + 1 = 5 + 2 + 2 := l3
  refine ⟨?_, fun y hy => ?_⟩
  · show (Txt.join (one 10) ((longV u v w).map lineD)).length = 7532
    omega
  · rcases List.mem_cons.mp hy with rfl | hy
    · omega
    rcases List.mem_cons.mp hy with rfl | hy
    · omega
    · rw [List.mem_singleton.mp hy]
      omega
/-! ### rows of one kind -/
def sA : DeedV := .store "a"
theorem sA_ok : sA.ok = true := by decide +kernel
theorem sA_line : lineD sA = "store =a" := by decide +kernel
theorem reps_ok (n : Nat) : (List.replicate n sA).all DeedV.ok = true := by
  rw [List.all_eq_true]
  intro x hx
  rw [List.eq_of_mem_replicate hx]
  exact sA_ok
theorem reps_map (n : Nat) : (List.replicate n sA).map lineD = List.replicate n ("store =a" : Str) := by rw [List.map_replicate, sA_line]
theorem due_41 : dueZ (Txt.join (one 10) (List.replicate 41 ("store =a" : Str))) = .int ((41 : Nat) : Int) := by
  have h := reps_map 41
  have cl := lines_clean (reps_ok 41)
  obtain ⟨g1, g2⟩ := good_lines (reps_ok 41)
  rw [h] at cl g1 g2
  have hl := lines_joined (L := List.replicate 41 ("store =a" : Str)) (by decide) cl
  unfold dueZ
  rw [if_neg (fun e => by rw [e] at hl; have e2 : linesL "" = ([""] : List Str) := by decide +kernel
                          rw [e2] at hl; have := congrArg List.length hl; rw [List.length_replicate] at this; cases this), hl]
  unfold dueOf
  rw [g1, List.length_replicate]
  rfl
theorem due_40x : dueZ (Txt.join (one 10) (List.replicate 40 ("store =a" : Str) ++ [("x" : Str)])) = .int ((40 : Nat) : Int) := by
  have h := reps_map 40
  have cl := lines_clean (reps_ok 40)
  obtain ⟨g1, g2⟩ := good_lines (reps_ok 40)
  rw [h] at cl g1 g2
  have hl := lines_joined (L := List.replicate 40 ("store =a" : Str) ++ [("x" : Str)]) (by simp) (fun y hy => by
    rcases List.mem_append.mp hy with hy | hy
    · exact cl y hy
    · rw [List.mem_singleton.mp hy]
      decide)
  unfold dueZ
  rw [if_neg (fun e => by rw [e] at hl; have e2 : linesL "" = ([""] : List Str) := by decide +kernel
                          rw [e2] at hl; have := congrArg List.length hl; rw [List.length_append, List.length_replicate] at this; cases this), hl]
  unfold dueOf
  have b : firstBad ((List.replicate 40 ("store =a" : Str) ++ [("x" : Str)]).map lineOf) = some 40 := by
    rw [List.map_append]
    show firstBad (_ ++ [lineOf "x"]) = _
    rw [bad_app _ _ g1, show lineOf "x" = none by decide +kernel, List.length_map, List.length_replicate]
    rfl
  rw [b]
theorem lines_40x (n : Nat) (hn : n ≤ 41) : ∀ y ∈ List.replicate n ("store =a" : Str) ++ [("x" : Str)], y.length ≤ 9000 := fun y hy => by
  rcases List.mem_append.mp hy with hy | hy
  · rw [List.eq_of_mem_replicate hy]
    decide
  · rw [List.mem_singleton.mp hy]
    decide
theorem due_nl : dueZ "\n" = .int ((0 : Nat) : Int) := by
  unfold dueZ dueOf
  rw [if_neg (by decide), show firstBad ((linesL "\n").map lineOf) = some 0 by decide +kernel]
theorem due_s : dueZ "store =a\n" = .int ((1 : Nat) : Int) := by
  unfold dueZ dueOf
  rw [if_neg (by decide), show firstBad ((linesL "store =a\n").map lineOf) = some 1 by decide +kernel]
theorem due_t : dueZ "take =a" = .tuple [(DeedV.take "a" []).data] := by
  have l : linesL "take =a" = (["take =a"] : List Str) := by decide +kernel
  have e : lineOf "take =a" = some (.take "a" []) := by decide +kernel
  have o : (DeedV.take "a" []).ok = true := by decide +kernel
  unfold dueZ
  rw [if_neg (by decide), l]
  have d := due_good (L := ["take =a"]) (by show firstBad [lineOf "take =a"] = none; rw [e]; rfl)
  rw [d, List.filterMap_cons_some e, List.filterMap_nil, hist_data (by decide) (by show ((DeedV.take "a" []).ok && true) = true; rw [o]; rfl), if_pos rfl]
  rfl
theorem due_tb : dueZ "take =a = =b" = .tuple [(DeedV.take "a" ["", "b"]).data] := by
  have l : linesL "take =a = =b" = (["take =a = =b"] : List Str) := by decide +kernel
  have e : lineOf "take =a = =b" = some (.take "a" ["", "b"]) := by decide +kernel
  have o : (DeedV.take "a" ["", "b"]).ok = true := by decide +kernel
  unfold dueZ
  rw [if_neg (by decide), l]
  have d := due_good (L := ["take =a = =b"]) (by show firstBad [lineOf "take =a = =b"] = none; rw [e]; rfl)
  rw [d, List.filterMap_cons_some e, List.filterMap_nil, hist_data (by decide) (by show ((DeedV.take "a" ["", "b"]).ok && true) = true; rw [o]; rfl), if_pos rfl]
  rfl
/-- a row's texts are small: what _law_told asks of them -/
theorem textOk_of {z : Str} (h : (decide (z.length ≤ 50000) && (decide ((linesL z).length ≤ 1000) && (linesL z).all fun y => decide (y.length ≤ 9000))) = true) : textOk z := by
  obtain ⟨h1, h⟩ := Bool.and_eq_true_iff.mp h
  obtain ⟨h2, h3⟩ := Bool.and_eq_true_iff.mp h
  exact ⟨of_decide_eq_true h1, of_decide_eq_true h2, fun y hy => of_decide_eq_true (List.all_eq_true.mp h3 y hy)⟩
theorem textOk_join {L : List Str} (ne : L ≠ []) (h10 : ∀ y ∈ L, 10 ∉ cd y) (hl : ∀ y ∈ L, y.length ≤ 200) (n : L.length ≤ 100) : textOk (Txt.join (one 10) L) := by
  have hj := lines_joined ne h10
  have ln := len_joinN L
  have sm := sum_le hl
  have sm : sumLen L ≤ L.length * 200 := sm
  refine ⟨?_, by rw [hj]; omega, fun y hy => ?_⟩
  · have : L.length * 200 ≤ 100 * 200 := Nat.mul_le_mul_right _ n
    omega
  · rw [hj] at hy
    have := hl y hy
    omega
end K0
namespace K0
open PySem PySem.Spec PyProof.Rows L2
theorem lay_str {z : Str} (h : ascS z) : (PyData.str z).canLay0 = true := by
  show (z.cps.all fun x => decide (x < 1114112)) = true
  rw [← Array.all_toList, List.all_eq_true]
  intro c hc
  have := h c hc
  exact decide_eq_true (by omega)
theorem lay_strs : ∀ ts : List Str, (∀ t ∈ ts, ascS t) → PyData.canLayAll0 (ts.map PyData.str) = true
  | [], _ => rfl
  | t :: ts, h => by
    show ((PyData.str t).canLay0 && PyData.canLayAll0 (ts.map PyData.str)) = true
    rw [lay_str (h t List.mem_cons_self), lay_strs ts fun x hx => h x (List.mem_cons_of_mem _ hx)]
    rfl
theorem plain_strs : ∀ ts : List Str, plainDs (ts.map PyData.str) = true
  | [] => rfl
  | t :: ts => by
    show (true && plainDs (ts.map PyData.str)) = true
    rw [plain_strs ts]
    rfl
theorem deed_lay (d : DeedV) (h : ascD d) : d.data.canLay0 = true ∧ plainD d.data = true := by
  have lit : ∀ w : Str, ((cd w).all fun c => decide (c < 128)) = true → ascS w := fun w h c hc => of_decide_eq_true (List.all_eq_true.mp h c hc)
  have two : ∀ (w x : Str), ((cd w).all fun c => decide (c < 128)) = true → ascS x → ∀ t ∈ [w, x], ascS t := fun w x h g t ht => by
    rcases List.mem_cons.mp ht with rfl | ht
    · exact lit _ h
    · rw [List.mem_singleton.mp ht]; exact g
  have three : ∀ (w x y : Str), ((cd w).all fun c => decide (c < 128)) = true → ascS x → ascS y → ∀ t ∈ [w, x, y], ascS t := fun w x y h g g2 t ht => by
    rcases List.mem_cons.mp ht with rfl | ht
    · exact lit _ h
    rcases List.mem_cons.mp ht with rfl | ht
    · exact g
    · rw [List.mem_singleton.mp ht]; exact g2
  cases d with
  | use n => exact ⟨lay_strs ["use", n] (two _ _ (by decide) (h n (by simp [textsOf]))), plain_strs ["use", n]⟩
  | store p => exact ⟨lay_strs ["store", p] (two _ _ (by decide) (h p (by simp [textsOf]))), plain_strs ["store", p]⟩
  | put p t => exact ⟨lay_strs ["put", p, t] (three _ _ _ (by decide) (h p (by simp [textsOf])) (h t (by simp [textsOf]))), plain_strs ["put", p, t]⟩
  | move p q => exact ⟨lay_strs ["move", p, q] (three _ _ _ (by decide) (h p (by simp [textsOf])) (h q (by simp [textsOf]))), plain_strs ["move", p, q]⟩
  | take p ts =>
    have h1 := lay_strs ts fun t ht => h t (by simp [textsOf, ht])
    have hp := lay_str (h p (by simp [textsOf]))
    refine ⟨?_, ?_⟩
    · show ((PyData.str "take").canLay0 && ((PyData.str p).canLay0 && (PyData.canLayAll0 (ts.map PyData.str) && true))) = true
      rw [hp, h1, lay_str (lit "take" (by decide))]
      rfl
    · show (true && (true && (plainDs (ts.map PyData.str) && true))) = true
      rw [plain_strs]
      rfl
theorem deeds_lay : ∀ ds : List DeedV, (∀ d ∈ ds, ascD d) → PyData.canLayAll0 (ds.map DeedV.data) = true ∧ plainDs (ds.map DeedV.data) = true
  | [], _ => ⟨rfl, rfl⟩
  | d :: ds, h => by
    obtain ⟨h1, h2⟩ := deeds_lay ds fun x hx => h x (List.mem_cons_of_mem _ hx)
    obtain ⟨g1, g2⟩ := deed_lay d (h d List.mem_cons_self)
    refine ⟨?_, ?_⟩
    · show (d.data.canLay0 && PyData.canLayAll0 (ds.map DeedV.data)) = true
      rw [h1, g1]; rfl
    · show (plainD d.data && plainDs (ds.map DeedV.data)) = true
      rw [h2, g2]; rfl
theorem hist_lay {ds : List DeedV} (h : ds.all DeedV.ok = true) : SeqAt.shaped (.tuple (ds.map DeedV.data)) = true ∧ plainD (.tuple (ds.map DeedV.data)) = true ∧ PyData.eqv (.tuple (ds.map DeedV.data)) (.tuple (ds.map DeedV.data)) = true := by
  have a : ∀ d ∈ ds, ascD d := fun d hd => ok_asc (List.all_eq_true.mp h d hd)
  obtain ⟨h1, h2⟩ := deeds_lay ds a
  obtain ⟨_, _, h3⟩ := deeds_show ds a
  have l : (PyData.tuple (ds.map DeedV.data)).canLay0 = true := h1
  refine ⟨?_, h2, SeqAt.eqv_refl _ l⟩
  show ((PyData.tuple (ds.map DeedV.data)).canLay0 && decide ((PyData.tuple (ds.map DeedV.data)).depth ≤ 64)) = true
  rw [l, Bool.true_and]
  refine decide_eq_true ?_
  show PyData.depthAll (ds.map DeedV.data) + 1 ≤ 64
  omega
end K0
end
/-! ### LWl -/
section
set_option Elab.async false
set_option linter.all false
set_option maxRecDepth 100000
set_option maxHeartbeats 4000000
/-! The law. -/
namespace K0
open PySem PySem.Spec PyProof.Rows L2 LamX
abbrev lawN : List Str := ["script", "at", "dice", "long", "lines", "told", "due"]
theorem scLaw : FnScope lawN ["script"] (defScope (top iLaw)) := ⟨rfl, rfl, rfl, by decide +kernel, rfl, by decide +kernel, by decide +kernel⟩
def spLaw (K : PySem.W.Frag) (T : Addr) : Sp := fun vs H Q _ => ∃ (a : Addr) (ns : List Int), vs = [.ref a] ∧ SqL K H a (ns.map V.int) ∧ Tabs [(T, lamQ)] H ∧ ∀ H', Q (.bl true) H'
def told8 : PyData := .list [.tuple [], .str "", .int ((41 : Nat) : Int), .int ((40 : Nat) : Int), .int ((0 : Nat) : Int), .int ((1 : Nat) : Int), .tuple [(DeedV.take "a" []).data], .tuple [(DeedV.take "a" ["", "b"]).data]]
theorem told8_fit : Fit told8 := ⟨by decide +kernel, by decide +kernel, by decide +kernel, by decide +kernel⟩
section
variable {P : Program} {w : World} {K : PySem.W.Frag} {mg : Str → Option Value} {base : Heap} {f fD fR fF fH fW fT CT CP CO T : Addr} {fd fdD fdR fdF fdH fdW fdT : FuncData}
theorem ok_law {n : Nat} (F : FnP K "law" iLaw f fd) (sb : sysB K = true) (mrange : mg "range" = none) (mmax : mg "max" = none) (mmin : mg "min" = none) (mlen : mg "len" = none) (mrepr : mg "repr" = none)
    (FD : FnOk P w K mg base CX0 n fD fdD ["script", "at"] (spDice K)) (gD : mg "_law_dice" = some (.ref fD)) (kD : PySem.W.keepIn K (.ref fD) = true) (bD : Binds K fdD ["script", "at"] [])
    (FR : FnG P w K mg base CX0 n fR fdR ["dice"] spRight) (gR : mg "_law_right" = some (.ref fR)) (kR : PySem.W.keepIn K (.ref fR) = true) (bR : Binds K fdR ["dice"] [])
    (FF : FnG P w K mg base CX0 n fF fdF ["dice"] (spRef T)) (gF : mg "_law_refused" = some (.ref fF)) (kF : PySem.W.keepIn K (.ref fF) = true) (bF : Binds K fdF ["dice"] [])
    (FH : FnOk P w K mg base (L2.CX P w) n fH fdH ["lines"] (spReadH K CT CP)) (gH : mg "read_history" = some (.ref fH)) (kH : PySem.W.keepIn K (.ref fH) = true) (bH : Binds K fdH ["lines"] [])
    (FW : FnOk P w K mg base (L2.CX P w) n fW fdW ["history"] (spWrite K CO)) (gW : mg "write_history" = some (.ref fW)) (kW : PySem.W.keepIn K (.ref fW) = true) (bW : Binds K fdW ["history"] [])
    (FT : FnOk P w K mg base CX0 n fT fdT ["text"] (spTold K)) (gT : mg "_law_told" = some (.ref fT)) (kT : PySem.W.keepIn K (.ref fT) = true) (bT : Binds K fdT ["text"] []) :
    FnG P w K mg base CX0 (n + 1) f fd ["script"] (spLaw K T) := by
  refine fnG_ofC F scLaw (fun vs H Q E h => ?_) (fun cdv _ A outer s H vs Q E gd hr h => ?_)
  · obtain ⟨a, ns, rfl, _⟩ := h
    rfl
  · obtain ⟨a, ns, rfl, hS, T0, q⟩ := h
    have sl : sizeLine = 16777216 := sizeLine_eq
    refine ⟨_, PSs.nox (C8.pss_cut (ps_for PassesOwn.never rfl (pi_range1 (by rfl) mrange (pa_cons (pe_callB (call_max2 rfl) (by rfl) mmax boot_max (pa_cons pe_int (pa_cons (pe_callB (call_min2 rfl) (by rfl) mmin boot_min (pa_cons pe_int (pa_cons (pe_callB call_len_seq (by rfl) mlen PySem.boot_len (pa_cons (pv 0) pa_nil)) pa_nil))) pa_nil))) pa_nil)) (pg_name (i := 1) scLaw.nd rfl (.inl rfl))
        (pss_cons (ps_set (i := 2) scLaw.nd rfl (.inl rfl) (pe_call FD hr (by rfl) gD kD bD .nil pass0 (pa_cons (pv 0) (pa_cons (pv 1) pa_nil))))
        (pss_one (ps_if (PW.pt (pw_or (pt_not (pt_val (peG FR gd hr (by rfl) gR kR bR pass0 (pa_cons (pv 2) pa_nil)))) (pw_or1 (pt_not (pt_val (peG FF gd hr (by rfl) gF kF bF pass0 (pa_cons (pv 2) pa_nil)))))))
          (pss_one (ps_ret pe_bl)) pss_nil))))
      (C8.pss_cut (ps_set (i := 3) scLaw.nd rfl (.inl rfl) (pe_tup (pa_cons (pe_tup (pa_cons pe_str (pa_cons pe_str (pa_cons (pe_op op_strMul pe_str pe_int) pa_nil)))) (pa_cons (pe_tup (pa_cons pe_str (pa_cons pe_str (pa_cons (pe_tup (pa_cons (pe_op op_strMul pe_str pe_int) (pa_cons pe_str (pa_cons (pe_op op_strMul pe_str pe_int) pa_nil)))) pa_nil)))) (pa_cons (pe_tup (pa_cons pe_str (pa_cons pe_str pa_nil))) pa_nil)))))
      (C8.pss_cut (ps_if (PW.pt (pw_or (pt_cmpR (op_neD hr.units) (pe_call (E := fun _ _ _ => False) FH hr (by rfl) gH kH bH .nil (passes_call L2.takes0 fun _ _ _ _ z => z) (pa_cons (pe_call (E := fun _ _ _ => False) FW hr (by rfl) gW kW bW .nil (passes_call L2.takes0 fun _ _ _ _ z => z) (pa_cons (pv 3) pa_nil)) pa_nil)) (pv 3) (nomark _))
          (pw_or1 (pt_cmpR op_ne (pe_callB call_len_str (by rfl) mlen PySem.boot_len (pa_cons (pe_call (E := fun _ _ _ => False) FW hr (by rfl) gW kW bW .nil (passes_call L2.takes0 fun _ _ _ _ z => z) (pa_cons (pv 3) pa_nil)) pa_nil)) pe_int (nomark _))))) (pss_one (ps_ret pe_bl)) pss_nil)
      (C8.pss_cut (ps_set (i := 4) scLaw.nd rfl (.inl rfl) (pe_op op_rep (pe_lst (pa_cons pe_str pa_nil)) pe_int))
      (C8.pss_cut (ps_set (i := 5) scLaw.nd rfl (.inl rfl) (pe_lst (pa_cons (pe_call (E := fun _ _ _ => False) FH hr (by rfl) gH kH bH .nil (passes_call L2.takes0 fun _ _ _ _ z => z) (pa_cons pe_str pa_nil)) (pa_cons (pe_call (E := fun _ _ _ => False) FW hr (by rfl) gW kW bW .nil (passes_call L2.takes0 fun _ _ _ _ z => z) (pa_cons (pe_tup pa_nil) pa_nil))
          (pa_cons (pe_call FT hr (by rfl) gT kT bT .nil pass0 (pa_cons (pe_join pe_str (pv 4)) pa_nil)) (pa_cons (pe_call FT hr (by rfl) gT kT bT .nil pass0 (pa_cons (pe_join pe_str (pe_op op_cat (pe_slice sl_list (pv 4) po_none (po_some pe_int)) (pe_lst (pa_cons pe_str pa_nil)))) pa_nil)) pa_nil))))))
      (C8.pss_cut (ps_set (i := 5) scLaw.nd rfl (.inl rfl) (pe_op op_cat (pv 5) (pe_lst (pa_cons (pe_call FT hr (by rfl) gT kT bT .nil pass0 (pa_cons pe_str pa_nil)) (pa_cons (pe_call FT hr (by rfl) gT kT bT .nil pass0 (pa_cons pe_str pa_nil)) (pa_cons (pe_call FT hr (by rfl) gT kT bT .nil pass0 (pa_cons pe_str pa_nil)) (pa_cons (pe_call FT hr (by rfl) gT kT bT .nil pass0 (pa_cons pe_str pa_nil)) pa_nil)))))))
      (C8.pss_cut (ps_set (i := 6) scLaw.nd rfl (.inl rfl) (pe_lst (pa_cons (pe_tup pa_nil) (pa_cons pe_str (pa_cons pe_int (pa_cons pe_int (pa_cons pe_int (pa_cons pe_int (pa_cons (pe_tup (pa_cons (pe_tup (pa_cons pe_str (pa_cons pe_str (pa_cons (pe_tup pa_nil) pa_nil)))) pa_nil)) (pa_cons (pe_tup (pa_cons (pe_tup (pa_cons pe_str (pa_cons pe_str (pa_cons (pe_tup (pa_cons pe_str (pa_cons pe_str pa_nil))) pa_nil)))) pa_nil)) pa_nil))))))))))
      (pss_one (ps_ret (pe_and (pe_cmpR op_eq (pe_callB (call_repr sb gd hr.units) (by rfl) mrepr (by decide +kernel) (pa_cons (pv 5) pa_nil)) (pe_callB (call_repr sb gd hr.units) (by rfl) mrepr (by decide +kernel) (pa_cons (pv 6) pa_nil)) (nomark _))
          (pe_one (pe_cmpR op_eq (pe_callB call_len_seq (by rfl) mlen PySem.boot_len (pa_cons (pe_call (E := fun _ _ _ => False) FH hr (by rfl) gH kH bH .nil (passes_call L2.takes0 fun _ _ _ _ z => z) (pa_cons (pe_join pe_str (pe_slice sl_list (pv 4) po_none (po_some pe_int))) pa_nil)) pa_nil)) pe_int (nomark _))))))))))))), ?_⟩
    generalize hB : noTab H = B
    have sB : Same B H := by rw [← hB]; exact noTab_out
    have nB : ∀ b ps, B b ≠ some (.tbl ps) := fun b ps e => by
      rw [← hB] at e
      exact (noTab_of e).2 ps rfl
    have hS' : SqL K B a (ns.map V.int) := by rw [← hB]; exact sql_noTab hS
    refine ⟨fun σ' H' => ∃ a1 a2, σ' = [some (.ref a), a1, a2, none, none, none, none] ∧ Same B H' ∧ Tabs [(T, lamQ)] H', ?_, ?_⟩
    · refine ⟨_, rfl, a, _, rfl, .inl hS, _, _, rfl, _, _, rfl, ?_⟩
      have bd : ∀ m : Int, -(2 ^ 62) ≤ (if (if m < 8 then m else 8) > 1 then (if m < 8 then m else 8) else 1) ∧ (if (if m < 8 then m else 8) > 1 then (if m < 8 then m else 8) else 1) < (2 : Int) ^ 62 := fun m => by
        have e2 : (2 : Int) ^ 62 = 4611686018427387904 := by decide
        split <;> (try split) <;> omega
      refine ⟨_, rfl, (bd _).1, (bd _).2, for_range (lo := 0) (fun i σ' H' => ∃ a1 a2, σ' = [some (.ref a), a1, a2, none, none, none, none] ∧ Same B H' ∧ Tabs [(T, lamQ)] H') ⟨_, _, rfl, sB, T0⟩ (fun i σ' H' hi hP => ?_) (fun σ' H' hP => hP)⟩
      obtain ⟨a1, a2, rfl, s1, t1⟩ := hP
      refine ⟨_, rfl, _, rfl, a, ns, i, by rw [Int.zero_add]; rfl, s1.seq hS', fun p x y z np => ?_⟩
      have nBp : B p = none := none_back s1 np
      have sp : Same H' (upd H' p (dk x y z)) := same_upd np
      have tp : Tabs [(T, lamQ)] (upd H' p (dk x y z)) := t1.ext sp
      have k0 : KeepN p T B (upd H' p (dk x y z)) := ⟨fun b o n _ e => sp _ _ (s1 _ _ e), ⟨x, y, z, upd_same⟩, tp⟩
      refine ⟨_, rfl, p, rfl, ⟨x, y, z, upd_same⟩, fun H2 k2 => ⟨true, rfl, ite2 (fun e => by cases e) (fun _ => ?_)⟩⟩
      refine ⟨_, rfl, p, rfl, B, nB, k0.keep k2, fun H5 k5 => ⟨true, rfl, ite2 (fun e => by cases e) (fun _ => ⟨_, _, rfl, fun b o e => ?_, k5.2.2⟩)⟩⟩
      exact k5.1 b o (ne_of_none e nBp) (fun ps z => nB b ps (by rw [e, z])) e
    rintro σ1 H1 ⟨a1, a2, rfl, _, _⟩
    obtain ⟨U, hU, U1, U2⟩ : ∃ U, rep "_" 3000 = U ∧ sgAll U = true ∧ U.length = 3000 := ⟨_, rfl, rep_sg (by decide +kernel), by rw [rep_len]; rfl⟩
    obtain ⟨V', hV, V1, V2⟩ : ∃ U, rep "b" 2500 = U ∧ sgAll U = true ∧ U.length = 2500 := ⟨_, rfl, rep_sg (by decide +kernel), by rw [rep_len]; rfl⟩
    obtain ⟨W', hW, W1, W2⟩ : ∃ U, rep "$" 2001 = U ∧ sgAll U = true ∧ U.length = 2001 := ⟨_, rfl, rep_sg (by decide +kernel), by rw [rep_len]; rfl⟩
    have lok := longV_ok U1 V1 W1
    have lbk := longV_bulk U2 V2 W2
    obtain ⟨llen, lshort⟩ := longV_len U2 V2 W2
    obtain ⟨lshape, lplain, leqv⟩ := hist_lay lok
    have lne : longV U V' W' ≠ [] := by simp [longV]
    have ldue := dueZ_written (hs := longV U V' W') (by show 3 ≤ 40; decide) lok lne
    have llin : linesL (histS (longV U V' W')) = (longV U V' W').map lineD := lines_joined (fun z => lne (List.map_eq_nil_iff.mp z)) (lines_clean lok)
    have lb2 : (PyData.tuple ((longV U V' W').map DeedV.data)).bulk ≤ 100000 := by
      show (3 + 1 + (1 + 1 + (U.length + 1 + 0))) + 1 + ((4 + 1 + (1 + 1 + ((V'.length + 1 + (0 + 1 + (W'.length + 1 + 0))) + 1 + 0))) + 1 + ((5 + 1 + (1 + 1 + 0)) + 1 + 0)) ≤ 100000
      omega
    refine ⟨fun σ' H' => ∃ t, σ' = [some (.ref a), a1, a2, some (.ref t), none, none, none] ∧ Dv K H' (.ref t) (.tuple ((longV U V' W').map DeedV.data)), ?_, ?_⟩
    · refine ⟨"_", 3000, rfl, rfl, by decide, by decide, by decide, by decide, by show 3 ≤ sizeLine; omega, fun t1 n1 => ?_⟩
      refine ⟨"b", 2500, rfl, rfl, by decide, by decide, by decide, by decide, "$", 2001, rfl, rfl, by decide, by decide, by decide, by decide, by show 3 ≤ sizeLine; omega, fun t2 n2 => ⟨by show 3 ≤ sizeLine; omega, fun t3 n3 => ⟨by show 2 ≤ sizeLine; omega, fun t4 n4 => ⟨by show 3 ≤ sizeLine; omega, fun t5 n5 => ⟨t5, rfl, ?_⟩⟩⟩⟩⟩
      rw [hU, hV, hW] at *
      have s5 := same_upd (o := .tup [.ref t1, .ref t3, .ref t4]) n5
      have s4 := same_upd (o := .tup [.str "store", .str "a"]) n4
      have s3 := same_upd (o := .tup [.str "take", .str "a", .ref t2]) n3
      have s2 := same_upd (o := .tup [.str V', .str "", .str W']) n2
      exact .tup (.of upd_same) (.cons (.tup (.of (s5 _ _ (s4 _ _ (s3 _ _ (s2 _ _ upd_same))))) (.cons (.str _) (.cons (.str _) (.cons (.str _) .nil))))
        (.cons (.tup (.of (s5 _ _ (s4 _ _ upd_same))) (.cons (.str _) (.cons (.str _) (.cons (.tup (.of (s5 _ _ (s4 _ _ (s3 _ _ upd_same)))) (.cons (.str _) (.cons (.str _) (.cons (.str _) .nil)))) .nil))))
        (.cons (.tup (.of (s5 _ _ upd_same)) (.cons (.str _) (.cons (.str _) .nil))) .nil)))
    rintro σ2 H2 ⟨t, rfl, dT⟩
    refine ⟨fun σ' H' => σ' = [some (.ref a), a1, a2, some (.ref t), none, none, none], ?_, ?_⟩
    · refine ⟨_, rfl, _, _, rfl, dT, lb2, .inr ⟨_, rfl, by show 3 ≤ 40; decide, lok, lbk, fun H3 s3 => ?_⟩⟩
      refine ⟨_, .str (histS (longV U V' W')), rfl, .str _, .inr ⟨_, rfl, by omega, by rw [llin]; show 3 ≤ 1000; decide, by rw [llin]; exact lshort, fun m e => ?_, fun ds e H4 x s4 hx => ?_⟩⟩
      · rw [ldue] at e
        cases e
      · rw [ldue] at e
        cases e
        refine ⟨_, rfl, _, _, dv_dp hx lplain, dv_dp (dT.same' (s3.trans s4)) lplain, lshape, lshape, _, rfl, ?_⟩
        rw [leqv]
        refine ite2 (fun z => by cases z) (fun _ => ?_)
        refine ⟨_, rfl, _, _, rfl, dT.same' (s3.trans s4), lb2, .inr ⟨_, rfl, by show 3 ≤ 40; decide, lok, lbk, fun H5 s5 => ?_⟩⟩
        refine ⟨_, rfl, by omega, rfl, _, rfl, ?_⟩
        rw [llen]
        exact ite2 (fun z => by cases z) (fun _ => rfl)
    rintro σ3 H3 rfl
    clear dT
    have lines41 : (List.replicate (41 : Int).toNat [V.str "store =a"]).flatten = (List.replicate 41 ("store =a" : Str)).map V.str := by decide +kernel
    refine ⟨fun σ' H' => ∃ m, σ' = [some (.ref a), a1, a2, some (.ref t), some (.ref m), none, none] ∧ H' m = some (.lst ((List.replicate 41 ("store =a" : Str)).map V.str)), ?_, ?_⟩
    · refine ⟨by show 1 ≤ sizeLine; omega, fun m1 n1 => ⟨m1, 41, _, rfl, rfl, upd_same, by decide, by decide, by show 1 * 41 ≤ sizeLine; omega, fun m2 n2 => ⟨m2, rfl, ?_⟩⟩⟩
      rw [upd_same, lines41]
    rintro σ4 H4 ⟨m, rfl, em⟩
    have due0 : dueZ "" = .tuple [] := if_pos rfl
    have l0 : linesL "" = ([""] : List Str) := by decide +kernel
    have s10 : ∀ (n : Nat), ∀ y ∈ List.replicate n ("store =a" : Str), 10 ∉ cd y ∧ y.length ≤ 200 := fun n y hy => by
      rw [List.eq_of_mem_replicate hy]
      exact ⟨by decide, by decide⟩
    have sx : ∀ y ∈ List.replicate 40 ("store =a" : Str) ++ [("x" : Str)], 10 ∉ cd y ∧ y.length ≤ 200 := fun y hy => by
      rcases List.mem_append.mp hy with hy | hy
      · exact s10 40 y hy
      · rw [List.mem_singleton.mp hy]
        exact ⟨by decide, by decide⟩
    have jb : ∀ {L : List Str}, (∀ y ∈ L, 10 ∉ cd y ∧ y.length ≤ 200) → L.length ≤ 100 → (L.map (·.length)).sum + L.length * 1 ≤ 16777216 := fun {L} h n => by
      have := sum_le (l := L) (B := 200) fun y hy => (h y hy).2
      have : L.length * 200 ≤ 100 * 200 := Nat.mul_le_mul_right _ n
      omega
    have slice : cutV ((List.replicate 41 ("store =a" : Str)).map V.str) none (some 40) = (List.replicate 40 ("store =a" : Str)).map V.str := by
      have := cutV_to ((List.replicate 41 ("store =a" : Str)).map V.str) 40
      rw [List.map_replicate, List.map_replicate] at *
      exact this.trans (by rw [List.take_replicate]; rfl)
    refine ⟨fun σ' H' => ∃ l xs, σ' = [some (.ref a), a1, a2, some (.ref t), some (.ref m), some (.ref l), none] ∧ H' m = some (.lst ((List.replicate 41 ("store =a" : Str)).map V.str)) ∧ H' l = some (.lst xs) ∧ DvAll K H' xs [.tuple [], .str "", .int ((41 : Nat) : Int), .int ((40 : Nat) : Int)], ?_, ?_⟩
    · refine ⟨.str "", .str "", rfl, .str _, .inr ⟨"", rfl, by decide, by rw [l0]; decide, by rw [l0]; decide, (fun m e => by rw [due0] at e; cases e), fun ds e H5 x1 s5 hx1 => ?_⟩⟩
      rw [due0] at e
      cases e
      refine ⟨Nat.zero_le _, fun b nb => ⟨.ref b, .tuple [], rfl, .tup (.of upd_same) .nil, by decide, .inr ⟨[], rfl, by decide, rfl, fun x hx => absurd hx List.not_mem_nil, fun H6 s6 => ?_⟩⟩⟩
      have s46 := (s5.trans (same_upd (o := .tup []) nb)).trans s6
      refine ⟨⟨_, rfl⟩, _, rfl, "\n", m, List.replicate 41 "store =a", rfl, rfl, .inl (.of (s46 _ _ em)), jb (s10 41) (by rw [List.length_replicate]; decide), Txt.join (one 10) (List.replicate 41 "store =a"), rfl, textOk_join (by decide) (fun y hy => (s10 41 y hy).1) (fun y hy => (s10 41 y hy).2) (by rw [List.length_replicate]; decide), fun H7 x3 s7 hx3 => ?_⟩
      rw [due_41] at hx3
      have s47 := s46.trans s7
      refine ⟨⟨_, rfl⟩, _, rfl, _, rfl, m, _, rfl, .of (s47 _ _ em), fun p np => ⟨by show 1 ≤ sizeLine; omega, fun r nr => ?_⟩⟩
      rw [slice] at *
      have sp := same_upd (o := .lst ((List.replicate 40 ("store =a" : Str)).map V.str)) np
      have sr := same_upd (o := .lst [.str "x"]) nr
      refine ⟨p, r, _, _, rfl, rfl, sr _ _ upd_same, upd_same, by rw [List.length_map, List.length_replicate, sl]; decide, fun u nu => ?_⟩
      have su := same_upd (o := .lst ((List.replicate 40 ("store =a" : Str)).map V.str ++ [.str "x"])) nu
      have s48 := ((s47.trans sp).trans sr).trans su
      refine ⟨"\n", u, List.replicate 40 ("store =a" : Str) ++ [("x" : Str)], rfl, rfl, .inl (.of (by rw [upd_same, List.map_append]; rfl)), jb sx (by rw [List.length_append, List.length_replicate]; decide), Txt.join (one 10) (List.replicate 40 ("store =a" : Str) ++ [("x" : Str)]), rfl, textOk_join (by simp) (fun y hy => (sx y hy).1) (fun y hy => (sx y hy).2) (by rw [List.length_append, List.length_replicate]; decide), fun H8 x4 s8 hx4 => ?_⟩
      rw [due_40x] at hx4
      have s78 := ((sp.trans sr).trans su).trans s8
      refine ⟨by show 4 ≤ sizeLine; omega, fun l nl => ⟨l, _, rfl, ?_, upd_same, ?_⟩⟩
      · exact same_upd nl _ _ (s8 _ _ (s48 _ _ em))
      · have sl' : ∀ {xs : List V}, Same H8 (upd H8 l (.lst xs)) := same_upd nl
        exact .cons ((hx1.same' ((((same_upd nb).trans s6).trans s7).trans s78)).same' sl') (.cons (.str _) (.cons ((hx3.same' s78).same' sl') (.cons (hx4.same' sl') .nil)))
    rintro σ5 H5 ⟨l, xs, rfl, em5, el, da⟩
    refine ⟨fun σ' H' => ∃ l, σ' = [some (.ref a), a1, a2, some (.ref t), some (.ref m), some (.ref l), none] ∧ H' m = some (.lst ((List.replicate 41 ("store =a" : Str)).map V.str)) ∧ Dv K H' (.ref l) told8, ?_, ?_⟩
    · refine ⟨_, rfl, "\n", rfl, textOk_of (by decide +kernel), fun H6 x1 s6 h1 => ?_⟩
      refine ⟨"store =a\n", rfl, textOk_of (by decide +kernel), fun H7 x2 s7 h2 => ?_⟩
      refine ⟨"take =a", rfl, textOk_of (by decide +kernel), fun H8 x3 s8 h3 => ?_⟩
      refine ⟨"take =a = =b", rfl, textOk_of (by decide +kernel), fun H9 x4 s9 h4 => ?_⟩
      rw [due_nl] at h1
      rw [due_s] at h2
      rw [due_t] at h3
      rw [due_tb] at h4
      refine ⟨by show 4 ≤ sizeLine; omega, fun r nr => ?_⟩
      have sr := same_upd (o := .lst [x1, x2, x3, x4]) nr
      have s59 := ((s6.trans s7).trans s8).trans s9
      have xl := da.length
      refine ⟨l, r, xs, _, rfl, rfl, sr _ _ (s59 _ _ el), upd_same, by rw [xl, sl]; show 4 + 4 ≤ 16777216; decide, fun u nu => ⟨u, rfl, ?_, ?_⟩⟩
      · exact same_upd nu _ _ (sr _ _ (s59 _ _ em5))
      · have su := same_upd (o := .lst (xs ++ [x1, x2, x3, x4])) nu
        have e5 := (s59.trans sr).trans su
        exact .lst (.of upd_same) (DvAll.append (DvAll.same e5 _ _ da) (.cons (h1.same' ((((s7.trans s8).trans s9).trans sr).trans su)) (.cons (h2.same' (((s8.trans s9).trans sr).trans su)) (.cons (h3.same' ((s9.trans sr).trans su)) (.cons (h4.same' (sr.trans su)) .nil)))))
    rintro σ6 H6 ⟨l6, rfl, em6, d6⟩
    refine ⟨fun σ' H' => ∃ l', σ' = [some (.ref a), a1, a2, some (.ref t), some (.ref m), some (.ref l6), some (.ref l')] ∧ H' m = some (.lst ((List.replicate 41 ("store =a" : Str)).map V.str)) ∧ Dv K H' (.ref l6) told8 ∧ Dv K H' (.ref l') told8, ?_, ?_⟩
    · refine ⟨Nat.zero_le _, fun b1 n1 => ⟨Nat.zero_le _, fun b2 n2 => ⟨by show 3 ≤ sizeLine; omega, fun b3 n3 => ⟨by show 1 ≤ sizeLine; omega, fun b4 n4 => ⟨by show 2 ≤ sizeLine; omega, fun b5 n5 => ⟨by show 3 ≤ sizeLine; omega, fun b6 n6 => ⟨by show 1 ≤ sizeLine; omega, fun b7 n7 => ⟨by show 8 ≤ sizeLine; omega, fun b8 n8 => ?_⟩⟩⟩⟩⟩⟩⟩⟩
      have s1 := same_upd (o := .tup []) n1
      have s2 := same_upd (o := .tup []) n2
      have s3 := same_upd (o := .tup [.str "take", .str "a", .ref b2]) n3
      have s4 := same_upd (o := .tup [.ref b3]) n4
      have s5 := same_upd (o := .tup [.str "", .str "b"]) n5
      have s6 := same_upd (o := .tup [.str "take", .str "a", .ref b5]) n6
      have s7 := same_upd (o := .tup [.ref b6]) n7
      have s8 := same_upd (o := .lst [.ref b1, .str "", .int 41, .int 40, .int 0, .int 1, .ref b4, .ref b7]) n8
      have all := ((((((s1.trans s2).trans s3).trans s4).trans s5).trans s6).trans s7).trans s8
      refine ⟨b8, rfl, all _ _ em6, d6.same' all, ?_⟩
      exact .lst (.of upd_same) (.cons (.tup (.of (s8 _ _ (s7 _ _ (s6 _ _ (s5 _ _ (s4 _ _ (s3 _ _ (s2 _ _ upd_same)))))))) .nil) (.cons (.str _) (.cons (.int _) (.cons (.int _) (.cons (.int _) (.cons (.int _)
        (.cons (.tup (.of (s8 _ _ (s7 _ _ (s6 _ _ (s5 _ _ upd_same))))) (.cons (.tup (.of (s8 _ _ (s7 _ _ (s6 _ _ (s5 _ _ (s4 _ _ upd_same)))))) (.cons (.str _) (.cons (.str _) (.cons (.tup (.of (s8 _ _ (s7 _ _ (s6 _ _ (s5 _ _ (s4 _ _ (s3 _ _ upd_same))))))) .nil) .nil)))) .nil))
        (.cons (.tup (.of (s8 _ _ upd_same)) (.cons (.tup (.of (s8 _ _ (s7 _ _ upd_same))) (.cons (.str _) (.cons (.str _) (.cons (.tup (.of (s8 _ _ (s7 _ _ (s6 _ _ upd_same)))) (.cons (.str _) (.cons (.str _) .nil))) .nil)))) .nil)) .nil))))))))
    rintro σ7 H7 ⟨l7, rfl, em7, d7, e7⟩
    have h40 := reps_map 40
    have due40 : dueZ (histS (List.replicate 40 sA)) = .tuple ((List.replicate 40 sA).map DeedV.data) := dueZ_written (by rw [List.length_replicate]; decide) (reps_ok 40) (by decide)
    have t40 : histS (List.replicate 40 sA) = Txt.join (one 10) (List.replicate 40 ("store =a" : Str)) := by
      unfold histS
      rw [h40]
    rw [t40] at due40
    refine ⟨_, rfl, _, told8, rfl, d7, told8_fit, _, rfl, _, told8, rfl, e7, told8_fit, rfl, _, rfl, ?_⟩
    refine ite2 (fun _ => ?_) (fun z => absurd (decide_eq_true rfl) z)
    refine ⟨⟨_, rfl⟩, _, rfl, _, rfl, m, _, rfl, .of em7, fun p np => ?_⟩
    rw [slice] at *
    refine ⟨"\n", p, List.replicate 40 "store =a", rfl, rfl, .inl (.of upd_same), jb (s10 40) (by rw [List.length_replicate]; decide), ?_⟩
    obtain ⟨k1, k2, k3⟩ := textOk_join (L := List.replicate 40 ("store =a" : Str)) (by decide) (fun y hy => (s10 40 y hy).1) (fun y hy => (s10 40 y hy).2) (by rw [List.length_replicate]; decide)
    refine ⟨_, .str (Txt.join (one 10) (List.replicate 40 ("store =a" : Str))), rfl, .str _, .inr ⟨_, rfl, k1, k2, k3, (fun m e => by rw [due40] at e; cases e), fun ds e H8 x s8 hx => ?_⟩⟩
    rw [due40] at e
    cases e
    cases hx with
    | tup hT hA =>
      have xl := hA.length
      rw [List.length_map, List.length_replicate] at xl
      refine ⟨_, _, rfl, .inr hT, ?_⟩
      rw [xl]
      refine ⟨rfl, ?_⟩
      exact q _
end
end K0
end
/-! ### HK76 -/
section
set_option Elab.async false
set_option linter.all false
set_option maxRecDepth 100000
set_option maxHeartbeats 0
/-! What the head tells: own exceptions with an __init__; a dict of the top, its keys that are there and that are not. -/
namespace K0
open PySem PySem.Spec PyProof.Rows L2
def clsBody0 (s : Stmt) : Stmt := match s with
  | .ClassDef _ _ _ b _ _ _ _ _ _ _ => b.getD 0 (.Pass ⟨0, 0, 0, 0⟩)
  | _ => .Pass ⟨0, 0, 0, 0⟩
def xrow (i : Nat) : Stmt := clsBody0 (top i)
def dfx (c q : Str) (i : Nat) : He.DefD := ⟨(c, some "__init__"), "__init__", q, defArgs (xrow i), defBody (xrow i), defScope (xrow i), [], []⟩
def bm_ValueError : List Value := [.type "ValueError", .type "Exception", .type "BaseException", .type "object"]
def xiB (K : PySem.W.Frag) (c f : Str) (bm : List Value) (newId : String) : Bool :=
  He.eqO (PySem.W.findIn K (.ref (He.ga K c)) f) (some none) && (PySem.W.excInitIn K (He.ga K c) bm newId && (PySem.W.excOver K (He.ga K c) bm && (He.eqO (PySem.W.findIn K (.ref (He.ga K c)) "__setattr__") (some (some (.builtin "object.__setattr__"))) &&
  (He.eqO (PySem.W.findIn K (.ref (He.ga K c)) "__init__") (some (some (.ref (He.ma K (He.ga K c) "__init__")))) && decide (PySem.W.typeIn K (.ref (He.ma K (He.ga K c) "__init__")) = some (.type "function"))))))
theorem xi_ValueError {K : PySem.W.Frag} {c f : Str} (h : xiB K c f bm_ValueError "ValueError.__new__" = true) : XI K (He.ga K c) (He.ma K (He.ga K c) "__init__") "ValueError" "ValueError.__new__" "ValueError.__init__" bm_ValueError f := by
  unfold xiB at h
  obtain ⟨h1, h⟩ := He.ba h
  obtain ⟨h2, h⟩ := He.ba h
  obtain ⟨h3, h⟩ := He.ba h
  obtain ⟨h4, h⟩ := He.ba h
  obtain ⟨h5, h6⟩ := He.ba h
  exact ⟨⟨_, PySem.F.excBase_ValueError⟩, by decide +kernel, by decide +kernel, by decide +kernel, by decide +kernel, fun self => by rfl, h2, h3, He.eqO_ok h4, He.eqO_ok h5, of_decide_eq_true h6, He.eqO_ok h1⟩
/-- a key that is not there -/
theorem nsIn_absent {K : PySem.W.Frag} {w : World} {a : Addr} {ks : List Str} {z : Str} (h : He.dicW K a = some (He.keysIn w.params ks)) (hz : z ∉ ks) : PySem.W.nsIn K a z = some none := by
  obtain ⟨es, n, D⟩ := He.dicW_ok h
  have hk : es.toList.map He.keyOf = He.keysIn w.params ks := by
    unfold He.dicW at h
    rw [D.at_] at h
    dsimp only at h
    split at h
    · exact Option.some.inj h
    · cases h
  have each : ∀ e ∈ es.toList, ∃ k t, e.key = .str k t ∧ k ∈ ks := fun e he => by
    have m : He.keyOf e ∈ He.keysIn w.params ks := by rw [← hk]; exact List.mem_map_of_mem he
    unfold He.keysIn at m
    obtain ⟨k, hkm, e2⟩ := List.mem_map.mp m
    unfold He.keyOf at e2
    cases q : e.key with
    | str x t =>
      rw [q] at e2
      have e3 := Option.some.inj e2
      have e4 : k = x := congrArg Prod.fst e3
      exact ⟨x, t, rfl, e4 ▸ hkm⟩
    | _ => rw [q] at e2; cases e2
  unfold PySem.W.nsIn
  rw [D.at_]
  have f1 : es.toList.find? (fun x => x.key.isStr z) = none := by
    rw [List.find?_eq_none]
    intro e he hs
    obtain ⟨k, t, e1, e2⟩ := each e he
    rw [e1] at hs
    have : (k == z) = true := hs
    rw [beq_iff_eq] at this
    exact hz (this ▸ e2)
  have f2 : (es.toList.any fun x => x.refKey) = false := by
    cases q : es.toList.any fun x => x.refKey with
    | false => rfl
    | true =>
      obtain ⟨e, he, hs⟩ := List.any_eq_true.mp q
      obtain ⟨k, t, e1, _⟩ := each e he
      unfold DictEntry.refKey at hs
      rw [e1] at hs
      cases hs
  dsimp only
  rw [f1, f2]
  rfl
end K0
end
/-! ### END -/
section
set_option Elab.async false
set_option linter.all false
set_option maxRecDepth 100000
set_option maxHeartbeats 4000000
/-! The end of a law whose promise is kept where nothing is being shown, beside one table of code objects. -/
namespace K0
open PySem PySem.Spec PyProof.Rows L2 LamX
theorem isTab_other {h : Heap} {b P : Addr} {o : Obj} (t : h.get? P = some { cls := .none, data := .fields #[] }) (e : h.get? b = some o) (d : o.data ≠ .fields #[]) : b ≠ P := fun z => by
  rw [z, t] at e
  cases e
  exact d rfl
section
variable {P : Program} {w : World} {K : PySem.W.Frag} {mg : Str → Option Value} {CX : CXT} {k : Nat} {f : Addr} {fd : FuncData}
theorem lawGT {a c T : Addr} {mb : Str → Option Value} {x : Str} {sp : Sp} {s₁ : Shared} {vs : List Value} {ns : List Int} (KX : K.In s₁.heap) (hns : s₁.heap.Ns mainGlobals mg) (hmb : s₁.heap.Ns builtinsNs mb) (hbb : ∀ x : Str, x ≠ "__name__" → mb x = bootBuiltins x) (lim : s₁.heap.NoLimit) (gens : s₁.gens = #[])
    (tab : s₁.heap.get? T = some { cls := .none, data := .fields #[] }) (out : K.lookup T = none) (code : PySem.W.CodeHd s₁.heap c T)
    (blt : ∃ (bm : Addr) (ob : Obj), mg "__builtins__" = some (.ref bm) ∧ bm ≠ builtinsNs ∧ s₁.heap.get? bm = some ob ∧ ob.cls = .type "module" ∧ ob.dict = some builtinsNs ∧ ob.data = .plain)
    (obj : s₁.heap.get? a = some { cls := .type "list", data := .seq vs.toArray }) (its : IntsAre vs ns) (most : ns.length ≤ sizeLine) (room : Room k callerA) (F : ∀ base : Heap, K.In base → base.Ns mainGlobals mg → TabB base mg c T → FnG P w K mg base CX k f fd [x] sp)
    (bind : ∀ (s : Shared) (u : Value), BindsTo s fd ⟨[u], []⟩ [(x, u)]) (prom : ∀ H : Hp, H T = some (.tbl #[]) → SqL K H a (ns.map V.int) → sp [.ref a] H (fun v _ => v = .bl true) fun _ _ _ => False) (none_out : ∀ H e s', CX [] H s₁ (fun _ _ _ => False) e s' → False) :
    codeAny (model P w) callerA (.call (.ref f) ⟨[.ref a], []⟩) (fun r s' => r = .ok (.ret (.bool true)) ∧ OldK s₁.heap s'.heap ∧ s'.os = s₁.os ∧ AllBare s'.gens) s₁ := by
  have rel := vals_ints its
  have size := its.length
  have aT : a ≠ T := isTab_other tab obj fun z => by cases z
  have main : ∀ H : Hp, H T = some (.tbl #[]) → (∀ b, b ≠ T → H b = none ∨ (b = a ∧ K.lookup a = none ∧ ∃ o xs, H b = some (.frz o (.lst xs)))) → SqL K H a (ns.map V.int) → HOk P w H s₁.heap →
      codeAny (model P w) callerA (.call (.ref f) ⟨[.ref a], []⟩) (fun r s' => r = .ok (.ret (.bool true)) ∧ OldK s₁.heap s'.heap ∧ s'.os = s₁.os ∧ AllBare s'.gens) s₁ := by
    intro H hT only seq hok
    have free : ∀ {b : Addr} {o : Obj}, s₁.heap.get? b = some o → o.data ≠ .fields #[] → (∀ us n, o.data ≠ .seq us n) → H b = none := fun {b o} e d1 d2 => by
      rcases only b (isTab_other tab e d1) with z | ⟨rfl, _, _⟩
      · exact z
      · rw [obj] at e
        cases e
        exact (d2 _ _ rfl).elim
    have keepNs : ∀ {b : Addr} {m : Str → Option Value}, s₁.heap.Ns b m → (hidT s₁.heap H).Ns b m := fun {b m} ⟨o, es, ep, e, d, r⟩ =>
      ⟨o, es, ep, hidT_get e (free e (fun z => by rw [d] at z; cases z) fun us n z => by rw [d] at z; cases z), d, r⟩
    have kin : K.In (hidT s₁.heap H) := fun b o e => hidT_get (KX b o e) (by
      by_cases bT : b = T
      · rw [bT, out] at e
        cases e
      · rcases only b bT with z | ⟨rfl, z, _⟩
        · exact z
        · rw [z] at e
          cases e)
    have mod : Mod K mg (hidT s₁.heap H) := ⟨kin, keepNs hns, ⟨mb, keepNs hmb, hbb⟩, lim.elim fun mc z => ⟨mc, keepNs z.1, z.2⟩⟩
    have gT : mainGlobals ≠ T := hns.elim fun o z => z.elim fun es z => z.elim fun ep z => isTab_other tab z.1 fun y => by rw [z.2.1] at y; cases y
    have TB : TabB (hidT s₁.heap H) mg c T := by
      refine ⟨?_, ?_, gT⟩
      · obtain ⟨o, us, fl, tf, fg, tg, iF, tx, tt, e1, r1, r2, r3, rest⟩ := code
        exact ⟨o, us, fl, tf, fg, tg, iF, tx, tt, hidT_get e1 (free e1 (fun z => by rw [r2] at z; cases z; simp at r3) fun us n z => by rw [r2] at z; cases z), r1, r2, r3, rest⟩
      · obtain ⟨bm, ob, b1, b2, b3, b4, b5, b6⟩ := blt
        have nG : bm ≠ mainGlobals := fun z => hns.elim fun o y => y.elim fun es y => y.elim fun ep y => by
          have e := y.1
          rw [← z, b3] at e
          cases e
          rw [b6] at y
          cases y.2.1
        exact ⟨bm, ob, b1, b2, nG, isTab_other tab b3 (fun z => by rw [b6] at z; cases z), hidT_get b3 (free b3 (fun z => by rw [b6] at z; cases z) fun us n z => by rw [b6] at z; cases z), b4, b5, b6⟩
    have e0 : Env0 P w K mg (hidT s₁.heap H) callerA [] s₁ H := ⟨rfl, mod, fun b o e => of_hidT e, Nat.le_of_eq (hidT_size _ _), trivial, (fun b z => nomatch (show b ∈ ([] : List Addr) from z)), hok, .of_eq gens⟩
    refine codeAny_mono ((F _ kin (keepNs hns) TB).go callerA [] s₁ H ⟨[.ref a], []⟩ [.ref a] [.ref a] _ _ rfl room e0 (bind s₁ (.ref a)) (.cons rfl .nil) (prom H hT seq)) fun r s' z => ?_
    rcases r with e | fl
    · exact (none_out H e s' z).elim
    cases fl with
    | next => exact z.elim
    | brk => exact z.elim
    | cont => exact z.elim
    | ret u =>
      obtain ⟨v, H', os, bare, un, hok', rv, rfl⟩ := z
      obtain rfl : u = Value.bool true := rv
      obtain ⟨more, grown⟩ := un.tbls T #[] hT
      have tab' : s'.heap.get? T = some { cls := .none, data := .fields (#[] ++ more) } := hok' T _ grown
      have key : ∀ b o, b ≠ T → s₁.heap.get? b = some o → s'.heap.get? b = some o := fun b o n e => by
        rcases only b n with z | ⟨_, _, ob, xs, z⟩
        · exact un.keep b o e z (fun y => nomatch (show b ∈ ([] : List Addr) from y)) fun y => nomatch y
        · obtain ⟨e1, _⟩ := hok b _ z
          obtain ⟨e2, _⟩ := hok' b _ (un.frzs b ob _ z)
          rw [e] at e1
          cases e1
          exact e2
      refine ⟨rfl, ⟨fun b o e => ?_, fun b o e => ?_⟩, os, bare⟩
      · by_cases n : b = T
        · rw [n] at e ⊢
          rw [tab] at e
          cases e
          exact .inr (.inl ⟨(code.tab tab).isCodeTable, rfl, #[], more, rfl, tab'⟩)
        · exact .inl (key b o n e)
      · by_cases n : b = T
        · exact ⟨_, n ▸ tab'⟩
        · exact ⟨o, key b o n e⟩
  cases own : K.lookup a with
  | some o =>
    have e := KX a o own
    rw [obj] at e
    cases e
    refine main (fun b => if b = T then some (.tbl #[]) else none) (if_pos rfl) (fun b n => .inl (if_neg n)) (.inr ⟨_, vs.toArray, _, own, rfl, rfl, rfl, by rw [List.size_toArray, size]; exact most, by simpa using rel⟩) fun b u z => ?_
    by_cases n : b = T
    · have z2 := (if_pos n).symm.trans z
      cases z2
      exact n ▸ tab
    · have z2 := (if_neg n).symm.trans z
      cases z2
  | none =>
    have at_a : ∀ {b : Addr}, b = a → (if b = T then some (HO.tbl #[]) else if b = a then some (HO.frz { cls := .type "list", data := .seq vs.toArray } (.lst (ns.map V.int))) else none) = some (HO.frz { cls := .type "list", data := .seq vs.toArray } (.lst (ns.map V.int))) := fun {b} z =>
      (if_neg (show ¬ b = T by rw [z]; exact aT)).trans (if_pos z)
    refine main (fun b => if b = T then some (.tbl #[]) else if b = a then some (.frz { cls := .type "list", data := .seq vs.toArray } (.lst (ns.map V.int))) else none) (if_pos rfl) (fun b n => ?_) (.inl (.inr ⟨_, at_a rfl⟩)) fun b u z => ?_
    · by_cases m : b = a
      · exact .inr ⟨m, own, _, _, at_a m⟩
      · exact .inl ((if_neg n).trans (if_neg m))
    · by_cases n : b = T
      · have z2 := (if_pos n).symm.trans z
        cases z2
        exact n ▸ tab
      · by_cases m : b = a
        · have z2 := (at_a m).symm.trans z
          cases z2
          subst m
          exact ⟨obj, by rw [List.length_map]; exact most, vs, _, rel, obj⟩
        · have z2 := ((if_neg n).trans (if_neg m)).symm.trans z
          cases z2
end
/-- the end over a head by facts -/
theorem walkGT {l : PySem.W.OpenLaw} {n k : Nat} {q : Program} {loose : List Str} {XP : (Str → Option Value) → Heap → Prop} {YP : World → Heap → Prop} {d : DefRec} {x : Str}
    (hn : l.most = some n) (hn2 : n ≤ sizeLine) (hdf : d.params.defaults = []) (room : Room k callerA)
    (F : ∀ (w : World) (mg : Str → Option Value) (f : Addr) (h : Heap), YP w h → h.Ns mainGlobals mg → mg d.name = some (.ref f) → ∃ (K : PySem.W.Frag) (c T : Addr), K.In h ∧ h.get? T = some { cls := .none, data := .fields #[] } ∧ K.lookup T = none ∧ PySem.W.CodeHd h c T ∧
      ∃ fd : FuncData, (∀ (s : Shared) (u : Value), BindsTo s fd ⟨[u], []⟩ [(x, u)]) ∧ ∀ base : Heap, K.In base → base.Ns mainGlobals mg → TabB base mg c T → FnG l.prog w K mg base CX0 k f fd [x] (spLaw K T)) :
    PySem.W.WalkO q loose XP YP l.row.toRowW d [] (fun f vs => PySem.call f vs) := by
  refine Att.attach_call hn hdf fun w s₀ s₁ mg mb f o pm cd doc a vs ns G Y ho hd hcd hmg hobj its len gens => ?_
  obtain ⟨K, c, T, KX, tab, out, code, fd, b, G2⟩ := F w mg f _ Y G.T.g hmg
  exact lawGT KX G.T.g G.T.b G.T.builtins G.T.nolimit gens tab out code G.T.bmain hobj its (Nat.le_trans len hn2) room G2 b (fun H t seq => ⟨a, ns, rfl, seq, fun x hx => by
    rw [List.mem_singleton.mp hx]
    exact TabS.nil t, fun _ => rfl⟩) fun H e s' z => z
end K0
end
/-! ### KH -/
section
set_option Elab.async false
set_option linter.all false
set_option maxRecDepth 100000
set_option maxHeartbeats 0
/-! The head of k76: what the top leaves, told by a Hook of its own; the run of the top. -/
namespace K0
open PySem PySem.Spec PyProof.Rows L2 LamX
abbrev R : PySem.W.OpenRow := PySem.W.OpenLaw.row PySem.Challenge.rw_cleandress_k76_histories_there_and_back
def fnT : List (Str × Nat) := [("is_text", 7), ("is_name", 11), ("is_path", 14), ("is_deed", 16), ("is_history", 19), ("text_word", 21), ("line_of", 22), ("words_of", 23), ("is_text_word", 24), ("rows_of_lines", 25), ("deed_row", 28), ("write_history", 31), ("words_of_deed", 32), ("read_history", 33), ("_law_dice", 35), ("_law_roll", 36), ("_law_one_of", 37), ("_law_all_signs", 38), ("_law_word", 39), ("_law_path", 40), ("_law_deed", 41), ("_law_line", 42), ("_law_texts_in", 43), ("_law_read", 44), ("_law_is_deed", 45), ("_law_bent", 46), ("_law_told", 47), ("_law_due", 48), ("_law_right", 49), ("_law_word_of", 50), ("_law_refused", 51), ("law", 52)]
def fn : List He.DefD := (fnT.map fun z => dfn z.1 z.2) ++ [dfx "ParseError" "ParseError.__init__" 4]
def fa : List He.Fa := [He.Fa.glo "is_text", He.Fa.glo "is_name", He.Fa.glo "is_path", He.Fa.glo "is_deed", He.Fa.glo "is_history", He.Fa.glo "text_word", He.Fa.glo "line_of", He.Fa.glo "words_of", He.Fa.glo "is_text_word", He.Fa.glo "rows_of_lines", He.Fa.glo "deed_row", He.Fa.glo "write_history", He.Fa.glo "words_of_deed", He.Fa.glo "read_history", He.Fa.glo "_law_dice", He.Fa.glo "_law_roll", He.Fa.glo "_law_one_of", He.Fa.glo "_law_all_signs", He.Fa.glo "_law_word", He.Fa.glo "_law_path", He.Fa.glo "_law_deed", He.Fa.glo "_law_line", He.Fa.glo "_law_texts_in", He.Fa.glo "_law_read", He.Fa.glo "_law_is_deed", He.Fa.glo "_law_bent", He.Fa.glo "_law_told", He.Fa.glo "_law_due", He.Fa.glo "_law_right", He.Fa.glo "_law_word_of", He.Fa.glo "_law_refused", He.Fa.glo "law", He.Fa.free "abs", He.Fa.free "int", He.Fa.free "max", He.Fa.free "min", He.Fa.free "len", He.Fa.free "range", He.Fa.free "isinstance", He.Fa.free "repr", He.Fa.free "str", He.Fa.free "tuple", He.Fa.free "list", He.Fa.free "all", He.Fa.free "enumerate", He.Fa.glo "InvalidText", He.Fa.exc "InvalidText", He.Fa.glo "InvalidOperation", He.Fa.exc "InvalidOperation", He.Fa.glo "ParseError", He.Fa.exm "InvalidText" "InvalidText" true, He.Fa.exm "InvalidText" "InvalidOperation" false, He.Fa.exm "InvalidOperation" "InvalidOperation" true, He.Fa.exm "ParseError" "ParseError" true, He.Fa.glo "DEEDS", He.Fa.glo "TEXTS_BEHIND", He.Fa.str "SIGNS" allSigns, He.Fa.str "LETTERS" letters, He.Fa.int "MAX_NAME" 8, He.Fa.int "MAX_PATH" 12, He.Fa.int "MAX_DEEDS" 40]
def names : List Str := (["DressError", "InvalidText", "InvalidOperation", "ParseError", "SIGNS", "is_text", "LETTERS", "MAX_NAME", "is_name", "MAX_PATH", "is_path", "is_deed"] : List Str) ++ (["MAX_DEEDS", "is_history", "text_word", "line_of", "words_of", "is_text_word", "rows_of_lines", "TEXTS_BEHIND", "deed_row", "DEEDS", "write_history", "words_of_deed"] : List Str) ++ (["read_history", "_law_dice", "_law_roll", "_law_one_of", "_law_all_signs", "_law_word", "_law_path", "_law_deed", "_law_line", "_law_texts_in", "_law_read", "_law_is_deed"] : List Str) ++ (["_law_bent", "_law_told", "_law_due", "_law_right", "_law_word_of", "_law_refused"] : List Str)
def okB (K : PySem.W.Frag) : Bool := (sysB K) && ((xfB K (He.ga K "InvalidText")) && ((xfB K (He.ga K "InvalidOperation")) && ((xfB K (He.ga K "ParseError")) && ((xiB K "ParseError" "number" bm_ValueError "ValueError.__new__") && ((He.tupB K "DEEDS" [.str "use", .str "put", .str "move", .str "take", .str "store"]) && (He.valsB K (He.ga K "TEXTS_BEHIND") [("store", .int 0), ("put", .int 1), ("move", .int 1)]))))))
abbrev AlA : Type := He.AlD × (Bool × Option (List (Option (Str × Int))))
abbrev pTab : He.Defn := ("_law_refused", none)
def dKeys : List Str := ["store", "put", "move"]
def KofG (g : Addr → Option Obj) : PySem.W.Frag := He.frT g (sysModules :: cStatics :: He.asD g 6)
def tabB (g : Addr → Option Obj) (K : PySem.W.Frag) : Bool := PySem.W.codeHdIn K (He.cT K pTab).1 (He.cT K pTab).2 && (match g (He.cT K pTab).2 with
  | some o => He.emptyTab o
  | none => false)
def obsAG (g : Addr → Option Obj) : AlA := (He.obsD fa fn (KofG g), (okB (KofG g) && tabB g (KofG g), He.dicW (KofG g) (He.ga (KofG g) "TEXTS_BEHIND")))
def valA (w : World) : AlA := (He.valD fn, (true, some (He.keysIn w.params dKeys)))
structure SaysA (w : World) (h : Heap) (K : PySem.W.Frag) : Prop where
  d : He.SaysD fa fn K
  ok : okB K = true
  ws : He.dicW K (He.ga K "TEXTS_BEHIND") = some (He.keysIn w.params dKeys)
  hd : PySem.W.codeHdIn K (He.cT K pTab).1 (He.cT K pTab).2 = true
  out : K.lookup (He.cT K pTab).2 = none
  tab : h.get? (He.cT K pTab).2 = some { cls := .none, data := .fields #[] }
theorem says_of {w : World} {h : Heap} (e : obsAG h.get? = valA w) : SaysA w h (KofG h.get?) := by
  have e1 : He.SaysD fa fn (KofG h.get?) := congrArg (fun z : AlA => z.1) e
  have e2 : (okB (KofG h.get?) && tabB h.get? (KofG h.get?)) = true := congrArg (fun z : AlA => z.2.1) e
  have e3 := congrArg (fun z : AlA => z.2.2) e
  obtain ⟨h1, e2⟩ := He.ba e2
  unfold tabB at e2
  obtain ⟨h2, h3⟩ := He.ba e2
  cases q : h.get? (He.cT (KofG h.get?) pTab).2 with
  | none => rw [q] at h3; cases h3
  | some o =>
    rw [q] at h3
    exact ⟨e1, h1, e3, h2, He.frT_none q h3, by rw [q, He.emptyTab_eq h3]⟩
def hookA : PySem.W.Hook where
  α := AlA
  obs := fun s => obsAG s.heap.get?
  val := fun w => valA w
  says := fun w h => ∃ K : PySem.W.Frag, K.In h ∧ SaysA w h K
  of := fun _ _ e => ⟨_, He.frT_in, says_of e⟩
  keeps := fun _ _ _ ⟨K, hK, c⟩ k => ⟨K, PySem.W.Frag.In.keeps hK k, ⟨c.d, c.ok, c.ws, c.hd, c.out, k _ _ c.tab⟩⟩
def obA (s : PySem.W.SharedT) : AlA := obsAG (HandSHeadRun.getT s)
theorem obA_eq (s : PySem.W.SharedT) : obA s = hookA.obs s.abs := by
  have e : HandSHeadRun.getT s = s.abs.heap.get? := funext (HandSHeadRun.getT_eq s)
  show obsAG _ = obsAG _
  rw [e]
/-- the world, with its answer to one setting named -/
def wb (b : Bool) (w : World) : World := ⟨w.draws, { w.params with followText := fun s => match decide (s = "special-get-raises") with
  | true => b
  | false => w.params.followText s }⟩
theorem wb_self (w : World) : wb (w.params.followText "special-get-raises") w = w := by
  obtain ⟨d, p⟩ := w
  have e : (fun s : String => match decide (s = "special-get-raises") with
    | true => p.followText "special-get-raises"
    | false => p.followText s) = p.followText := by
    funext s
    by_cases h : s = "special-get-raises"
    · subst h; rfl
    · rw [decide_eq_false h]
  show World.mk d { p with followText := _ } = _
  rw [show (fun s : String => match decide (s = "special-get-raises") with
    | true => (World.mk d p).params.followText "special-get-raises"
    | false => (World.mk d p).params.followText s) = p.followText from e]
theorem runB (b : Bool) (w : World) : HandSHeadRun.RunEq R (PySem.W.view R.prog [52]) hookA obA 20000 names (wb b w) := by
  intro os
  cases b
  · kernel_rfl
  · kernel_rfl
theorem runA (w : World) : HandSHeadRun.RunEq R (PySem.W.view R.prog [52]) hookA obA 20000 names w := by
  have h := runB (w.params.followText "special-get-raises") w
  rwa [wb_self] at h
theorem ok_ini_ParseError {P : Program} {w : World} {K : PySem.W.Frag} {mg : Str → Option Value} {base : Heap} {f C : Addr} {fd : FuncData} {B newId initId : String} {bmB : List Value} (F : FunD K "__init__" "ParseError.__init__" (defArgs (xrow 4)) (defBody (xrow 4)) (defScope (xrow 4)) [] [] f fd) (T : XI K C f B newId initId bmB "number") (U : XF K C) : FnOk P w K mg base CX0 1 f fd ["self", "number"] (spIniX C "number") := by
  have sc : FnScope ["self", "number"] ["self", "number"] (defScope (xrow 4)) := ⟨rfl, rfl, rfl, by decide +kernel, rfl, by decide +kernel, by decide +kernel⟩
  refine F.ok sc (fun vs H Q E h => ?_) (fun cdv A outer s H vs Q E hr h => ?_)
  · obtain ⟨a, v, rfl, _⟩ := h
    rfl
  · obtain ⟨a, v, rfl, e, q⟩ := h
    exact ⟨_, PSs.nox (pss_one (ps_st T U (pv 0) (pv 1))), v, rfl, _, rfl, a, rfl, e, q⟩
end K0
end
/-! ### KF -/
section
set_option Elab.async false
set_option linter.all false
set_option maxRecDepth 100000
set_option maxHeartbeats 0
/-! The facts unpacked; each def keeps its promise. -/
namespace K0
open PySem PySem.Spec PyProof.Rows L2 LamX
theorem facts {P : Program} {w : World} {K : PySem.W.Frag} {h : Heap} {mg : Str → Option Value} {f : Addr} (X : K.In h) (G : h.Ns mainGlobals mg) (hfa : mg ("law" : Str) = some (.ref f)) (c : SaysA w h K) :
    ∃ (cc T : Addr), h.get? T = some { cls := .none, data := .fields #[] } ∧ K.lookup T = none ∧ PySem.W.CodeHd h cc T ∧
    ∃ fd : FuncData, (∀ (s : Shared) (v : Value), BindsTo s fd ⟨[v], []⟩ [("script", v)]) ∧ ∀ base : Heap, K.In base → base.Ns mainGlobals mg → TabB base mg cc T → FnG P w K mg base CX0 10 f fd ["script"] (spLaw K T) := by
  have d := c.d
  have ok := c.ok
  unfold okB at ok
  obtain ⟨sb, ok⟩ := He.ba ok
  obtain ⟨oXInvalidText, ok⟩ := He.ba ok
  obtain ⟨oXInvalidOperation, ok⟩ := He.ba ok
  obtain ⟨oXParseError, ok⟩ := He.ba ok
  obtain ⟨oIParseError, ok⟩ := He.ba ok
  obtain ⟨oTDeeds, ok⟩ := He.ba ok
  have oDTextsBehind := ok
  obtain ⟨fdIsText, FIsText⟩ := d.def_ 0 (d := dfn "is_text" 7) rfl
  have gIsText := He.glo_ok X G (d.fact 0 (f := .glo "is_text") rfl)
  have bIsText : Binds K fdIsText ["value"] [] := FIsText.bindsN fun _ _ _ _ _ _ us hl => match us, hl with | [_], _ => rfl
  obtain ⟨fdIsName, FIsName⟩ := d.def_ 1 (d := dfn "is_name" 11) rfl
  have gIsName := He.glo_ok X G (d.fact 1 (f := .glo "is_name") rfl)
  have bIsName : Binds K fdIsName ["value"] [] := FIsName.bindsN fun _ _ _ _ _ _ us hl => match us, hl with | [_], _ => rfl
  obtain ⟨fdIsPath, FIsPath⟩ := d.def_ 2 (d := dfn "is_path" 14) rfl
  have gIsPath := He.glo_ok X G (d.fact 2 (f := .glo "is_path") rfl)
  have bIsPath : Binds K fdIsPath ["value"] [] := FIsPath.bindsN fun _ _ _ _ _ _ us hl => match us, hl with | [_], _ => rfl
  obtain ⟨fdIsDeed, FIsDeed⟩ := d.def_ 3 (d := dfn "is_deed" 16) rfl
  have gIsDeed := He.glo_ok X G (d.fact 3 (f := .glo "is_deed") rfl)
  have bIsDeed : Binds K fdIsDeed ["value"] [] := FIsDeed.bindsN fun _ _ _ _ _ _ us hl => match us, hl with | [_], _ => rfl
  obtain ⟨fdIsHistory, FIsHistory⟩ := d.def_ 4 (d := dfn "is_history" 19) rfl
  have gIsHistory := He.glo_ok X G (d.fact 4 (f := .glo "is_history") rfl)
  have bIsHistory : Binds K fdIsHistory ["value"] [] := FIsHistory.bindsN fun _ _ _ _ _ _ us hl => match us, hl with | [_], _ => rfl
  obtain ⟨fdTextWord, FTextWord⟩ := d.def_ 5 (d := dfn "text_word" 21) rfl
  have gTextWord := He.glo_ok X G (d.fact 5 (f := .glo "text_word") rfl)
  have bTextWord : Binds K fdTextWord ["text"] [] := FTextWord.bindsN fun _ _ _ _ _ _ us hl => match us, hl with | [_], _ => rfl
  obtain ⟨fdLineOf, FLineOf⟩ := d.def_ 6 (d := dfn "line_of" 22) rfl
  have gLineOf := He.glo_ok X G (d.fact 6 (f := .glo "line_of") rfl)
  have bLineOf : Binds K fdLineOf ["words"] [] := FLineOf.bindsN fun _ _ _ _ _ _ us hl => match us, hl with | [_], _ => rfl
  obtain ⟨fdWordsOf, FWordsOf⟩ := d.def_ 7 (d := dfn "words_of" 23) rfl
  have gWordsOf := He.glo_ok X G (d.fact 7 (f := .glo "words_of") rfl)
  have bWordsOf : Binds K fdWordsOf ["line"] [] := FWordsOf.bindsN fun _ _ _ _ _ _ us hl => match us, hl with | [_], _ => rfl
  obtain ⟨fdIsTextWord, FIsTextWord⟩ := d.def_ 8 (d := dfn "is_text_word" 24) rfl
  have gIsTextWord := He.glo_ok X G (d.fact 8 (f := .glo "is_text_word") rfl)
  have bIsTextWord : Binds K fdIsTextWord ["word"] [] := FIsTextWord.bindsN fun _ _ _ _ _ _ us hl => match us, hl with | [_], _ => rfl
  obtain ⟨fdRowsOfLines, FRowsOfLines⟩ := d.def_ 9 (d := dfn "rows_of_lines" 25) rfl
  have gRowsOfLines := He.glo_ok X G (d.fact 9 (f := .glo "rows_of_lines") rfl)
  have bRowsOfLines : Binds K fdRowsOfLines ["lines", "row_of", "following"] [] := FRowsOfLines.bindsN fun _ _ _ _ _ _ us hl => match us, hl with | [_, _, _], _ => rfl
  obtain ⟨fdDeedRow, FDeedRow⟩ := d.def_ 10 (d := dfn "deed_row" 28) rfl
  have gDeedRow := He.glo_ok X G (d.fact 10 (f := .glo "deed_row") rfl)
  have bDeedRow : Binds K fdDeedRow ["words"] [] := FDeedRow.bindsN fun _ _ _ _ _ _ us hl => match us, hl with | [_], _ => rfl
  obtain ⟨fdWriteHistory, FWriteHistory⟩ := d.def_ 11 (d := dfn "write_history" 31) rfl
  have gWriteHistory := He.glo_ok X G (d.fact 11 (f := .glo "write_history") rfl)
  have bWriteHistory : Binds K fdWriteHistory ["history"] [] := FWriteHistory.bindsN fun _ _ _ _ _ _ us hl => match us, hl with | [_], _ => rfl
  obtain ⟨fdWordsOfDeed, FWordsOfDeed⟩ := d.def_ 12 (d := dfn "words_of_deed" 32) rfl
  have gWordsOfDeed := He.glo_ok X G (d.fact 12 (f := .glo "words_of_deed") rfl)
  have bWordsOfDeed : Binds K fdWordsOfDeed ["deed"] [] := FWordsOfDeed.bindsN fun _ _ _ _ _ _ us hl => match us, hl with | [_], _ => rfl
  obtain ⟨fdReadHistory, FReadHistory⟩ := d.def_ 13 (d := dfn "read_history" 33) rfl
  have gReadHistory := He.glo_ok X G (d.fact 13 (f := .glo "read_history") rfl)
  have bReadHistory : Binds K fdReadHistory ["lines"] [] := FReadHistory.bindsN fun _ _ _ _ _ _ us hl => match us, hl with | [_], _ => rfl
  obtain ⟨fdLawDice, FLawDice⟩ := d.def_ 14 (d := dfn "_law_dice" 35) rfl
  have gLawDice := He.glo_ok X G (d.fact 14 (f := .glo "_law_dice") rfl)
  have bLawDice : Binds K fdLawDice ["script", "at"] [] := FLawDice.bindsN fun _ _ _ _ _ _ us hl => match us, hl with | [_, _], _ => rfl
  obtain ⟨fdLawRoll, FLawRoll⟩ := d.def_ 15 (d := dfn "_law_roll" 36) rfl
  have gLawRoll := He.glo_ok X G (d.fact 15 (f := .glo "_law_roll") rfl)
  have bLawRoll : Binds K fdLawRoll ["dice", "total"] [] := FLawRoll.bindsN fun _ _ _ _ _ _ us hl => match us, hl with | [_, _], _ => rfl
  obtain ⟨fdLawOneOf, FLawOneOf⟩ := d.def_ 16 (d := dfn "_law_one_of" 37) rfl
  have gLawOneOf := He.glo_ok X G (d.fact 16 (f := .glo "_law_one_of") rfl)
  have bLawOneOf : Binds K fdLawOneOf ["dice", "items"] [] := FLawOneOf.bindsN fun _ _ _ _ _ _ us hl => match us, hl with | [_, _], _ => rfl
  obtain ⟨fdLawAllSigns, FLawAllSigns⟩ := d.def_ 17 (d := dfn "_law_all_signs" 38) rfl
  have gLawAllSigns := He.glo_ok X G (d.fact 17 (f := .glo "_law_all_signs") rfl)
  have bLawAllSigns : Binds K fdLawAllSigns [] [] := FLawAllSigns.bindsN fun _ _ _ _ _ _ us hl => match us, hl with | [], _ => rfl
  obtain ⟨fdLawWord, FLawWord⟩ := d.def_ 18 (d := dfn "_law_word" 39) rfl
  have gLawWord := He.glo_ok X G (d.fact 18 (f := .glo "_law_word") rfl)
  have bLawWord : Binds K fdLawWord ["dice", "upto"] [] := FLawWord.bindsN fun _ _ _ _ _ _ us hl => match us, hl with | [_, _], _ => rfl
  obtain ⟨fdLawPath, FLawPath⟩ := d.def_ 19 (d := dfn "_law_path" 40) rfl
  have gLawPath := He.glo_ok X G (d.fact 19 (f := .glo "_law_path") rfl)
  have bLawPath : Binds K fdLawPath ["dice"] [] := FLawPath.bindsN fun _ _ _ _ _ _ us hl => match us, hl with | [_], _ => rfl
  obtain ⟨fdLawDeed, FLawDeed⟩ := d.def_ 20 (d := dfn "_law_deed" 41) rfl
  have gLawDeed := He.glo_ok X G (d.fact 20 (f := .glo "_law_deed") rfl)
  have bLawDeed : Binds K fdLawDeed ["dice"] [] := FLawDeed.bindsN fun _ _ _ _ _ _ us hl => match us, hl with | [_], _ => rfl
  obtain ⟨fdLawLine, FLawLine⟩ := d.def_ 21 (d := dfn "_law_line" 42) rfl
  have gLawLine := He.glo_ok X G (d.fact 21 (f := .glo "_law_line") rfl)
  have bLawLine : Binds K fdLawLine ["deed"] [] := FLawLine.bindsN fun _ _ _ _ _ _ us hl => match us, hl with | [_], _ => rfl
  obtain ⟨fdLawTextsIn, FLawTextsIn⟩ := d.def_ 22 (d := dfn "_law_texts_in" 43) rfl
  have gLawTextsIn := He.glo_ok X G (d.fact 22 (f := .glo "_law_texts_in") rfl)
  have bLawTextsIn : Binds K fdLawTextsIn ["words"] [] := FLawTextsIn.bindsN fun _ _ _ _ _ _ us hl => match us, hl with | [_], _ => rfl
  obtain ⟨fdLawRead, FLawRead⟩ := d.def_ 23 (d := dfn "_law_read" 44) rfl
  have gLawRead := He.glo_ok X G (d.fact 23 (f := .glo "_law_read") rfl)
  have bLawRead : Binds K fdLawRead ["line"] [] := FLawRead.bindsN fun _ _ _ _ _ _ us hl => match us, hl with | [_], _ => rfl
  obtain ⟨fdLawIsDeed, FLawIsDeed⟩ := d.def_ 24 (d := dfn "_law_is_deed" 45) rfl
  have gLawIsDeed := He.glo_ok X G (d.fact 24 (f := .glo "_law_is_deed") rfl)
  have bLawIsDeed : Binds K fdLawIsDeed ["deed"] [] := FLawIsDeed.bindsN fun _ _ _ _ _ _ us hl => match us, hl with | [_], _ => rfl
  obtain ⟨fdLawBent, FLawBent⟩ := d.def_ 25 (d := dfn "_law_bent" 46) rfl
  have gLawBent := He.glo_ok X G (d.fact 25 (f := .glo "_law_bent") rfl)
  have bLawBent : Binds K fdLawBent ["dice", "line"] [] := FLawBent.bindsN fun _ _ _ _ _ _ us hl => match us, hl with | [_, _], _ => rfl
  obtain ⟨fdLawTold, FLawTold⟩ := d.def_ 26 (d := dfn "_law_told" 47) rfl
  have gLawTold := He.glo_ok X G (d.fact 26 (f := .glo "_law_told") rfl)
  have bLawTold : Binds K fdLawTold ["text"] [] := FLawTold.bindsN fun _ _ _ _ _ _ us hl => match us, hl with | [_], _ => rfl
  obtain ⟨fdLawDue, FLawDue⟩ := d.def_ 27 (d := dfn "_law_due" 48) rfl
  have gLawDue := He.glo_ok X G (d.fact 27 (f := .glo "_law_due") rfl)
  have bLawDue : Binds K fdLawDue ["lines"] [] := FLawDue.bindsN fun _ _ _ _ _ _ us hl => match us, hl with | [_], _ => rfl
  obtain ⟨fdLawRight, FLawRight⟩ := d.def_ 28 (d := dfn "_law_right" 49) rfl
  have gLawRight := He.glo_ok X G (d.fact 28 (f := .glo "_law_right") rfl)
  have bLawRight : Binds K fdLawRight ["dice"] [] := FLawRight.bindsN fun _ _ _ _ _ _ us hl => match us, hl with | [_], _ => rfl
  obtain ⟨fdLawWordOf, FLawWordOf⟩ := d.def_ 29 (d := dfn "_law_word_of" 50) rfl
  have gLawWordOf := He.glo_ok X G (d.fact 29 (f := .glo "_law_word_of") rfl)
  have bLawWordOf : Binds K fdLawWordOf ["call"] [] := FLawWordOf.bindsN fun _ _ _ _ _ _ us hl => match us, hl with | [_], _ => rfl
  obtain ⟨fdLawRefused, FLawRefused⟩ := d.def_ 30 (d := dfn "_law_refused" 51) rfl
  have gLawRefused := He.glo_ok X G (d.fact 30 (f := .glo "_law_refused") rfl)
  have bLawRefused : Binds K fdLawRefused ["dice"] [] := FLawRefused.bindsN fun _ _ _ _ _ _ us hl => match us, hl with | [_], _ => rfl
  obtain ⟨fdLaw, FLaw⟩ := d.def_ 31 (d := dfn "law" 52) rfl
  have gLaw := He.glo_ok X G (d.fact 31 (f := .glo "law") rfl)
  have bLaw : Binds K fdLaw ["script"] [] := FLaw.bindsN fun _ _ _ _ _ _ us hl => match us, hl with | [_], _ => rfl
  obtain ⟨fdIParseError, FIParseError⟩ := d.def_ 32 (d := dfx "ParseError" "ParseError.__init__" 4) rfl
  have bIParseError : Binds K fdIParseError ["self", "number"] [] := FIParseError.bindsN fun _ _ _ _ _ _ us hl => match us, hl with | [_, _], _ => rfl
  have mabs := He.free_ok X G (d.fact 32 (f := .free "abs") rfl)
  have mint := He.free_ok X G (d.fact 33 (f := .free "int") rfl)
  have mmax := He.free_ok X G (d.fact 34 (f := .free "max") rfl)
  have mmin := He.free_ok X G (d.fact 35 (f := .free "min") rfl)
  have mlen := He.free_ok X G (d.fact 36 (f := .free "len") rfl)
  have mrange := He.free_ok X G (d.fact 37 (f := .free "range") rfl)
  have misinstance := He.free_ok X G (d.fact 38 (f := .free "isinstance") rfl)
  have mrepr := He.free_ok X G (d.fact 39 (f := .free "repr") rfl)
  have mstr := He.free_ok X G (d.fact 40 (f := .free "str") rfl)
  have mtuple := He.free_ok X G (d.fact 41 (f := .free "tuple") rfl)
  have mlist := He.free_ok X G (d.fact 42 (f := .free "list") rfl)
  have mall := He.free_ok X G (d.fact 43 (f := .free "all") rfl)
  have menumerate := He.free_ok X G (d.fact 44 (f := .free "enumerate") rfl)
  have gInvalidText : mg "InvalidText" = some (.ref (He.ga K "InvalidText")) := He.glo_ok X G (d.fact 45 (f := .glo "InvalidText") rfl)
  obtain ⟨x1InvalidText, x2InvalidText, x3InvalidText, x4InvalidText⟩ := He.exc_ok (d.fact 46 (f := .exc "InvalidText") rfl)
  have gInvalidOperation : mg "InvalidOperation" = some (.ref (He.ga K "InvalidOperation")) := He.glo_ok X G (d.fact 47 (f := .glo "InvalidOperation") rfl)
  obtain ⟨x1InvalidOperation, x2InvalidOperation, x3InvalidOperation, x4InvalidOperation⟩ := He.exc_ok (d.fact 48 (f := .exc "InvalidOperation") rfl)
  have gParseError : mg "ParseError" = some (.ref (He.ga K "ParseError")) := He.glo_ok X G (d.fact 49 (f := .glo "ParseError") rfl)
  have xmInvalidTextInvalidText := He.exm_ok (d.fact 50 (f := .exm "InvalidText" "InvalidText" true) rfl)
  have xmInvalidTextInvalidOperation := He.exm_ok (d.fact 51 (f := .exm "InvalidText" "InvalidOperation" false) rfl)
  have xmInvalidOperationInvalidOperation := He.exm_ok (d.fact 52 (f := .exm "InvalidOperation" "InvalidOperation" true) rfl)
  have xmParseErrorParseError := He.exm_ok (d.fact 53 (f := .exm "ParseError" "ParseError" true) rfl)
  have gDEEDS : mg "DEEDS" = some (.ref (He.ga K "DEEDS")) := He.glo_ok X G (d.fact 54 (f := .glo "DEEDS") rfl)
  have gTEXTS_BEHIND : mg "TEXTS_BEHIND" = some (.ref (He.ga K "TEXTS_BEHIND")) := He.glo_ok X G (d.fact 55 (f := .glo "TEXTS_BEHIND") rfl)
  have ms := He.str_ok X G (d.fact 56 (f := .str "SIGNS" allSigns) rfl)
  have mLet := He.str_ok X G (d.fact 57 (f := .str "LETTERS" letters) rfl)
  have mMN := He.int_ok X G (d.fact 58 (f := .int "MAX_NAME" 8) rfl)
  have mMP := He.int_ok X G (d.fact 59 (f := .int "MAX_PATH" 12) rfl)
  have mMD := He.int_ok X G (d.fact 60 (f := .int "MAX_DEEDS" 40) rfl)
  have xfInvalidText : XF K (He.ga K "InvalidText") := xfB_ok oXInvalidText
  have xfInvalidOperation : XF K (He.ga K "InvalidOperation") := xfB_ok oXInvalidOperation
  have xfParseError : XF K (He.ga K "ParseError") := xfB_ok oXParseError
  have xiParseError := xi_ValueError oIParseError
  have tupDEEDS := He.tupB_ok oTDeeds
  have e := hfa.symm.trans gLaw
  cases e
  have b := FunD.bindsA (ps := ["script"]) FLaw fun _ _ _ _ _ _ us hl => match us, hl with | [_], _ => rfl
  have hc : fdLawRefused.code = .ref (He.cT K pTab).1 := by
    obtain ⟨oc, od, dV, kV, doc, pm, an, cdv, ct, osl, rfl, lk, hcd, _, _⟩ := FLawRefused.ex
    obtain ⟨cc, rfl⟩ := He.codeIn_ref hcd
    exact congrArg Value.ref (He.codeOf_eq (p := pTab) lk rfl).symm
  refine ⟨(He.cT K pTab).1, (He.cT K pTab).2, c.tab, c.out, PySem.W.codeHd_of_K X c.hd, fdLaw, fun s v => b s [v] rfl, fun base _ _ TB => ?_⟩
  have iniParseError : FnOk P w K mg base CX0 1 _ fdIParseError ["self", "number"] (spIniX (He.ga K "ParseError") "number") := ok_ini_ParseError FIParseError xiParseError xfParseError

  obtain ⟨esB, nB, DB⟩ := He.dicW_ok c.ws
  have hB : ∀ z, KGot K (He.ga K "TEXTS_BEHIND") z (behindV z) := fun z => by
    unfold behindV
    by_cases h1 : z = "store"
    · rw [if_pos h1, h1]
      obtain ⟨u, a1, a2⟩ := He.valsB_ok oDTextsBehind (q := ("store", .int 0)) (by simp)
      exact .inr ⟨u, a1, a2⟩
    by_cases h2 : z = "put"
    · rw [if_neg h1, if_pos h2, h2]
      obtain ⟨u, a1, a2⟩ := He.valsB_ok oDTextsBehind (q := ("put", .int 1)) (by simp)
      exact .inr ⟨u, a1, a2⟩
    by_cases h3 : z = "move"
    · rw [if_neg h1, if_neg h2, if_pos h3, h3]
      obtain ⟨u, a1, a2⟩ := He.valsB_ok oDTextsBehind (q := ("move", .int 1)) (by simp)
      exact .inr ⟨u, a1, a2⟩
    · rw [if_neg h1, if_neg h2, if_neg h3]
      refine .inl ⟨nsIn_absent c.ws fun m => ?_, rfl⟩
      rcases List.mem_cons.mp m with e | m
      · exact h1 e
      rcases List.mem_cons.mp m with e | m
      · exact h2 e
      · exact h3 (List.mem_singleton.mp m)
  have TT : TxtK K (He.ga K "InvalidText") := ⟨x1InvalidText, x2InvalidText, x3InvalidText, x4InvalidText⟩
  have TO : TxtK K (He.ga K "InvalidOperation") := ⟨x1InvalidOperation, x2InvalidOperation, x3InvalidOperation, x4InvalidOperation⟩
  have text : ∀ k, FnOk P w K mg base CX0 (k + 1) _ fdIsText ["value"] (spD K isTextD) := fun k => ok_text FIsText misinstance mstr ms
  have name' : ∀ k, FnOk P w K mg base CX0 (k + 1) _ fdIsName ["value"] (spD K isNameD) := fun k => ok_isName FIsName mlen misinstance mstr mMN mLet
  have path : ∀ k, FnOk P w K mg base CX0 (k + 2) _ fdIsPath ["value"] (spD K isPathD) := fun k => ok_isPath FIsPath mlen mMP (text k) gIsText FIsText.kp bIsText
  have deed : ∀ k, FnOk P w K mg base CX0 (k + 3) _ fdIsDeed ["value"] (spDeed K) := fun k => ok_isDeed FIsDeed mlen misinstance mtuple mall (name' (k + 1)) gIsName FIsName.kp bIsName (path k) gIsPath FIsPath.kp bIsPath (text (k + 1)) gIsText FIsText.kp bIsText
  have hist : ∀ k, FnOk P w K mg base CX0 (k + 4) _ fdIsHistory ["value"] (spHist K) := fun k => ok_isHist FIsHistory mlen misinstance mtuple mall mMD (deed k) gIsDeed FIsDeed.kp bIsDeed
  have tword : ∀ k, FnOk P w K mg base CX0 (k + 1) _ fdTextWord ["text"] spTextWord := fun k => ok_textWord FTextWord
  have lineof : ∀ k, FnOk P w K mg base CX0 (k + 1) _ fdLineOf ["words"] (spLineOf K) := fun k => ok_lineOf FLineOf
  have wordsof : ∀ k, FnOk P w K mg base CX0 (k + 1) _ fdWordsOf ["line"] spWordsOf := fun k => ok_wordsOf FWordsOf
  have istw : ∀ k, FnOk P w K mg base CX0 (k + 2) _ fdIsTextWord ["word"] spIsTW := fun k => ok_isTW FIsTextWord (text k) gIsText FIsText.kp bIsText
  have drow : ∀ k, FnOk P w K mg base CX0 (k + 3) _ fdDeedRow ["words"] (spDeedRow K) := fun k => ok_deedRow FDeedRow mlen mtuple mall DB gTEXTS_BEHIND hB (istw k) gIsTextWord FIsTextWord.kp bIsTextWord
  have wdeed : ∀ k, FnOk P w K mg base CX0 (k + 2) _ fdWordsOfDeed ["deed"] (spWordsDeed K) := fun k => ok_wordsDeed FWordsOfDeed (tword k) gTextWord FTextWord.kp bTextWord
  have write : ∀ k, FnOk P w K mg base (L2.CX P w) (k + 5) _ fdWriteHistory ["history"] (spWrite K (He.ga K "InvalidOperation")) := fun k => ok_write FWriteHistory TO gInvalidOperation (hist k) gIsHistory FIsHistory.kp bIsHistory (lineof (k + 3)) gLineOf FLineOf.kp bLineOf (wdeed (k + 2)) gWordsOfDeed FWordsOfDeed.kp bWordsOfDeed
  have rows : ∀ k, FnOk P w K mg base (L2.CX P w) (k + 4) _ fdRowsOfLines ["lines", "row_of", "following"] (spRows K _ (He.ga K "InvalidText") (He.ga K "ParseError")) := fun k => ok_rows FRowsOfLines misinstance mstr menumerate TT gInvalidText gParseError xiParseError xfParseError iniParseError bIParseError (drow k) FDeedRow.kp bDeedRow (wordsof (k + 2)) gWordsOf FWordsOf.kp bWordsOf
  have read : ∀ k, FnOk P w K mg base (L2.CX P w) (k + 5) _ fdReadHistory ["lines"] (spReadH K (He.ga K "InvalidText") (He.ga K "ParseError")) := fun k => ok_read FReadHistory mtuple mlen gParseError xiParseError xfParseError iniParseError bIParseError (rows k) gRowsOfLines FRowsOfLines.kp bRowsOfLines gDeedRow gDEEDS tupDEEDS (hist k) gIsHistory FIsHistory.kp bIsHistory
  have roll : ∀ k, FnOk P w K mg base CX0 (k + 1) _ fdLawRoll ["dice", "total"] spRoll := fun k => ok_roll FLawRoll mint
  have one : ∀ k, FnOk P w K mg base CX0 (k + 2) _ fdLawOneOf ["dice", "items"] (spOne K) := fun k => ok_one FLawOneOf (roll k) gLawRoll FLawRoll.kp bLawRoll mlen
  have all' : ∀ k, FnOk P w K mg base CX0 (k + 1) _ fdLawAllSigns [] spAll := fun k => ok_all FLawAllSigns
  have lword : ∀ k, FnOk P w K mg base CX0 (k + 3) _ fdLawWord ["dice", "upto"] spLWord := fun k => ok_lword FLawWord mrange (roll (k + 1)) gLawRoll FLawRoll.kp bLawRoll (one k) gLawOneOf FLawOneOf.kp bLawOneOf (all' (k + 1)) gLawAllSigns FLawAllSigns.kp bLawAllSigns
  have lpath : ∀ k, FnOk P w K mg base CX0 (k + 4) _ fdLawPath ["dice"] spLPath := fun k => ok_lpath FLawPath (one (k + 1)) gLawOneOf FLawOneOf.kp bLawOneOf (lword k) gLawWord FLawWord.kp bLawWord
  have ldeed : ∀ k, FnOk P w K mg base CX0 (k + 5) _ fdLawDeed ["dice"] (spLDeed K) := fun k => ok_ldeed FLawDeed mrange mtuple (roll (k + 3)) gLawRoll FLawRoll.kp bLawRoll (one (k + 2)) gLawOneOf FLawOneOf.kp bLawOneOf (lword (k + 1)) gLawWord FLawWord.kp bLawWord (lpath k) gLawPath FLawPath.kp bLawPath
  have lline : ∀ k, FnOk P w K mg base CX0 (k + 1) _ fdLawLine ["deed"] (spLLine K) := fun k => ok_lline FLawLine mlist
  have ltx : ∀ k, FnOk P w K mg base CX0 (k + 2) _ fdLawTextsIn ["words"] spLTx := fun k => ok_ltx FLawTextsIn (all' k) gLawAllSigns FLawAllSigns.kp bLawAllSigns
  have lread : ∀ k, FnOk P w K mg base CX0 (k + 3) _ fdLawRead ["line"] (spLRead K) := fun k => ok_lread FLawRead mlen mtuple (ltx k) gLawTextsIn FLawTextsIn.kp bLawTextsIn
  have lis : ∀ k, FnOk P w K mg base CX0 (k + 1) _ fdLawIsDeed ["deed"] (spLIs K) := fun k => ok_lis FLawIsDeed mlen
  have bent : ∀ k, FnOk P w K mg base CX0 (k + 3) _ fdLawBent ["dice", "line"] spBent := fun k => ok_bent FLawBent mlen mlist mint (roll (k + 1)) gLawRoll FLawRoll.kp bLawRoll (one k) gLawOneOf FLawOneOf.kp bLawOneOf
  have told : ∀ k, FnOk P w K mg base CX0 (k + 6) _ fdLawTold ["text"] (spTold K) := fun k => ok_told FLawTold xfParseError gParseError xmParseErrorParseError xiParseError.no (read k) gReadHistory FReadHistory.kp bReadHistory
  have due : ∀ k, FnOk P w K mg base CX0 (k + 4) _ fdLawDue ["lines"] (spDue K) := fun k => ok_due FLawDue mlen mtuple (lread k) gLawRead FLawRead.kp bLawRead (lis (k + 2)) gLawIsDeed FLawIsDeed.kp bLawIsDeed
  have right : FnG P w K mg base CX0 9 _ fdLawRight ["dice"] spRight := ok_right (k := 1) FLawRight sb mrepr mtuple mlist mrange (one 6) gLawOneOf FLawOneOf.kp bLawOneOf (roll 7) gLawRoll FLawRoll.kp bLawRoll (ldeed 3) gLawDeed FLawDeed.kp bLawDeed (lline 7) gLawLine FLawLine.kp bLawLine (write 3) gWriteHistory FWriteHistory.kp bWriteHistory (read 3) gReadHistory FReadHistory.kp bReadHistory
    (bent 5) gLawBent FLawBent.kp bLawBent (told 2) gLawTold FLawTold.kp bLawTold (due 4) gLawDue FLawDue.kp bLawDue
  have refused : FnG P w K mg base CX0 9 _ fdLawRefused ["dice"] (spRef (He.cT K pTab).2) := ok_ref (k := 0) FLawRefused hc TB (one 5) gLawOneOf FLawOneOf.kp bLawOneOf FLawWordOf gLawWordOf bLawWordOf gInvalidOperation gInvalidText xmInvalidOperationInvalidOperation xmInvalidTextInvalidOperation xmInvalidTextInvalidText (write 1) gWriteHistory FWriteHistory.kp bWriteHistory (read 1) gReadHistory FReadHistory.kp bReadHistory
  exact ok_law (n := 9) FLaw sb mrange mmax mmin mlen mrepr (ok_dice (k := 8) FLawDice mlen mint mabs mmax) gLawDice FLawDice.kp bLawDice right gLawRight FLawRight.kp bLawRight refused gLawRefused FLawRefused.kp bLawRefused (read 4) gReadHistory FReadHistory.kp bReadHistory (write 4) gWriteHistory FWriteHistory.kp bWriteHistory (told 3) gLawTold FLawTold.kp bLawTold
end K0
end
/-! ### KE -/
set_option Elab.async false
set_option linter.all false
set_option maxRecDepth 100000
set_option maxHeartbeats 0
open PySem PySem.W PySem.Calls PyProof.Rows
theorem PySem.Challenge.cw_cleandress_k76_histories_there_and_back_holds : PySem.Challenge.rw_cleandress_k76_histories_there_and_back.Holds := by
  w_on; o_law
  refine HandSHeadRun.head_any (r := K0.R) (q := view K0.R.prog [52]) (H := K0.hookA) (ob := K0.obA) (M := 20000) (loose := K0.names) (d := HandSHeadRun.topDef K0.R.prog 52) (kwd := []) K0.obA_eq
    (by kernel_rfl) (fun s => by kernel_rfl) K0.runA (by kernel_rfl) (by kernel_rfl) (by kernel_rfl) (by rfl) (by first | assumption | decide +kernel) (by decide +kernel) ⟨rfl, rfl, rfl, rfl, rfl, by decide +kernel⟩ ?hw ?hc
  case hw => w_witness2
  case hc =>
    refine K0.walkGT (l := PySem.Challenge.rw_cleandress_k76_histories_there_and_back) (n := 63) (k := 10) (x := "script") rfl (by decide) (by kernel_rfl) ⟨rfl, by decide, by decide⟩ ?F
    intro w mg f h Y G hmg0
    obtain ⟨K, KX, c⟩ := Y
    have hmg : mg ("law" : PySem.Str) = some (.ref f) := by
      have e : (HandSHeadRun.topDef K0.R.prog 52).name = ("law" : PySem.Str) := by kernel_rfl
      rw [← e]
      exact hmg0
    obtain ⟨cc, T, t1, t2, t3, rest⟩ := K0.facts KX G hmg c
    exact ⟨K, cc, T, KX, t1, t2, t3, rest⟩
