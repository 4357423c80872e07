import PyProof.Rows.All
import Wide.All
import OpenK.AllK
import Wide.FinOn
import KE.KStateDown
import Lean
import HandS.ForMost
import HandS.Exc
import HandS.ExcInit
import HandS.WordsExc
import HandS.Defaults
import HandS.Head0
import HandS.Head1
import HandS.Head2
import HandS.HeadEnd
import HandS.HeadHook1
import HandS.HeadHook2
import HandS.Wide
import HandS.Codes
import KE.KExcIs
import KE.KTryMore
import HandS.HotCalls
import HandS.ExcValue
import HandS.TryMany
import PyProof.SeqIndex
import PyProof.FitsInt
import HandS.Walk
import PyProof.ExcBaseAll.ValueError
import PySem.Challenge.RW_cleandress_k00_errors
/-! ### H0 -/
set_option Elab.async false
set_option linter.all false
set_option maxRecDepth 100000
set_option maxHeartbeats 0
namespace K0
open PySem PySem.Spec PyProof.Rows L2
def top (i : Nat) : Stmt := PySem.Challenge.pw_cleandress_k00_errors.main.body.getD i (.Pass ⟨0, 0, 0, 0⟩)
abbrev dfn (x : Str) (i : Nat) : He.DefD := ⟨(x, none), x, x, defArgs (top i), defBody (top i), defScope (top i), [], []⟩
def ownC : List Str := ["DressError", "InvalidText", "InvalidHole", "InvalidDress", "InvalidCleaner", "InvalidRoad", "InvalidStanding", "InvalidLines", "InvalidOperation"]
def ownI : List Str := ["ParseError", "InvalidNumber", "UnknownName", "InvalidFilling", "NothingToUndo", "Refused", "TooMany"]
def lawN : List Str := ["_law_dice", "_law_roll", "_law_one_of", "_law_all_signs", "_law_word", "_law_odd", "_law_made", "_law_kinds", "_law_bases", "_law_raise", "_law_caught", "_law_by_base", "_law_right"]
def fn : List He.DefD := [dfn "_law_dice" 18, dfn "_law_roll" 19, dfn "_law_one_of" 20, dfn "_law_all_signs" 21, dfn "_law_word" 22, dfn "_law_odd" 23, dfn "_law_made" 24, dfn "_law_kinds" 25,
  dfn "_law_bases" 26, dfn "_law_raise" 27, dfn "_law_caught" 28, dfn "_law_by_base" 29, dfn "_law_right" 30, dfn "law" 31]
def fa : List He.Fa := ((lawN ++ (["law"] : List Str)) ++ (ownC ++ ownI)).map He.Fa.glo ++ (["abs", "int", "max", "min", "len", "range", "isinstance", "repr", "enumerate", "ValueError", "KeyError", "IndexError", "LookupError", "ArithmeticError", "OverflowError", "RuntimeError"] : List Str).map He.Fa.free
abbrev R : PySem.W.OpenRow := PySem.W.OpenLaw.row PySem.Challenge.rw_cleandress_k00_errors
def names : List Str := (ownC ++ ownI) ++ lawN
end K0

/-! ### D0 -/
set_option Elab.async false
set_option linter.all false
set_option maxRecDepth 100000
set_option maxHeartbeats 4000000
namespace K0
open PySem PySem.Spec PyProof.Rows L2
abbrev FnP (K : PySem.W.Frag) (x : Str) (i : Nat) (f : Addr) (fd : FuncData) : Prop := FunD K x x (defArgs (top i)) (defBody (top i)) (defScope (top i)) [] [] f fd
/-- a power whose base has few bits -/
def PowBits (i j : Int) : Prop := 0 ≤ j ∧ (Builtin.Int.intBits i : Int) * j ≤ 2 ^ 27
theorem op_powBits {X : Cx} : OpR X (binaryOp .Pow) (rI PowBits fun i j => .int (i ^ j.toNat)) := opI fun _ _ _ _ _ _ _ hc q => pow_int hc.1 hc.2 q
/-- three ints in a list: the dice -/
abbrev dk (a b c : Int) : HO := .lst [.int a, .int b, .int c]
theorem scDice : FnScope ["script", "at", "cell", "great", "mixed"] ["script", "at"] (defScope (top 18)) := ⟨rfl, rfl, rfl, by decide +kernel, rfl, by decide +kernel, by decide +kernel⟩
def spDice (K : PySem.W.Frag) : Sp := fun vs H Q _ => ∃ (p : Addr) (ns : List Int) (j : Nat), vs = [.ref p, .int j] ∧ SqL K H p (ns.map V.int) ∧ ∀ d a b c, H d = none → Q (.ref d) (upd H d (dk a b c))
section
variable {P : Program} {w : World} {K : PySem.W.Frag} {mg : Str → Option Value} {base : Heap} {f fR fO : Addr} {fd fdR fdO : FuncData}
theorem ok_dice {k : Nat} (F : FnP K "_law_dice" 18 f fd) (mlen : mg "len" = none) (mint : mg "int" = none) (mabs : mg "abs" = none) (mmax : mg "max" = none) : FnOk P w K mg base CX0 (k + 1) f fd ["script", "at"] (spDice K) := by
  refine F.ok scDice (fun vs H Q E h => ?_) (fun cdv A outer s H vs Q E hr h => ?_)
  · obtain ⟨p, ns, j, rfl, _⟩ := h
    rfl
  · obtain ⟨p, ns, j, rfl, hS, q⟩ := h
    refine ⟨_, PSs.nox (pss_cons (ps_set (i := 2) scDice.nd rfl (.inl rfl) (pe_op op_add (pe_op op_mul pe_int (pv 1)) pe_int))
      (C8.pss_cut (ps_if (pt_cmpR op_lt (pv 1) (pe_callB call_len_seq (by rfl) mlen PySem.boot_len (pa_cons (pv 0) pa_nil)) (nomark _))
        (pss_one (ps_set (i := 2) scDice.nd rfl (.inl rfl) (pe_ix ix_list (pv 0) (pv 1) (fun _ _ => rfl)))) pss_nil)
      (pss_cons (ps_set (i := 3) scDice.nd rfl (.inl rfl) (pe_op op_mod (pe_callTy call_int1 (by rfl) mint boot_int (pa_cons (pe_callB call_abs (by rfl) mabs boot_abs (pa_cons (pv 2) pa_nil)) pa_nil))
        (pe_op op_powBits (pe_op op_powBits pe_int pe_int) pe_int)))
      (pss_cons (ps_set (i := 4) scDice.nd rfl (.inl rfl) (pe_op op_add (pe_op op_add (pe_op op_add (pe_op op_mul (pe_op op_mod (pe_callTy call_int1 (by rfl) mint boot_int (pa_cons (pv 3) pa_nil)) pe_int) pe_int) (pe_op op_mul pe_int (pv 1)))
        (pe_op op_mul pe_int (pe_callTy call_int1 (by rfl) mint boot_int (pa_cons (pe_cmpR op_lt (pv 2) pe_int (nomark _)) pa_nil)))) pe_int))
      (pss_one (ps_ret (pe_lst (pa_cons (pe_callB (call_max2 rfl) (by rfl) mmax boot_max (pa_cons pe_int (pa_cons (pe_op op_sub (pv 3) (pe_op op_powBits pe_int pe_int)) pa_nil)))
        (pa_cons (pe_op op_mod (pe_callTy call_int1 (by rfl) mint boot_int (pa_cons (pv 4) pa_nil)) pe_int) (pa_cons pe_int pa_nil)))))))))), ?_⟩
    refine ⟨_, rfl, _, _, rfl, rfl, .inl ⟨by decide, by decide⟩, _, _, rfl, rfl, ?_⟩
    refine ⟨fun σ' H' => ∃ cell : Int, σ' = [some (.ref p), some (.int j), some (.int cell), none, none] ∧ H' = H, ⟨_, rfl, _, rfl, p, _, rfl, .inl hS, _, _, rfl, rfl, _, rfl, ite2 (fun e => ?_) (fun e => ⟨_, rfl, rfl⟩)⟩, fun σ' H' hM => ?_⟩
    · have hj : j < ns.length := by
        have e2 : (j : Int) < ((ns.map V.int).length : Int) := of_decide_eq_true e
        rw [List.length_map] at e2
        omega
      have hg : (ns.map V.int)[j]? = some (.int ns[j]) := by
        rw [List.getElem?_map, List.getElem?_eq_getElem hj]
        rfl
      exact ⟨_, rfl, _, rfl, p, _, _, _, rfl, rfl, hS, atI_nat hg, _, rfl, rfl⟩
    · obtain ⟨cell, rfl, rfl⟩ := hM
      refine ⟨_, rfl, _, rfl, .inl ⟨_, rfl, _, _, rfl, rfl, ⟨by decide, by decide +kernel⟩, _, _, rfl, rfl, ⟨by decide, by decide +kernel⟩, _, _, rfl, rfl, (by show (0 : Int) < (10 ^ Int.toNat 60) ^ Int.toNat 12; decide +kernel), ?_⟩⟩
      refine ⟨_, rfl, .inl ⟨_, rfl, _, _, rfl, rfl, (by show (0 : Int) < 2147483399; decide), _, _, rfl, rfl, .inr ⟨by decide, by decide⟩, _, rfl, _, _, rfl, rfl, .inl ⟨by decide, by decide⟩, _, _, rfl, rfl, ?_⟩⟩
      refine ⟨_, rfl, _, _, rfl, rfl, .inr ⟨_, rfl, _, _, rfl, rfl, .inl ⟨by decide, by decide⟩, _, _, rfl, rfl, _, _, rfl, rfl, ?_⟩⟩
      refine ⟨_, rfl, _, _, rfl, rfl, ⟨by decide, by decide +kernel⟩, _, _, rfl, rfl, _, _, rfl, ?_⟩
      refine ⟨_, rfl, .inl ⟨_, rfl, _, _, rfl, rfl, (by show (0 : Int) < 2305843009213693907; decide), (by show 3 ≤ sizeLine; decide), fun d hd => ?_⟩⟩
      exact q d _ _ _ hd
end
end K0

/-! ### D1 -/
set_option Elab.async false
set_option linter.all false
set_option maxRecDepth 100000
set_option maxHeartbeats 4000000
namespace K0
open PySem PySem.Spec PyProof.Rows L2
theorem scRoll : FnScope ["dice", "total", "found", "one", "two"] ["dice", "total"] (defScope (top 19)) := ⟨rfl, rfl, rfl, by decide +kernel, rfl, by decide +kernel, by decide +kernel⟩
def spRoll : Sp := fun vs H Q _ => ∃ (p : Addr) (a b c t : Int), vs = [.ref p, .int t] ∧ H p = some (dk a b c) ∧ CDivW a t ∧ ∀ a' b' c' r, 0 ≤ r → r < t → Q (.int r) (upd H p (dk a' b' c'))
theorem mod_small {x m : Int} (h : 0 < m) (h2 : m ≤ 2 ^ 62) : -(2 ^ 64) < x % m ∧ x % m < 2 ^ 64 := by
  have h0 := Int.emod_nonneg x (show m ≠ 0 by omega)
  have h1 := Int.emod_lt_of_pos x h
  omega
theorem scOne : FnScope ["dice", "items"] ["dice", "items"] (defScope (top 20)) := ⟨rfl, rfl, rfl, by decide +kernel, rfl, by decide +kernel, by decide +kernel⟩
/-- the items are a list or a tuple xs, or the signs of a text -/
def Its (K : PySem.W.Frag) (H : Hp) (v : V) (xs : List V) : Prop := (∃ q, v = .ref q ∧ (SqL K H q xs ∨ SqT K H q xs)) ∨ ∃ z : Str, v = .str z ∧ z.length ≤ sizeLine ∧ xs = z.cps.toList.map fun c => V.str ⟨#[c]⟩
theorem len_div {a : Int} {n : Nat} (h : 0 < n) (hz : n ≤ sizeLine) : CDivW a (n : Int) := by
  have e := sizeLine_eq
  refine wide_div (b := 25) (by omega) ?_ (by decide) (by decide)
  have e2 : (2 : Nat) ^ 25 = 33554432 := by decide
  have e3 : (sizeLine : Nat) = 16777216 := e
  omega
theorem its_len {K : PySem.W.Frag} {H : Hp} {v : V} {xs : List V} (h : Its K H v xs) : LenV K v H xs.length := by
  rcases h with ⟨a, rfl, h | h⟩ | ⟨z, rfl, hz, rfl⟩
  · exact .inl ⟨xs, h, rfl⟩
  · exact .inr ⟨xs, h, rfl⟩
  · refine ⟨hz, ?_⟩
    rw [List.length_map]
    first | rfl | simp [Str.length]
theorem its_at {K : PySem.W.Frag} {H : Hp} {v x : V} {xs : List V} {i : Nat} {Q : VK} (h : Its K H v xs) (e : xs[i]? = some x) (q : Q x H) : rIx K v (.int (i : Int)) H Q := by
  rcases h with ⟨a, rfl, h | h⟩ | ⟨z, rfl, hz, rfl⟩
  · exact .inl ⟨a, xs, _, x, rfl, rfl, h, atI_nat e, q⟩
  · exact .inr (.inl ⟨a, xs, _, x, rfl, rfl, h, atI_nat e, q⟩)
  · rw [List.getElem?_map] at e
    cases hc : z.cps.toList[i]? with
    | none => rw [hc] at e; cases e
    | some c =>
      rw [hc] at e
      cases e
      exact .inr (.inr ⟨z, _, c, rfl, rfl, hz, atI_nat hc, q⟩)
section
variable {P : Program} {w : World} {K : PySem.W.Frag} {mg : Str → Option Value} {base : Heap} {f fR fO : Addr} {fd fdR fdO : FuncData}
theorem ok_roll {k : Nat} (F : FnP K "_law_roll" 19 f fd) (mint : mg "int" = none) : FnOk P w K mg base CX0 (k + 1) f fd ["dice", "total"] spRoll := by
  refine F.ok scRoll (fun vs H Q E h => ?_) (fun cdv A outer s H vs Q E hr h => ?_)
  · obtain ⟨p, a, b, c, t, rfl, _⟩ := h
    rfl
  · obtain ⟨p, a, b, c, t, rfl, hp, ht, q⟩ := h
    have t0 : 0 < t := ht.1
    refine ⟨_, PSs.nox (pss_cons (ps_if (pt_cmpR op_gt (pe_ix ix_list (pv 0) pe_int (fun _ _ => rfl)) pe_int (nomark _))
        (pss_cons (ps_set (i := 2) scRoll.nd rfl (.inl rfl) (pe_op op_mod (pe_callTy call_int1 (by rfl) mint boot_int (pa_cons (pe_ix ix_list (pv 0) pe_int (fun _ _ => rfl)) pa_nil)) (pv 1)))
        (pss_cons (ps_asg (pe_op op_fdivW (pe_ix ix_list (pv 0) pe_int (fun _ _ => rfl)) (pv 1)) (pg_sub (pv 0) pe_int set_list)) (pss_one (ps_ret (pv 2))))) pss_nil)
      (pss_cons (ps_asg (pe_op op_add (pe_ix ix_list (pv 0) pe_int (fun _ _ => rfl)) pe_int) (pg_sub (pv 0) pe_int set_list))
      (pss_cons (ps_set (i := 3) scRoll.nd rfl (.inl rfl) (pe_op op_mod (pe_callTy call_int1 (by rfl) mint boot_int (pa_cons (pe_op op_add (pe_ix ix_list (pv 0) pe_int (fun _ _ => rfl)) (pe_op op_mul pe_int (pe_ix ix_list (pv 0) pe_int (fun _ _ => rfl)))) pa_nil)) pe_int))
      (pss_cons (ps_set (i := 4) scRoll.nd rfl (.inl rfl) (pe_op op_add (pe_op op_mul (pe_op op_mod (pe_callTy call_int1 (by rfl) mint boot_int (pa_cons (pe_op op_mul (pv 3) (pv 3)) pa_nil)) pe_int) (pv 3)) (pe_op op_mul pe_int (pe_ix ix_list (pv 0) pe_int (fun _ _ => rfl)))))
      (pss_cons (ps_set (i := 4) scRoll.nd rfl (.inl rfl) (pe_op op_mod (pe_callTy call_int1 (by rfl) mint boot_int (pa_cons (pv 4) pa_nil)) pe_int))
      (pss_one (ps_ret (pe_op op_mod (pe_callTy call_int1 (by rfl) mint boot_int (pa_cons (pe_op op_fdiv (pv 4) pe_int) pa_nil)) (pv 1))))))))), ?_⟩
    have hS : ∀ x y z : Int, SqL K (upd H p (dk x y z)) p [.int x, .int y, .int z] := fun x y z => .of upd_same
    refine ⟨_, rfl, p, _, _, _, rfl, rfl, .of hp, atI_nat (j := 0) rfl, _, _, rfl, rfl, _, rfl, ite2 (fun e => ?_) (fun e => ?_)⟩
    · refine ⟨_, rfl, p, _, _, _, rfl, rfl, .of hp, atI_nat (j := 0) rfl, .inl ⟨_, rfl, _, rfl, _, _, rfl, rfl, t0, ?_⟩⟩
      refine ⟨_, rfl, p, _, _, _, rfl, rfl, .of hp, atI_nat (j := 0) rfl, _, rfl, _, _, rfl, rfl, ht, ?_⟩
      refine ⟨_, rfl, p, _, _, 0, rfl, rfl, hp, rfl, ?_⟩
      exact ⟨_, rfl, q _ _ _ _ (Int.emod_nonneg _ (by omega)) (Int.emod_lt_of_pos _ t0)⟩
    · refine ⟨_, rfl, p, _, _, _, rfl, rfl, .of hp, atI_nat (j := 2) rfl, _, _, rfl, rfl, ?_⟩
      refine ⟨_, rfl, p, _, _, 2, rfl, rfl, hp, rfl, ?_⟩
      refine ⟨_, rfl, p, _, _, _, rfl, rfl, hS a b _, atI_nat (j := 1) rfl, _, rfl, p, _, _, _, rfl, rfl, hS a b _, atI_nat (j := 2) rfl, _, _, rfl, rfl, .inl ⟨by decide, by decide⟩, _, _, rfl, rfl, .inl ⟨_, rfl, _, _, rfl, rfl, (by show (0 : Int) < 2305843009213693951; decide), ?_⟩⟩
      refine ⟨_, rfl, _, rfl, _, _, rfl, rfl, .inl (mod_small (by decide) (by decide)), .inl ⟨_, rfl, _, _, rfl, rfl, (by show (0 : Int) < 2305843009213693921; decide), ?_⟩⟩
      refine ⟨_, rfl, _, _, rfl, rfl, .inl (mod_small (by decide) (by decide)), _, rfl, p, _, _, _, rfl, rfl, hS a b _, atI_nat (j := 2) rfl, _, _, rfl, rfl, .inl ⟨by decide, by decide⟩, _, _, rfl, rfl, ?_⟩
      refine ⟨_, rfl, .inl ⟨_, rfl, _, _, rfl, rfl, (by show (0 : Int) < 2305843009213693907; decide), ?_⟩⟩
      refine ⟨_, rfl, _, _, rfl, rfl, ⟨by decide, by decide⟩, .inl ⟨_, rfl, _, rfl, _, _, rfl, rfl, t0, ?_⟩⟩
      exact q _ _ _ _ (Int.emod_nonneg _ (by omega)) (Int.emod_lt_of_pos _ t0)
def spOne (K : PySem.W.Frag) : Sp := fun vs H Q _ => ∃ (p : Addr) (a b c : Int) (v : V) (xs : List V), vs = [.ref p, v] ∧ H p = some (dk a b c) ∧ Its K H v xs ∧ xs ≠ [] ∧ xs.length ≤ sizeLine ∧ (∀ a' b' c', Its K (upd H p (dk a' b' c')) v xs) ∧
  ∀ a' b' c' (i : Nat) x, xs[i]? = some x → Q x (upd H p (dk a' b' c'))
theorem ok_one {k : Nat} (F : FnP K "_law_one_of" 20 f fd) (FR : FnOk P w K mg base CX0 (k + 1) fR fdR ["dice", "total"] spRoll) (gR : mg "_law_roll" = some (.ref fR)) (kR : PySem.W.keepIn K (.ref fR) = true) (bR : Binds K fdR ["dice", "total"] []) (mlen : mg "len" = none) :
    FnOk P w K mg base CX0 (k + 2) f fd ["dice", "items"] (spOne K) := by
  refine F.ok scOne (fun vs H Q E h => ?_) (fun cdv A outer s H vs Q E hr h => ?_)
  · obtain ⟨p, a, b, c, v, xs, rfl, _⟩ := h
    rfl
  · obtain ⟨p, a, b, c, v, xs, rfl, hp, hI, hx, hz, hI2, q⟩ := h
    refine ⟨_, PSs.nox (pss_one (ps_ret (pe_ix ix_seq (pv 1) (pe_call FR hr (by rfl) gR kR bR .nil pass0 (pa_cons (pv 0) (pa_cons (pe_callB call_len (by rfl) mlen PySem.boot_len (pa_cons (pv 1) pa_nil)) pa_nil))) (fun _ _ => rfl)))), ?_⟩
    have hl0 : 0 < xs.length := List.length_pos_iff.mpr hx
    refine ⟨_, rfl, _, rfl, _, rfl, _, xs.length, rfl, its_len hI, ?_⟩
    refine ⟨p, a, b, c, _, rfl, hp, len_div hl0 hz, fun a' b' c' r h0 h1 => ?_⟩
    have hr2 : r.toNat < xs.length := by omega
    have er : r = (r.toNat : Int) := by omega
    have hg : xs[r.toNat]? = some xs[r.toNat] := List.getElem?_eq_getElem hr2
    have q2 := q a' b' c' r.toNat _ hg
    rw [er]
    exact its_at (hI2 a' b' c') hg q2
end
end K0

/-! ### D2 -/
set_option Elab.async false
set_option linter.all false
set_option maxRecDepth 100000
set_option maxHeartbeats 4000000
namespace K0
open PySem PySem.Spec PyProof.Rows L2
/-- all but the dice at p is as it was; the dice are dice -/
def Keep (p : Addr) (H H' : Hp) : Prop := (∀ b o, b ≠ p → H b = some o → H' b = some o) ∧ ∃ a b c, H' p = some (dk a b c)
theorem Keep.refl {p : Addr} {H : Hp} {a b c : Int} (h : H p = some (dk a b c)) : Keep p H H := ⟨fun _ _ _ e => e, a, b, c, h⟩
theorem Keep.trans {p : Addr} {H H1 H2 : Hp} (h : Keep p H H1) (k : Keep p H1 H2) : Keep p H H2 := ⟨fun b o n e => k.1 b o n (h.1 b o n e), k.2⟩
theorem Keep.new {p q : Addr} {H : Hp} {o : HO} {a b c : Int} (h : H p = some (dk a b c)) (n : H q = none) : Keep p H (upd H q o) :=
  ⟨fun b u hb e => by rw [upd_ne (ne_of_none e n)]; exact e, a, b, c, by rw [upd_ne (ne_of_none h n)]; exact h⟩
theorem Keep.new2 {p q : Addr} {H H' : Hp} {o : HO} (h : Keep p H H') (n : H' q = none) : Keep p H (upd H' q o) := by
  obtain ⟨a, b, c, e⟩ := h.2
  exact h.trans (.new e n)
theorem Keep.dice {p : Addr} {H : Hp} (a b c : Int) : Keep p H (upd H p (dk a b c)) := ⟨fun d o n e => by rw [upd_ne n]; exact e, a, b, c, upd_same⟩
theorem scAll : FnScope [] [] (defScope (top 21)) := ⟨rfl, rfl, rfl, by decide +kernel, rfl, by decide +kernel, by decide +kernel⟩
def allSigns : Str := "#$0123:_abcdefg"
def spAll : Sp := fun vs H Q _ => vs = [] ∧ Q (.str allSigns) H
theorem scWord : FnScope ["dice", "signs", "upto", "size", "turn"] ["dice", "signs", "upto"] (defScope (top 22)) := ⟨rfl, rfl, rfl, by decide +kernel, rfl, by decide +kernel, by decide +kernel⟩
def spWord : Sp := fun vs H Q _ => ∃ (p : Addr) (a b c up : Int) (sg : Str), vs = [.ref p, .str sg, .int up] ∧ H p = some (dk a b c) ∧ sg.length ≤ sizeLine ∧ sg.cps.toList ≠ [] ∧ -100 ≤ up ∧ up ≤ 100 ∧
  ∀ H' z, Keep p H H' → Q (.str z) H'
theorem mapV_str (sg : Str) : sg.cps.toList.map (fun c => V.str ⟨#[c]⟩) = (sg.cps.toList.map fun c => (⟨#[c]⟩ : Str)).map V.str := by rw [List.map_map]; rfl
section
variable {P : Program} {w : World} {K : PySem.W.Frag} {mg : Str → Option Value} {base : Heap} {f fR fO : Addr} {fd fdR fdO : FuncData}
theorem ok_all {k : Nat} (F : FnP K "_law_all_signs" 21 f fd) : FnOk P w K mg base CX0 (k + 1) f fd [] spAll := by
  refine F.ok scAll (fun vs H Q E h => ?_) (fun cdv A outer s H vs Q E hr h => ?_)
  · rw [h.1]; rfl
  · obtain ⟨rfl, q⟩ := h
    exact ⟨_, PSs.nox (pss_one (ps_ret pe_str)), q⟩
theorem ok_word {k : Nat} (F : FnP K "_law_word" 22 f fd) (FO : FnOk P w K mg base CX0 (k + 2) fO fdO ["dice", "items"] (spOne K)) (gO : mg "_law_one_of" = some (.ref fO)) (kO : PySem.W.keepIn K (.ref fO) = true) (bO : Binds K fdO ["dice", "items"] [])
    (mmin : mg "min" = none) (mrange : mg "range" = none) : FnOk P w K mg base CX0 (k + 3) f fd ["dice", "signs", "upto"] spWord := by
  refine F.ok scWord (fun vs H Q E h => ?_) (fun cdv A outer s H vs Q E hr h => ?_)
  · obtain ⟨p, a, b, c, up, sg, rfl, _⟩ := h
    rfl
  · obtain ⟨p, a, b, c, up, sg, rfl, hp, hz, hs, u0, u1, q⟩ := h
    refine ⟨_, PSs.nox (pss_cons (ps_set (i := 3) scWord.nd rfl (.inl rfl) (pe_callB (call_min2 rfl) (by rfl) mmin boot_min (pa_cons (pv 2) (pa_cons
        (pe_call FO hr (by rfl) gO kO bO .nil pass0 (pa_cons (pv 0) (pa_cons (pe_lst (pa_cons pe_int (pa_cons pe_int (pa_cons pe_int (pa_cons pe_int (pa_cons pe_int (pa_cons pe_int (pa_cons pe_int (pa_cons pe_int (pa_cons pe_int pa_nil)))))))))) pa_nil))) pa_nil))))
      (pss_one (ps_ret (pe_join pe_str (pe_lc (own := [("turn", 4)]) (g := gName 4) (tt := tYes) rfl scWord.nd (pi_range1 (by rfl) mrange (pa_cons (pv 3) pa_nil)) (blkOk_by (N := ["dice", "signs", "upto", "size", "turn"]) (sc := defScope (top 22)) (by decide +kernel))
        (fun _ _ _ _ _ => pg_name (i := 4) scWord.nd rfl (Or.inl rfl)) (fun _ _ _ _ _ => pts_nil) (fun _ _ _ _ _ => pe_call FO hr (by rfl) gO kO bO .nil pass0 (pa_cons (pv 0) (pa_cons (pv 1) pa_nil)))))))), ?_⟩
    refine ⟨_, rfl, _, rfl, by show 9 ≤ sizeLine; decide, fun l hl => ?_⟩
    have npl : p ≠ l := ne_of_none hp hl
    refine ⟨p, a, b, c, _, _, rfl, by rw [upd_ne npl]; exact hp, .inl ⟨l, rfl, .inl (.of upd_same)⟩, List.cons_ne_nil _ _, by show 9 ≤ sizeLine; decide, fun a' b' c' => .inl ⟨l, rfl, .inl (.of (by rw [upd_ne npl.symm, upd_same]))⟩, fun a1 b1 c1 i x hx => ?_⟩
    have hv : ∃ n : Int, x = .int n ∧ 0 ≤ n ∧ n ≤ 6 := by
      have hm := List.mem_of_getElem? hx
      simp only [List.mem_cons, List.not_mem_nil, or_false] at hm
      rcases hm with rfl | rfl | rfl | rfl | rfl | rfl | rfl | rfl | rfl <;> exact ⟨_, rfl, by decide, by decide⟩
    obtain ⟨n, rfl, n0, n6⟩ := hv
    have k1 : Keep p H (upd (upd H l (.lst [.int 0, .int 1, .int 1, .int 1, .int 2, .int 2, .int 3, .int 4, .int 6])) p (dk a1 b1 c1)) := (Keep.new hp hl).trans (.dice a1 b1 c1)
    refine ⟨_, _, rfl, ?_⟩
    generalize hsz : (if n < up then n else up) = sz
    have hsz2 : -100 ≤ sz ∧ sz ≤ 6 := by
      rw [← hsz]
      split <;> omega
    refine ⟨⟨_, rfl⟩, _, rfl, sz, rfl, by omega, by omega, fun D hD => ?_⟩
    refine lc_range (lo := 0) (n := sz.toNat) (fun i H' => Keep p H H' ∧ ∃ ws : List Str, ws.length = i ∧ (ws.map (·.length)).sum = i ∧ H' D = some (.lst (ws.map V.str))) ⟨k1.new2 hD, [], rfl, rfl, upd_same⟩ (fun i H' hi hP => ?_) (fun H' hP => ?_)
    · obtain ⟨kk, ws, hw, hsum, hDD⟩ := hP
      obtain ⟨a2, b2, c2, hp2⟩ := kk.2
      refine ⟨rfl, _, rfl, _, rfl, p, a2, b2, c2, _, _, rfl, hp2, .inr ⟨sg, rfl, hz, rfl⟩, by simpa using hs, by rw [List.length_map]; exact hz, fun _ _ _ => .inr ⟨sg, rfl, hz, rfl⟩, fun a3 b3 c3 j x hx => ?_⟩
      rw [List.getElem?_map] at hx
      cases hc : sg.cps.toList[j]? with
      | none => rw [hc] at hx; cases hx
      | some cc =>
        rw [hc] at hx
        cases hx
        have nDp : D ≠ p := fun e => by
          rw [e, hp2] at hDD
          have z : HO.lst _ = HO.lst _ := Option.some.inj hDD
          injection z with z
          have z2 := congrArg (·.map fun v => match v with | V.int _ => true | _ => false) z
          cases ws <;> simp at z2
        refine ⟨ws.map V.str, by rw [upd_ne nDp]; exact hDD, ?_, ?_⟩
        · rw [List.length_map, hw]
          exact small1000 (by omega)
        · refine ⟨?_, ws ++ [⟨#[cc]⟩], by rw [List.length_append, hw]; rfl, by rw [List.map_append, List.sum_append, hsum]; rfl, by rw [upd_same, List.map_append]; rfl⟩
          exact ⟨fun b o hb e => by rw [upd_ne (ne_of_none (k1.1 b o hb e) hD), upd_ne hb]; exact kk.1 b o hb e, a3, b3, c3, by rw [upd_ne nDp.symm, upd_same]⟩
    · obtain ⟨kk, ws, hw, hsum, hDD⟩ := hP
      exact ⟨_, D, ws, rfl, rfl, .inl (.of hDD), by rw [hsum]; show _ + ws.length * 0 ≤ _; omega, q H' _ kk⟩
end
end K0

/-! ### G0 -/
set_option Elab.async false
set_option linter.all false
set_option maxRecDepth 100000
set_option maxHeartbeats 4000000
/-! Defs whose promise is kept where nothing is being shown (no repr runs around them): FnG, its rule, its calls, the law's entry. -/
namespace K0
open PySem PySem.Spec PyProof.Rows L2
structure FnG (P : Program) (w : World) (K : PySem.W.Frag) (mg : Str → Option Value) (base : Heap) (CX : CXT) (k : Nat) (f : Addr) (fd : FuncData) (ps : List Str) (sp : Sp) : Prop where
  many : ∀ vs H Q E, sp vs H Q E → vs.length = ps.length
  go : ∀ (A : Around) (outer : List Env) (s : Shared) (H : Hp) (args : Args) (us : List Value) (vs : List V) (Q : VK) (E : XK), A.guards = some [] → Room k A → Env0 P w K mg base A outer s H → BindsTo s fd args (ps.zip us) → Vals vs us → sp vs H Q E → codeAny (model P w) A (.call (.ref f) args) (CR CX outer P w H s Q E) s
section
variable {P : Program} {w : World} {K : PySem.W.Frag} {mg : Str → Option Value} {base : Heap} {CX : CXT} {k : Nat} {f : Addr} {fd : FuncData}
theorem fnG_of {x qual : Str} {params : Arguments} {body : List Stmt} {scope : Scope} {dvs : List V} {kws : List (Str × V)} {N ps : List Str} {sp : Sp} (F : FunD K x qual params body scope dvs kws f fd) (S : FnScope N ps scope) (many : ∀ vs H Q E, sp vs H Q E → vs.length = ps.length)
    (hb : ∀ (cdv : Value) (A : Around) (outer : List Env) (s : Shared) (H : Hp) (vs : List V) (Q : VK) (E : XK), (A.deeper (envOfC qual scope s.heap.objs.size f cdv)).guards = some [] → Room k (A.deeper (envOfC qual scope s.heap.objs.size f cdv)) → sp vs H Q E →
      ∃ t, PSs (cxOf CX P w K mg base N qual scope f cdv A outer s H E) body t ∧ t { nx := fun _ H' => Q .non H', rt := Q } (L2.start N vs) H) : FnG P w K mg base CX (k + 1) f fd ps sp := by
  obtain ⟨oc, od, dV, kV, doc, pm, an, cdv, ct, osl, rfl, lk, code, _, _⟩ := F.ex
  refine ⟨many, fun A outer s H args us vs Q E gd room e0 bd rel prom => ?_⟩
  have size := many _ _ _ _ prom
  have KX : K.In s.heap := e0.mod.kin.keeps fun b o z => (e0.bs b o z).1
  have lim : s.heap.NoLimit := e0.mod.nolimit.keeps fun b o z => (e0.bs b o z).1
  have kinds : ∀ y ∈ ps.zip us, scope.names.lookup y.1 = some .local ∨ (scope.names.lookup y.1 = some .cell ∧ ((cellsFrom (s.heap.objs.size + 1) scope.names []).lookup y.1).isSome = true) := fun ⟨n, v⟩ hy => (S.par n (List.of_mem_zip hy).1).elim .inl fun z => .inr ⟨z, PySem.W.cellsFrom_some _ _ _ (.inl z)⟩
  refine codeAny_call_function room.depth (KX _ _ lk) rfl S.co S.gen rfl (PySem.W.codeRec_of KX code) (bd _ _ _ _ (wpAny_newFunctionEnv_cells S.kind kinds fun env he s1 y => ?_))
  subst he
  obtain ⟨t, pf, rd⟩ := hb cdv A outer s H vs Q E gd (room.deeper _) prom
  refine ⟨lim.keeps y.toInCall.keep, codeAny_func (wpAny_mono (pf.run [] s1 _ H _ (inv_start S room.hd e0 size rel y) rd) (fun fl s' z => ?_) fun e s' z => z)⟩
  cases fl with
  | ret u => obtain ⟨v, σ', H', J, rv, q⟩ := z; exact ⟨v, H', J.os, J.bare, J.base, J.hok, rv, q⟩
  | next => obtain ⟨σ', H', J, q⟩ := z; exact ⟨V.non, H', J.os, J.bare, J.base, J.hok, rfl, q⟩
  | brk => exact z.elim fun _ z => z.elim fun _ z => z.2.elim
  | cont => exact z.elim fun _ z => z.elim fun _ z => z.2.elim
theorem lawG {a : Addr} {mb : Str → Option Value} {x : Str} {sp : Sp} {s₁ : Shared} {vs : List Value} {ns : List Int} (KX : K.In s₁.heap) (hns : s₁.heap.Ns mainGlobals mg) (hmb : s₁.heap.Ns builtinsNs mb) (hbb : ∀ x : Str, x ≠ "__name__" → mb x = bootBuiltins x) (lim : s₁.heap.NoLimit) (gens : s₁.gens = #[])
    (obj : s₁.heap.get? a = some { cls := .type "list", data := .seq vs.toArray }) (its : IntsAre vs ns) (most : ns.length ≤ sizeLine) (room : Room k callerA) (F : ∀ base : Heap, K.In base → base.Ns mainGlobals mg → FnG P w K mg base CX k f fd [x] sp)
    (bind : ∀ (s : Shared) (u : Value), BindsTo s fd ⟨[u], []⟩ [(x, u)]) (prom : ∀ H : Hp, Only H → SqL K H a (ns.map V.int) → sp [.ref a] H (fun v _ => v = .bl true) fun _ _ _ => False) (none_out : ∀ H e s', CX [] H s₁ (fun _ _ _ => False) e s' → False) :
    codeAny (model P w) callerA (.call (.ref f) ⟨[.ref a], []⟩) (fun r s' => r = .ok (.ret (.bool true)) ∧ OldK s₁.heap s'.heap ∧ s'.os = s₁.os ∧ AllBare s'.gens) s₁ := by
  have rel := vals_ints its
  have size := its.length
  have main : ∀ H : Hp, Only H → SqL K H a (ns.map V.int) → HOk P w H s₁.heap → (∀ b, H b ≠ none → b = a) → (H a ≠ none → K.lookup a = none) → codeAny (model P w) callerA (.call (.ref f) ⟨[.ref a], []⟩) (fun r s' => r = .ok (.ret (.bool true)) ∧ OldK s₁.heap s'.heap ∧ s'.os = s₁.os ∧ AllBare s'.gens) s₁ := by
    intro H only seq hok just apart
    have at_a : ∀ {b : Addr}, H b ≠ none → b = a := fun {b} z => just b z
    have noDict : ∀ {b : Addr} {o : Obj} {es : Array DictEntry} {ep : Nat}, s₁.heap.get? b = some o → o.data = .dict es ep → H b = none := fun {b o es ep} e d => Classical.byContradiction fun z => by
      have e1 := at_a z
      subst e1
      rw [obj] at e
      cases e
      exact absurd (show Data.seq vs.toArray _ = Data.dict es ep from d) (fun q => by cases q)
    have keepNs : ∀ {b : Addr} {m : Str → Option Value}, s₁.heap.Ns b m → (hidT s₁.heap H).Ns b m := fun {b m} ⟨o, es, ep, e, d, r⟩ => ⟨o, es, ep, hidT_get e (noDict e d), d, r⟩
    have kin : K.In (hidT s₁.heap H) := fun b o e => hidT_get (KX b o e) (Classical.byContradiction fun z => by
      have e1 := at_a z
      subst e1
      rw [apart z] at e
      cases e)
    have mod : Mod K mg (hidT s₁.heap H) := ⟨kin, keepNs hns, ⟨mb, keepNs hmb, hbb⟩, lim.elim fun mc z => ⟨mc, keepNs z.1, z.2⟩⟩
    have e0 : Env0 P w K mg (hidT s₁.heap H) callerA [] s₁ H := ⟨rfl, mod, fun b o e => of_hidT e, Nat.le_of_eq (hidT_size _ _), trivial, (fun b z => nomatch (show b ∈ ([] : List Addr) from z)), hok, .of_eq gens⟩
    refine codeAny_mono ((F _ kin (keepNs hns)).go callerA [] s₁ H ⟨[.ref a], []⟩ [.ref a] [.ref a] _ _ rfl room e0 (bind s₁ (.ref a)) (.cons rfl .nil) (prom H only seq)) fun r s' z => ?_
    rcases r with e | fl
    · exact (none_out H e s' z).elim
    cases fl with
    | next => exact z.elim
    | brk => exact z.elim
    | cont => exact z.elim
    | ret u =>
      obtain ⟨v, H', os, bare, un, hok', rv, rfl⟩ := z
      obtain rfl : u = Value.bool true := rv
      refine ⟨rfl, OldK.of_keep fun b o e => ?_, os, bare⟩
      cases q : H b with
      | none => exact un.keep b o e q (fun z => nomatch (show b ∈ ([] : List Addr) from z)) (fun z => nomatch z)
      | some u =>
        rcases only b with z | ⟨ob, xs, z⟩
        · rw [q] at z
          cases z
        · obtain ⟨e1, _⟩ := hok b _ z
          obtain ⟨e2, _⟩ := hok' b _ (un.frzs b ob _ z)
          rw [e] at e1
          cases e1
          exact e2
  cases own : K.lookup a with
  | some o =>
    have e := KX a o own
    rw [obj] at e
    cases e
    exact main (fun _ => none) (fun _ => .inl rfl) (.inr ⟨_, vs.toArray, _, own, rfl, rfl, rfl, by rw [List.size_toArray, size]; exact most, by simpa using rel⟩) (fun b u z => nomatch (show (none : Option HO) = some u from z)) (fun b z => absurd rfl z) fun z => absurd rfl z
  | none =>
    have yes : ∀ {b : Addr}, b = a → (if b = a then some (HO.frz { cls := .type "list", data := .seq vs.toArray } (.lst (ns.map V.int))) else none) = some (HO.frz { cls := .type "list", data := .seq vs.toArray } (.lst (ns.map V.int))) := fun z => if_pos z
    refine main (fun b => if b = a then some (.frz { cls := .type "list", data := .seq vs.toArray } (.lst (ns.map V.int))) else none) (fun b => ?_) (.inl (.inr ⟨_, yes rfl⟩)) (fun b u z => ?_) (fun b z => Classical.byContradiction fun n => z (if_neg n)) fun _ => own
    · by_cases n : b = a
      · exact .inr ⟨_, _, yes n⟩
      · exact .inl (if_neg n)
    · by_cases n : b = a
      · have z2 := (yes n).symm.trans z
        cases z2
        subst n
        exact ⟨obj, by rw [List.length_map]; exact most, vs, _, rel, obj⟩
      · have z2 := (if_neg n).symm.trans z
        cases z2
end
section
variable {X : Cx} {CX : CXT} {k : Nat} {f : Addr} {fd : FuncData} {ps : List Str} {sp : Sp} {x : Str} {p pos : Pos} {e : Expr} {es : List Expr} {t : TA} {E : XK}
theorem peG (F : FnG X.prog X.w X.K X.mg X.base CX k f fd ps sp) (gd : X.A.guards = some []) (room : Room k X.A) (hg : Gl X x) (hm : X.mg x = some (.ref f)) (kp : PySem.W.keepIn X.K (.ref f) = true) (bd : Binds X.K fd ps []) (ps' : Passes CX X E) (ha : PA X (e :: es) t)
    (hdb : (x == ("__debug__" : Str)) = false := by decide) (he : starEach (e :: es) X.env = (false, eval e X.env) :: starEach es X.env := by rfl) (hpl : (backTo pos (starEach es X.env)).any (·.1) = false := by rfl) : PE X (.Call (.Name x p) (e :: es) [] pos) (tCall sp [] E t) :=
  ⟨fun pins s σ H Q I h => wpAny_Call_Name_kw (ld_glob I hg hm (PySem.W.callWith_K (h₀ := X.base) I.ok.mod.kin kp (thn (ha.run pos pins s σ H _ I h) fun us s1 ⟨vs, H1, I1, r, q⟩ => ⟨I1.kIn, by
    have q : sp (vs ++ []) H1 Q E := q
    rw [List.append_nil] at q
    have size : (us ++ []).length = ps.length := by rw [List.append_nil, ← r.length]; exact F.many _ _ _ _ q
    have bd2 := bd s1 us I1.kIn size
    rw [List.append_nil] at bd2
    refine wpAny_call (codeAny_mono (F.go X.A X.stack s1 H1 ⟨us, []⟩ us vs Q E gd room I1.env0 bd2 r q) fun res s' z => ?_)
    rcases res with err | fl
    · exact ps' pins σ H1 s1 err s' I1 z
    · cases fl with
      | ret u => exact I1.after z
      | next => exact z.elim
      | brk => exact z.elim
      | cont => exact z.elim⟩) he hpl) hdb)⟩
end
end K0

/-! ### V0 -/
set_option Elab.async false
set_option linter.all false
set_option maxRecDepth 100000
set_option maxHeartbeats 4000000
/-! Values of any depth with dicts (Dv), read off the heap; repr of them. -/
namespace K0
open PySem PySem.Spec PyProof.Rows L2
def keyD : Key → PyData
  | .inl i => .int i
  | .inr x => .str x
mutual
inductive Dv (K : PySem.W.Frag) (H : Hp) : V → PyData → Prop
  | non : Dv K H .non .none
  | bl (b : Bool) : Dv K H (.bl b) (.bool b)
  | int (i : Int) : Dv K H (.int i) (.int i)
  | str (x : Str) : Dv K H (.str x) (.str x)
  | lst {a : Addr} {xs : List V} {ds : List PyData} : SqL K H a xs → DvAll K H xs ds → Dv K H (.ref a) (.list ds)
  | tup {a : Addr} {xs : List V} {ds : List PyData} : SqT K H a xs → DvAll K H xs ds → Dv K H (.ref a) (.tuple ds)
  | dic {a : Addr} {kvs : List (Key × V)} {ds : List (PyData × PyData)} : H a = some (.dK kvs) → ds.map (·.1) = kvs.map (fun p => keyD p.1) → DvAll K H (kvs.map (·.2)) (ds.map (·.2)) → Dv K H (.ref a) (.dict ds)
inductive DvAll (K : PySem.W.Frag) (H : Hp) : List V → List PyData → Prop
  | nil : DvAll K H [] []
  | cons {v : V} {vs : List V} {d : PyData} {ds : List PyData} : Dv K H v d → DvAll K H vs ds → DvAll K H (v :: vs) (d :: ds)
end
theorem same_tup {K : PySem.W.Frag} {H H' : Hp} {a : Addr} {xs : List V} (e : Same H H') (h : SqT K H a xs) : SqT K H' a xs := by
  rcases h with (h | ⟨o, h⟩) | h
  · exact .inl (.inl (e _ _ h))
  · exact .inl (.inr ⟨o, e _ _ h⟩)
  · exact .inr h
mutual
theorem Dv.same {K : PySem.W.Frag} {H H' : Hp} (e : Same H H') : ∀ (d : PyData) (v : V), Dv K H v d → Dv K H' v d
  | .none, _, h => by cases h; exact .non
  | .bool b, _, h => by cases h; exact .bl b
  | .int i, _, h => by cases h; exact .int i
  | .str x, _, h => by cases h; exact .str x
  | .list ds, _, h => by cases h with | lst h1 h2 => exact .lst (e.seq h1) (DvAll.same e ds _ h2)
  | .tuple ds, _, h => by cases h with | tup h1 h2 => exact .tup (same_tup e h1) (DvAll.same e ds _ h2)
  | .dict ds, _, h => by cases h with | dic h1 h2 h3 => exact .dic (e _ _ h1) h2 (DvAll.sameKv e ds _ h3)
theorem DvAll.same {K : PySem.W.Frag} {H H' : Hp} (e : Same H H') : ∀ (ds : List PyData) (vs : List V), DvAll K H vs ds → DvAll K H' vs ds
  | [], _, h => by cases h; exact .nil
  | d :: ds, _, h => by cases h with | cons h1 h2 => exact .cons (Dv.same e d _ h1) (DvAll.same e ds _ h2)
theorem DvAll.sameKv {K : PySem.W.Frag} {H H' : Hp} (e : Same H H') : ∀ (ds : List (PyData × PyData)) (vs : List V), DvAll K H vs (ds.map (·.2)) → DvAll K H' vs (ds.map (·.2))
  | [], _, h => by cases h; exact .nil
  | (k, d) :: ds, _, h => by cases h with | cons h1 h2 => exact .cons (Dv.same e d _ h1) (DvAll.sameKv e ds _ h2)
end
/-- the written part knows where sys.modules stands -/
def sysB (K : PySem.W.Frag) : Bool := match K.lookup sysModules with
  | some o => o.cls == .type "dict"
  | none => false
section
variable {X : Cx} {pins : List (Addr × Obj)} {σ : L2.St} {H : Hp} {s : Shared}
theorem sys_obj (I : Inv X pins σ H s) (b : sysB X.K = true) : ∃ o, s.heap.get? sysModules = some o ∧ o.cls = .type "dict" ∧ H sysModules = none := by
  unfold sysB at b
  cases e : X.K.lookup sysModules with
  | none => rw [e] at b; cases b
  | some o =>
    rw [e] at b
    have z := I.bs _ _ (I.ok.mod.kin _ _ e)
    exact ⟨o, z.1, by simpa using b, z.2⟩
theorem keys_read {h : Heap} {P : Program} {w : World} : ∀ {es : List DictEntry} {kvs : List (Key × Value)}, Pairs (mixKind P w) es kvs → ReadsAll h (es.map (·.key)) (kvs.map fun p => keyD p.1) []
  | _, _, .nil => .nil
  | _, _, .cons (e := e) (kv := kv) h1 h2 h3 => by
    have r : Reads h e.key (keyD kv.1) [] := by
      rcases keyIs_shape (show keyIs kv.1 e.key = true from h1) with ⟨i, t, e1, e2⟩ | ⟨y, t, e1, e2⟩
      · rw [e1, e2]; exact .int i t
      · rw [e1, e2]; exact .str y t
    have q := ReadsAll.cons r (keys_read (h := h) h3)
    simpa using q
theorem vals_of_pairs {P : Program} {w : World} : ∀ {es : List DictEntry} {kvs : List (Key × Value)}, Pairs (mixKind P w) es kvs → es.map (·.val) = kvs.map (·.2)
  | _, _, .nil => rfl
  | _, _, .cons h1 h2 h3 => by rw [List.map_cons, List.map_cons, h2, vals_of_pairs h3]
theorem kv_fst : ∀ {kvs : List (Key × V)} {vs : List (Key × Value)}, KV kvs vs → kvs.map (fun p => keyD p.1) = vs.map (fun p => keyD p.1)
  | _, _, .nil => rfl
  | _, _, .cons h1 h2 => by rw [List.map_cons, List.map_cons, h1.1, kv_fst h2]
theorem kv_snd : ∀ {kvs : List (Key × V)} {vs : List (Key × Value)}, KV kvs vs → Vals (kvs.map (·.2)) (vs.map (·.2))
  | _, _, .nil => .nil
  | _, _, .cons h1 h2 => .cons h1.2 (kv_snd h2)
theorem nomem_cons {a : Addr} {as : List Addr} {z : Addr} (h : z ≠ a) (h2 : z ∉ as) : z ∉ a :: as := fun m => (List.mem_cons.mp m).elim h h2
theorem nomem_app {as bs : List Addr} {z : Addr} (h : z ∉ as) (h2 : z ∉ bs) : z ∉ as ++ bs := fun m => (List.mem_append.mp m).elim h h2
mutual
theorem Dv.reads (I : Inv X pins σ H s) (b : sysB X.K = true) : ∀ (d : PyData) (v : V) (u : Value), Dv X.K H v d → RelV v u → ∃ as, Reads s.heap u d as ∧ sysModules ∉ as
  | .none, _, _, h, r => by cases h; cases r; exact ⟨_, .none, fun z => nomatch z⟩
  | .bool _, _, _, h, r => by cases h; cases r; exact ⟨_, .bool _, fun z => nomatch z⟩
  | .int _, _, _, h, r => by cases h; obtain ⟨t, rfl⟩ := r; exact ⟨_, .int _ t, fun z => nomatch z⟩
  | .str _, _, _, h, r => by cases h; obtain ⟨t, rfl⟩ := r; exact ⟨_, .str _ t, fun z => nomatch z⟩
  | .list ds, _, _, h, r => by
    cases h with
    | lst h1 h2 =>
      cases r
      obtain ⟨its, rv, ⟨o, n, ho, hc, _, hd⟩, _⟩ := I.list h1
      obtain ⟨as, q, z⟩ := DvAll.reads I b ds _ its h2 rv
      refine ⟨_, .list ho hc hd q, nomem_cons (fun e => ?_) z⟩
      obtain ⟨o2, e1, e2, _⟩ := sys_obj I b
      rw [e, ho] at e1
      cases e1
      rw [hc] at e2
      exact absurd e2 (by decide)
  | .tuple ds, _, _, h, r => by
    cases h with
    | tup h1 h2 =>
      cases r
      obtain ⟨its, rv, ⟨o, ho, hc, n, hd⟩, _⟩ := I.tuple h1
      obtain ⟨as, q, z⟩ := DvAll.reads I b ds _ its h2 rv
      exact ⟨_, .tuple ho hc hd q, z⟩
  | .dict ds, _, _, h, r => by
    cases h with
    | dic h1 h2 h3 =>
      cases r
      obtain ⟨_, hsys, vs, kv, o, es, ep, ho, ex, hd, _, pr, _⟩ := I.hok _ _ h1
      obtain ⟨as, q, z⟩ := DvAll.readsKv I b ds _ (es.toList.map (·.val)) h3 (by rw [vals_of_pairs pr]; exact kv_snd kv)
      have ks : ReadsAll s.heap (es.toList.map (·.key)) (ds.map (·.1)) [] := by rw [h2, kv_fst kv]; exact keys_read pr
      refine ⟨_, .dict ho ex.1 hd ks q, ?_⟩
      exact nomem_cons (fun e => by rw [← e] at hsys; simp at hsys) z
theorem DvAll.reads (I : Inv X pins σ H s) (b : sysB X.K = true) : ∀ (ds : List PyData) (vs : List V) (us : List Value), DvAll X.K H vs ds → Vals vs us → ∃ as, ReadsAll s.heap us ds as ∧ sysModules ∉ as
  | [], _, _, h, r => by cases h; cases r; exact ⟨_, .nil, fun z => nomatch z⟩
  | d :: ds, _, _, h, r => by
    cases h with
    | cons h1 h2 =>
      cases r with
      | cons r1 r2 =>
        obtain ⟨as, q1, z1⟩ := Dv.reads I b d _ _ h1 r1
        obtain ⟨bs, q2, z2⟩ := DvAll.reads I b ds _ _ h2 r2
        exact ⟨_, .cons q1 q2, nomem_app z1 z2⟩
theorem DvAll.readsKv (I : Inv X pins σ H s) (b : sysB X.K = true) : ∀ (ds : List (PyData × PyData)) (vs : List V) (us : List Value), DvAll X.K H vs (ds.map (·.2)) → Vals vs us → ∃ as, ReadsAll s.heap us (ds.map (·.2)) as ∧ sysModules ∉ as
  | [], _, _, h, r => by cases h; cases r; exact ⟨_, .nil, fun z => nomatch z⟩
  | (k, d) :: ds, _, _, h, r => by
    cases h with
    | cons h1 h2 =>
      cases r with
      | cons r1 r2 =>
        obtain ⟨as, q1, z1⟩ := Dv.reads I b d _ _ h1 r1
        obtain ⟨bs, q2, z2⟩ := DvAll.readsKv I b ds _ _ h2 r2
        exact ⟨_, .cons q1 q2, nomem_app z1 z2⟩
end
/-- small enough to be shown -/
structure Fit (d : PyData) : Prop where
  able : d.showable = true
  leaf : d.leavesShort 60 = true
  bulk : d.bulk ≤ 100000
  depth : d.depth ≤ 8
theorem Fit.size {d : PyData} (f : Fit d) : d.shown.length ≤ sizeLine := by
  have h := PyData.shown_le_bulk 60 (by decide) d f.leaf
  have h2 := f.bulk
  rw [sizeLine_eq]
  omega
def rRepr (K : PySem.W.Frag) : List V → Hp → VK → Prop := fun xs H Q => ∃ x d, xs = [x] ∧ Dv K H x d ∧ Fit d ∧ Q (.str d.shown) H
theorem call_repr (b : sysB X.K = true) (gd : X.A.guards = some []) (hu : X.A.units + 64 < cLine) : CallR X (.builtin "repr") (rRepr X.K) := by
  intro pins s σ H xs us Q I r h
  obtain ⟨x, d, rfl, hd, ft, q⟩ := h
  obtain ⟨u, rfl, rx⟩ := vals1 r
  obtain ⟨as, rd, nos⟩ := Dv.reads I b d x u hd rx
  have fin : ∀ t s2, Inv X pins σ H s2 → EP X pins σ Q (.str d.shown t) s2 := fun t s2 J => ⟨.str d.shown, H, J, ⟨t, rfl⟩, q⟩
  have dp := ft.depth
  cases hd with
  | non => cases rx; exact PySem.P.repr_of_none (by simpa [PyData.shown] using fin _ _ (I.tok _))
  | bl c => cases rx; exact PySem.P.repr_of_bool (by simpa [PyData.shown] using fin _ _ (I.tok _))
  | int i => obtain ⟨t, rfl⟩ := rx; exact PySem.P.repr_of_int (by have z := ft.able; simpa [PyData.showable] using z) (by simpa [PyData.shown] using fin _ _ (I.tok _))
  | str z => obtain ⟨t, rfl⟩ := rx; exact PySem.P.repr_of_str (by simpa [PyData.shown] using fin _ _ (I.tok _)) (by simpa [PyData.shown] using ft.size)
  | lst h1 h2 => cases rx; exact repr_of_reads' rd ft.able (fun _ => nos) gd (by omega) (fun _ _ e => e) (fun h' u tk k => fin _ _ (I.kept k)) ft.size
  | tup h1 h2 => cases rx; exact repr_of_reads' rd ft.able (fun _ => nos) gd (by omega) (fun _ _ e => e) (fun h' u tk k => fin _ _ (I.kept k)) ft.size
  | dic h1 h2 h3 => cases rx; exact repr_of_reads' rd ft.able (fun _ => nos) gd (by omega) (fun _ _ e => e) (fun h' u tk k => fin _ _ (I.kept k)) ft.size
end
end K0

/-! ### O0 -/
set_option Elab.async false
set_option linter.all false
set_option maxRecDepth 100000
set_option maxHeartbeats 4000000
/-! Displays of data: what they evaluate to (Ev1, EvN), beside the dice at p; a text repeated; the drawn odd value. -/
namespace K0
open PySem PySem.Spec PyProof.Rows L2
def rep (z : Str) (n : Int) : Str := ⟨(List.replicate n.toNat z.cps).foldl (· ++ ·) #[]⟩
theorem fold_size {α : Type} (cs : Array α) : ∀ (k : Nat) (acc : Array α), ((List.replicate k cs).foldl (· ++ ·) acc).size = acc.size + k * cs.size
  | 0, acc => by simp
  | k + 1, acc => by
    rw [List.replicate_succ, List.foldl_cons, fold_size cs k, Array.size_append, Nat.succ_mul]
    omega
theorem rep_len (z : Str) (n : Int) : (rep z n).length = n.toNat * z.length := by
  show ((List.replicate n.toNat z.cps).foldl (· ++ ·) #[]).size = _
  rw [fold_size]
  show 0 + _ = _
  rw [Nat.zero_add]
  rfl
def rStrMul : R2 := fun x y H Q => ∃ (z : Str) (n : Int), x = .str z ∧ y = .int n ∧ 2 ≤ n ∧ n ≤ 10000 ∧ 1 ≤ z.length ∧ z.length ≤ 1000 ∧ Q (.str (rep z n)) H
theorem op_strMul {X : Cx} : OpR X (binaryOp .Mult) rStrMul := by
  intro pins s σ H x y v u Q I rx ry h
  obtain ⟨z, n, rfl, rfl, n2, n1, z1, z2, q⟩ := h
  obtain ⟨t, rfl⟩ := rx
  obtain ⟨t', rfl⟩ := ry
  have e2 : (2 : Int) ^ 63 = 9223372036854775808 := by decide
  have hn1 : (n == 1) = false := by simp; omega
  have hz0 : (z.length == 0) = false := by simp; omega
  have big : z.length * n.toNat ≤ 1000 * 10000 := Nat.mul_le_mul z2 (by omega)
  refine PySem.P.mul_str (by simp; omega) (fun _ _ => ?_) (fun _ _ => ?_) ?_
  · have h1 : (1000 : Int) ≤ (2 ^ 63 - 1) / n := (Int.le_ediv_iff_mul_le (by omega)).mpr (by omega)
    omega
  · unfold Builtin.Str.tooLong
    rw [sizeLine_eq]
    exact decide_eq_false (by omega)
  · rw [if_neg (by omega), if_neg (by rw [hn1, hz0]; simp)]
    have hl := rep_len z n
    refine ⟨by show (rep z n).length ≤ sizeLine; rw [hl, Nat.mul_comm, sizeLine_eq]; omega, ?_⟩
    exact ⟨.str (rep z n), H, I.tok _, ⟨_, rfl⟩, q⟩
/-- the heap without what stands at p -/
def hid (p : Addr) (H : Hp) : Hp := fun b => if b = p then none else H b
theorem hid_ne {p b : Addr} {H : Hp} (h : b ≠ p) : hid p H b = H b := if_neg h
theorem hid_same {p : Addr} {H H' : Hp} (h : ∀ b o, b ≠ p → H b = some o → H' b = some o) : Same (hid p H) (hid p H') := fun b o e => by
  by_cases hb : b = p
  · subst hb
    have z : (none : Option HO) = some o := (if_pos rfl).symm.trans e
    cases z
  · rw [hid_ne hb] at e ⊢
    exact h b o hb e
theorem hid_out {p : Addr} {H : Hp} : Same (hid p H) H := fun b o e => by
  by_cases hb : b = p
  · subst hb
    have z : (none : Option HO) = some o := (if_pos rfl).symm.trans e
    cases z
  · rw [hid_ne hb] at e
    exact e
theorem same_upd {H : Hp} {q : Addr} {o : HO} (h : H q = none) : Same H (upd H q o) := fun b u e => by
  rw [upd_ne (ne_of_none e h)]
  exact e
def Dice (p : Addr) (H : Hp) : Prop := ∃ a b c, H p = some (dk a b c)
theorem Dice.same {p : Addr} {H H' : Hp} (h : Dice p H) (e : Same H H') : Dice p H' := by
  obtain ⟨a, b, c, z⟩ := h
  exact ⟨a, b, c, e _ _ z⟩
theorem Dice.ne {p q : Addr} {H : Hp} (h : Dice p H) (n : H q = none) : q ≠ p := by
  obtain ⟨a, b, c, z⟩ := h
  exact (ne_of_none z n).symm
theorem DvAll.length {K : PySem.W.Frag} {H : Hp} : ∀ {xs : List V} {ds : List PyData}, DvAll K H xs ds → xs.length = ds.length
  | _, [], h => by cases h; rfl
  | _, d :: ds, h => by cases h with | cons h1 h2 => rw [List.length_cons, List.length_cons, DvAll.length h2]
theorem DvAll.get {K : PySem.W.Frag} {H : Hp} : ∀ {ds : List PyData} {xs : List V} {i : Nat} {x : V}, DvAll K H xs ds → xs[i]? = some x → ∃ d, ds[i]? = some d ∧ Dv K H x d
  | [], _, i, x, h, e => by cases h; simp at e
  | d :: ds, _, 0, x, h, e => by cases h with | cons h1 h2 => simp at e; subst e; exact ⟨d, rfl, h1⟩
  | d :: ds, _, i + 1, x, h, e => by cases h with | cons h1 h2 => exact DvAll.get (i := i) h2 (by simpa using e)
theorem DvAll.append {K : PySem.W.Frag} {H : Hp} : ∀ {ds es : List PyData} {xs ys : List V}, DvAll K H xs ds → DvAll K H ys es → DvAll K H (xs ++ ys) (ds ++ es)
  | [], _, _, _, h, g => by cases h; exact g
  | d :: ds, _, _, _, h, g => by cases h with | cons h1 h2 => exact .cons h1 (DvAll.append h2 g)
section
variable {K : PySem.W.Frag} {p : Addr} {σ : L2.St}
def Ev1 (K : PySem.W.Frag) (p : Addr) (σ : L2.St) (te : TE) (d : PyData) : Prop := ∀ H Q, Dice p H → (∀ x H', Same H H' → Dv K (hid p H') x d → Q x H') → te σ H Q
def EvN (K : PySem.W.Frag) (p : Addr) (σ : L2.St) (ta : TA) (ds : List PyData) : Prop := ∀ H Q, Dice p H → (∀ xs H', Same H H' → DvAll K (hid p H') xs ds → Q xs H') → ta σ H Q
theorem ev_non : Ev1 K p σ (tC .non) .none := fun H Q _ q => q _ H (Same.refl H) .non
theorem ev_bl {b : Bool} : Ev1 K p σ (tC (.bl b)) (.bool b) := fun H Q _ q => q _ H (Same.refl H) (.bl b)
theorem ev_int {i : Int} : Ev1 K p σ (tC (.int i)) (.int i) := fun H Q _ q => q _ H (Same.refl H) (.int i)
theorem ev_str {z : Str} : Ev1 K p σ (tC (.str z)) (.str z) := fun H Q _ q => q _ H (Same.refl H) (.str z)
theorem ev_neg {i : Int} : Ev1 K p σ (tUn (rU fun i => .int (-i)) (tC (.int i))) (.int (-i)) := fun H Q _ q => ⟨i, rfl, q _ H (Same.refl H) (.int _)⟩
theorem ev_pow {i j : Int} (h : PowBits i j) : Ev1 K p σ (tOp (rI PowBits fun i j => .int (i ^ j.toNat)) (tC (.int i)) (tC (.int j))) (.int (i ^ j.toNat)) := fun H Q _ q => ⟨i, j, rfl, rfl, h, q _ H (Same.refl H) (.int _)⟩
theorem ev_rep {z : Str} {n : Int} (h : 2 ≤ n ∧ n ≤ 10000 ∧ 1 ≤ z.length ∧ z.length ≤ 1000) : Ev1 K p σ (tOp rStrMul (tC (.str z)) (tC (.int n))) (.str (rep z n)) := fun H Q _ q => ⟨z, n, rfl, rfl, h.1, h.2.1, h.2.2.1, h.2.2.2, q _ H (Same.refl H) (.str _)⟩
theorem ev_nil : EvN K p σ tNil [] := fun H Q _ q => q _ H (Same.refl H) .nil
theorem ev_cons {te : TE} {ta : TA} {d : PyData} {ds : List PyData} (h : Ev1 K p σ te d) (g : EvN K p σ ta ds) : EvN K p σ (tCons te ta) (d :: ds) := fun H Q D q =>
  h H _ D fun x H1 e1 v1 => g H1 _ (D.same e1) fun xs H2 e2 v2 => q _ H2 (e1.trans e2) (.cons (v1.same (hid_same fun b o _ z => e2 b o z)) v2)
theorem ev_tup {ta : TA} {ds : List PyData} (g : EvN K p σ ta ds) (hl : ds.length ≤ 1000) : Ev1 K p σ (tTup ta) (.tuple ds) := fun H Q D q =>
  g H _ D fun xs H1 e1 v1 => ⟨by rw [v1.length]; exact Nat.le_of_lt (small1000 hl), fun a na => q _ _ (e1.trans (same_upd na)) (.tup (xs := xs) (.of (by rw [hid_ne ((D.same e1).ne na), upd_same])) (v1.same (hid_same fun b o _ z => same_upd na b o z)))⟩
theorem ev_lst {ta : TA} {ds : List PyData} (g : EvN K p σ ta ds) (hl : ds.length ≤ 1000) : Ev1 K p σ (tLst ta) (.list ds) := fun H Q D q =>
  g H _ D fun xs H1 e1 v1 => ⟨by rw [v1.length]; exact Nat.le_of_lt (small1000 hl), fun a na => q _ _ (e1.trans (same_upd na)) (.lst (xs := xs) (.of (by rw [hid_ne ((D.same e1).ne na), upd_same])) (v1.same (hid_same fun b o _ z => same_upd na b o z)))⟩
theorem ev_dict0 : Ev1 K p σ tDNewK (.dict []) := fun H Q D q => fun a na => q _ _ (same_upd na) (.dic (kvs := []) (by rw [hid_ne (D.ne na), upd_same]) rfl .nil)
theorem ev_dict1 {k : Str} {i : Int} : Ev1 K p σ (tDisp [(tC (.str k), tC (.int i))]) (.dict [(.str k, .int i)]) := fun H Q D q => fun a na => by
  refine ⟨upd_same, [(.inr k, .int i)], rfl, (by show 1 ≤ 15; decide), ?_⟩
  rw [upd_upd]
  exact q _ _ (same_upd na) (.dic (kvs := [(.inr k, .int i)]) (by rw [hid_ne (D.ne na), upd_same]; rfl) rfl (.cons (.int i) .nil))
end
end K0

/-! ### O1 -/
set_option Elab.async false
set_option linter.all false
set_option maxRecDepth 100000
set_option maxHeartbeats 4000000
namespace K0
open PySem PySem.Spec PyProof.Rows L2
def odd1 : List PyData := [.none, .bool true, .bool false, .int (-1), .int (10 ^ Int.toNat 39), .int (10 ^ Int.toNat 40), .int 3, .tuple [], .list [], .dict [], .str "A", .str "a b", .str "\n", .str "z", .tuple [.str "a"], .list [.str "a"], .dict [(.str "a", .int 1)]]
def odd2 : List PyData := [.tuple [.str "b", .str "a"], .tuple [.str "a", .str "a"], .tuple [.str ""], .tuple [.str "ab"], .tuple [.str "a", .int 1], .tuple [.str "a", .none], .str (rep "a" 2001), .tuple [.tuple []], .str "4", .str "!", .str "~"]
def fitB (d : PyData) : Bool := d.showable && (d.leavesShort 60 && (decide (d.bulk ≤ 10000) && decide (d.depth ≤ 7)))
structure Fit7 (d : PyData) : Prop where
  fit : Fit d
  bulk : d.bulk ≤ 10000
  depth : d.depth ≤ 7
theorem fitB_ok {d : PyData} (h : fitB d = true) : Fit7 d := by
  obtain ⟨h1, h⟩ := Bool.and_eq_true_iff.mp h
  obtain ⟨h2, h⟩ := Bool.and_eq_true_iff.mp h
  obtain ⟨h3, h4⟩ := Bool.and_eq_true_iff.mp h
  have h3 := of_decide_eq_true h3
  have h4 := of_decide_eq_true h4
  exact ⟨⟨h1, h2, by omega, by omega⟩, h3, h4⟩
theorem odd_fit : (odd1 ++ odd2).all fitB = true := by decide +kernel
theorem scOdd : FnScope ["dice", "some"] ["dice"] (defScope (top 23)) := ⟨rfl, rfl, rfl, by decide +kernel, rfl, by decide +kernel, by decide +kernel⟩
def spOdd (K : PySem.W.Frag) : Sp := fun vs H Q _ => ∃ (p : Addr) (a b c : Int), vs = [.ref p] ∧ H p = some (dk a b c) ∧ ∀ H' x d, Keep p H H' → Dv K (hid p H') x d → Fit7 d → Q x H'
theorem keep_of {p : Addr} {H H' : Hp} (e : Same H H') (a b c : Int) : Keep p H (upd H' p (dk a b c)) := ⟨fun d o n z => by rw [upd_ne n]; exact e _ _ z, a, b, c, upd_same⟩
theorem rd_lst {K : PySem.W.Frag} {p : Addr} {σ : L2.St} {H : Hp} {Q : VK} {ta : TA} {ds : List PyData} (ev : EvN K p σ ta ds) (D0 : Dice p H) (hl : ds.length ≤ 1000) (k : ∀ xs H1 l, Same H H1 → DvAll K (hid p H1) xs ds → H1 l = none → Q (.ref l) (upd H1 l (.lst xs))) : tLst ta σ H Q :=
  ev H _ D0 fun xs H1 e1 v1 => ⟨by rw [v1.length]; exact Nat.le_of_lt (small1000 hl), fun l n => k xs H1 l e1 v1 n⟩
theorem sq_asg {te : TE} {i : Nat} {u : TS} {D : Ends} {σ : L2.St} {H : Hp} (h : te σ H fun x H1 => u D (σ.set i (some x)) H1) : tSeq (tAsg te (gName i)) u D σ H := h
section
variable {P : Program} {w : World} {K : PySem.W.Frag} {mg : Str → Option Value} {base : Heap} {f fO : Addr} {fd fdO : FuncData}
theorem ev_odd1 {p : Addr} {σ : L2.St} : ∃ t, EvN K p σ t odd1 := ⟨_, (ev_cons ev_non (ev_cons ev_bl (ev_cons ev_bl (ev_cons ev_neg (ev_cons (ev_pow ⟨by decide, by decide +kernel⟩) (ev_cons (ev_pow ⟨by decide, by decide +kernel⟩) (ev_cons ev_int (ev_cons (ev_tup ev_nil (by decide)) (ev_cons (ev_lst ev_nil (by decide)) (ev_cons ev_dict0 (ev_cons ev_str (ev_cons ev_str (ev_cons ev_str (ev_cons ev_str (ev_cons (ev_tup (ev_cons ev_str ev_nil) (by decide)) (ev_cons (ev_lst (ev_cons ev_str ev_nil) (by decide)) (ev_cons ev_dict1 ev_nil)))))))))))))))))⟩
theorem ok_odd {k : Nat} (F : FnP K "_law_odd" 23 f fd) (FO : FnOk P w K mg base CX0 (k + 2) fO fdO ["dice", "items"] (spOne K)) (gO : mg "_law_one_of" = some (.ref fO)) (kO : PySem.W.keepIn K (.ref fO) = true) (bO : Binds K fdO ["dice", "items"] []) :
    FnOk P w K mg base CX0 (k + 3) f fd ["dice"] (spOdd K) := by
  refine F.ok scOdd (fun vs H Q E h => ?_) (fun cdv A outer s H vs Q E hr h => ?_)
  · obtain ⟨p, a, b, c, rfl, _⟩ := h
    rfl
  · obtain ⟨p, a, b, c, rfl, hp, q⟩ := h
    refine ⟨_, PSs.nox (pss_cons (ps_set (i := 1) scOdd.nd rfl (.inl rfl) (pe_lst (pa_cons pe_non (pa_cons pe_bl (pa_cons pe_bl (pa_cons (pe_un un_neg pe_int) (pa_cons (pe_op op_powBits pe_int pe_int) (pa_cons (pe_op op_powBits pe_int pe_int) (pa_cons pe_int (pa_cons (pe_tup pa_nil) (pa_cons (pe_lst pa_nil) (pa_cons pe_dnewK (pa_cons pe_str (pa_cons pe_str (pa_cons pe_str (pa_cons pe_str (pa_cons (pe_tup (pa_cons pe_str pa_nil)) (pa_cons (pe_lst (pa_cons pe_str pa_nil)) (pa_cons (pe_disp (pps_cons pe_str pe_int pps_nil) rfl rfl (by simp) (by decide)) pa_nil)))))))))))))))))))
      (pss_cons (ps_set (i := 1) scOdd.nd rfl (.inl rfl) (pe_op op_cat (pv 1) (pe_lst (pa_cons (pe_tup (pa_cons pe_str (pa_cons pe_str pa_nil))) (pa_cons (pe_tup (pa_cons pe_str (pa_cons pe_str pa_nil))) (pa_cons (pe_tup (pa_cons pe_str pa_nil)) (pa_cons (pe_tup (pa_cons pe_str pa_nil)) (pa_cons (pe_tup (pa_cons pe_str (pa_cons pe_int pa_nil))) (pa_cons (pe_tup (pa_cons pe_str (pa_cons pe_non pa_nil))) (pa_cons (pe_op op_strMul pe_str pe_int) (pa_cons (pe_tup (pa_cons (pe_tup pa_nil) pa_nil)) (pa_cons pe_str (pa_cons pe_str (pa_cons pe_str pa_nil))))))))))))))
      (pss_one (ps_ret (pe_call FO hr (by rfl) gO kO bO .nil pass0 (pa_cons (pv 0) (pa_cons (pv 1) pa_nil))))))), ?_⟩
    have D0 : Dice p H := ⟨a, b, c, hp⟩
    refine sq_asg (rd_lst (ds := odd1) (p := p) (K := K) (ev_cons ev_non (ev_cons ev_bl (ev_cons ev_bl (ev_cons ev_neg (ev_cons (ev_pow ⟨by decide, by decide +kernel⟩) (ev_cons (ev_pow ⟨by decide, by decide +kernel⟩) (ev_cons ev_int (ev_cons (ev_tup ev_nil (by decide)) (ev_cons (ev_lst ev_nil (by decide)) (ev_cons ev_dict0 (ev_cons ev_str (ev_cons ev_str (ev_cons ev_str (ev_cons ev_str (ev_cons (ev_tup (ev_cons ev_str ev_nil) (by decide)) (ev_cons (ev_lst (ev_cons ev_str ev_nil) (by decide)) (ev_cons ev_dict1 ev_nil))))))))))))))))) D0 (by decide) fun xs1 H1 l1 e1 v1 n1 => ?_)
    have s1 : Same H (upd H1 l1 (.lst xs1)) := e1.trans (same_upd n1)
    refine sq_asg ⟨_, rfl, rd_lst (ds := odd2) (p := p) (K := K) (ev_cons (ev_tup (ev_cons ev_str (ev_cons ev_str ev_nil)) (by decide)) (ev_cons (ev_tup (ev_cons ev_str (ev_cons ev_str ev_nil)) (by decide)) (ev_cons (ev_tup (ev_cons ev_str ev_nil) (by decide)) (ev_cons (ev_tup (ev_cons ev_str ev_nil) (by decide)) (ev_cons (ev_tup (ev_cons ev_str (ev_cons ev_int ev_nil)) (by decide)) (ev_cons (ev_tup (ev_cons ev_str (ev_cons ev_non ev_nil)) (by decide)) (ev_cons (ev_rep (by decide +kernel)) (ev_cons (ev_tup (ev_cons (ev_tup ev_nil (by decide)) ev_nil) (by decide)) (ev_cons ev_str (ev_cons ev_str (ev_cons ev_str ev_nil))))))))))) (D0.same s1) (by decide) fun xs2 H2 l2 e2 v2 n2 => ?_⟩
    have s2 : Same (upd H1 l1 (.lst xs1)) (upd H2 l2 (.lst xs2)) := e2.trans (same_upd n2)
    have hlen : (xs1 ++ xs2).length = 28 := by rw [List.length_append, v1.length, v2.length]; rfl
    refine ⟨l1, l2, xs1, xs2, rfl, rfl, s2 _ _ upd_same, upd_same, by rw [← List.length_append, hlen]; decide, fun l3 n3 => ?_⟩
    have s3 : Same (upd H2 l2 (.lst xs2)) (upd (upd H2 l2 (.lst xs2)) l3 (.lst (xs1 ++ xs2))) := same_upd n3
    obtain ⟨a3, b3, c3, hp3⟩ := D0.same ((s1.trans s2).trans s3)
    have nl : l3 ≠ p := (D0.same (s1.trans s2)).ne n3
    refine ⟨_, rfl, _, rfl, p, a3, b3, c3, _, xs1 ++ xs2, rfl, hp3, .inl ⟨l3, rfl, .inl (.of upd_same)⟩, (fun z => by rw [z] at hlen; cases hlen), (by rw [hlen]; decide), fun a' b' c' => .inl ⟨l3, rfl, .inl (.of (by rw [upd_ne nl, upd_same]))⟩, fun a' b' c' i x hx => ?_⟩
    have V1 : DvAll K (hid p (upd (upd (upd H2 l2 (.lst xs2)) l3 (.lst (xs1 ++ xs2))) p (dk a' b' c'))) xs1 odd1 := v1.same (hid_same fun d o n z => by rw [upd_ne n]; exact s3 _ _ (s2 _ _ (same_upd n1 _ _ z)))
    have V2 : DvAll K (hid p (upd (upd (upd H2 l2 (.lst xs2)) l3 (.lst (xs1 ++ xs2))) p (dk a' b' c'))) xs2 odd2 := v2.same (hid_same fun d o n z => by rw [upd_ne n]; exact s3 _ _ (same_upd n2 _ _ z))
    obtain ⟨d, hd, hv⟩ := (V1.append V2).get hx
    exact q _ x d (keep_of ((s1.trans s2).trans s3) a' b' c') hv (fitB_ok (List.all_eq_true.mp odd_fit d (List.mem_of_getElem? hd)))
end
end K0

/-! ### E0 -/
set_option Elab.async false
set_option linter.all false
set_option maxRecDepth 100000
set_option maxHeartbeats 4000000
/-! except (A, B, ..): how a tuple of any length is matched. -/
namespace K0
open PySem PySem.Spec PyProof.Rows PySem.W
section
variable {M : Model} {A : Around} {E : Value → Shared → Prop} {s : Shared}
theorem loopY {β : Type} {f : Value → β → Sem (ForInStep β)} {b : β} {Q : β → Shared → Prop} : ∀ (cs : List Value), (∀ c ∈ cs, ∀ Q' : ForInStep β → Shared → Prop, Q' (.yield b) s → wpAny M A (f c b) Q' E s) → Q b s → wpAny M A (forIn cs b f) Q E s
  | [], _, q => by
    rw [List.forIn_nil]
    exact wpAny_pure q
  | c :: cs, h, q => by
    rw [List.forIn_cons]
    exact wpAny_bind (h c List.mem_cons_self _ (loopY cs (fun d hd => h d (List.mem_cons_of_mem _ hd)) q))
theorem loopR {β : Type} {f : Value → β → Sem (ForInStep β)} {b dv : β} {Q : β → Shared → Prop} : ∀ (cs : List Value) (bs : List Bool), Paired (fun c i => ∀ Q' : ForInStep β → Shared → Prop, Q' (if i = true then .done dv else .yield b) s → wpAny M A (f c b) Q' E s) cs bs →
    Q (if bs.any id = true then dv else b) s → wpAny M A (forIn cs b f) Q E s
  | [], _, h, q => by
    cases h
    rw [List.forIn_nil]
    exact wpAny_pure q
  | c :: cs, i :: bs, .cons h t, q => by
    rw [List.forIn_cons]
    refine wpAny_bind (h _ ?_)
    cases i with
    | true =>
      rw [if_pos rfl]
      exact wpAny_pure (by simpa using q)
    | false =>
      rw [if_neg Bool.false_ne_true]
      exact loopR cs bs t (by simpa using q)
end
def anyB : List (Option Bool) → Option Bool
  | [] => some false
  | some b :: r => (anyB r).map (b || ·)
  | none :: _ => none
theorem exmAny_bs {K : Frag} {cls : Value} : ∀ {cs : List Value} {b : Bool}, exmAny K cls cs = some b → ∃ bs : List Bool, Paired (fun c i => exmOne K cls c = some i) cs bs ∧ bs.any id = b
  | [], b, h => ⟨[], .nil, by cases h; rfl⟩
  | c :: cs, b, h => by
    obtain ⟨b1, d1, h1, h2, rfl⟩ := exmAny_cons h
    obtain ⟨bs, p, q⟩ := exmAny_bs h2
    exact ⟨b1 :: bs, .cons h1 p, by rw [List.any_cons, q]; rfl⟩
theorem paired_mem {α β : Type} {F : α → β → Prop} : ∀ {l : List α} {m : List β}, Paired F l m → ∀ x ∈ l, ∃ y, F x y
  | _, _, .nil, _, h => nomatch h
  | _, _, .cons r t, x, h => by
    rcases List.mem_cons.mp h with rfl | h
    · exact ⟨_, r⟩
    · exact paired_mem t x h
theorem paired_map {α β : Type} {F G : α → β → Prop} : ∀ {l : List α} {m : List β}, Paired F l m → (∀ a b, F a b → G a b) → Paired G l m
  | _, _, .nil, _ => .nil
  | _, _, .cons r t, f => .cons (f _ _ r) (paired_map t f)
theorem exm_any {M : Model} {K : Frag} {cs : List Value} {cls : Value} {tp e : Addr} {b : Bool} {h : Heap} (X : K.In h) (LT : Looks M h (typeOf (.ref e)) cls) (hp : h.get? tp = some { cls := .type "tuple", data := .seq cs.toArray }) (hx : exmAny K cls cs = some b) :
    Looks M h (excMatches (.ref e) (.ref tp)) b := by
  intro A Q E s k₀ q
  obtain ⟨hh, g, d, tk, os⟩ := s
  have k : ∀ b o, h.get? b = some o → hh.get? b = some o := k₀
  have LT0 : Looks M h (isInstance (.ref tp) (.type "tuple")) true := ((Looks.ld hp).andThen .now).andThen (Looks.of_pure isSubtype_tuple_tuple)
  obtain ⟨bs, pr, eb⟩ := exmAny_bs hx
  have hp' := k _ _ hp
  unfold excMatches
  refine wpAny_bind ((LT0.keeps k).at ?_)
  dsimp only
  rw [if_pos rfl]
  first
    | refine wpAny_bind (wpAny_seqItems hp' rfl ?_)
    | refine wpAny_bind (wpAny_bind (wpAny_seqItems hp' rfl (wpAny_pure ?_)))
  dsimp only [Option.getD_some, Option.getD]
  refine wpAny_bind (wpAny_pure ?_)
  refine wpAny_bind (loopY _ (fun c hc Q' q' => ?_) ?_)
  · obtain ⟨i, hi⟩ := paired_mem pr c hc
    obtain ⟨e1, _⟩ := exm_cls (M := M) X hi
    refine wpAny_bind ((e1.keeps k).at ?_)
    simp only [Bool.not_true, Bool.false_eq_true, if_false]
    exact wpAny_pure q'
  · refine wpAny_bind ((LT.keeps k).at ?_)
    refine wpAny_bind (loopR (dv := (some true, ())) cs bs (paired_map pr fun c i hi Q' q' => ?_) ?_)
    · obtain ⟨_, e2⟩ := exm_cls (M := M) X hi
      refine wpAny_bind ((e2.keeps k).at ?_)
      cases i with
      | true => simp only [if_true] at q' ⊢; exact wpAny_pure q'
      | false => simp only [Bool.false_eq_true, if_false] at q' ⊢; exact wpAny_pure q'
    · rw [eb]
      cases b with
      | true => simp only [if_true]; exact wpAny_pure q
      | false => simp only [Bool.false_eq_true, if_false]; exact wpAny_pure q
end K0

/-! ### E1 -/
set_option Elab.async false
set_option linter.all false
set_option maxRecDepth 100000
set_option maxHeartbeats 4000000
/-! try with several clauses; a clause names a class or a tuple of classes, and may name the exception. -/
namespace K0
open PySem PySem.Spec PyProof.Rows L2
theorem flying_push {B h : Heap} {l : List Env} {a : Addr} {Z : Obj → Prop} {o : Obj} (x : HandSPX.FlyingZ B l a Z h) : HandSPX.FlyingZ B l a Z (h.push o) := by
  have k : ∀ b u, h.get? b = some u → (h.push o).get? b = some u := fun b u e => Heap.get?_push_of_some _ e
  obtain ⟨x1, x2, x3, oe, vs, T, oT, ts, y1, y2, y3, y4, y5, y6, y7, y8, y9⟩ := x
  exact ⟨fun b u e => k b u (x1 b u e), x2, Heap.FunFrames.of_keeps (fun b u e _ => ⟨u, k b u e, rfl⟩) x3, oe, vs, T, oT, ts, k _ _ y1, y2, y3, y4, y5, y6, k _ _ y7, y8, y9⟩
inductive NamesAll (X : Cx) : List Expr → List Value → Prop
  | nil : NamesAll X [] []
  | cons {x : Str} {np : Pos} {c : Value} {es : List Expr} {cs : List Value} : Names X x c → NamesAll X es cs → NamesAll X (.Name x np :: es) (c :: cs)
/-- the test of a clause -/
inductive Cls (X : Cx) : Expr → List Value → Prop
  | one {x : Str} {np : Pos} {c : Value} : Names X x c → Cls X (.Name x np) [c]
  | tup {es : List Expr} {cs : List Value} {k : Nat} {pos : Pos} : NamesAll X es cs → cs.length ≤ 1000 → Cls X (.Tuple es k pos) cs
structure HC where
  cs : List Value
  slot : Option Nat
  ts : Addr → Value → Option Addr → TS
def endsW (D : Ends) : Option Nat → Ends
  | none => D
  | some i => { nx := fun σ' H' => D.nx (σ'.set i none) H', rt := D.rt, bk := fun σ' H' => D.bk (σ'.set i none) H', ct := fun σ' H' => D.ct (σ'.set i none) H' }
def slotW (σ : L2.St) (a : Addr) : Option Nat → L2.St
  | none => σ
  | some i => σ.set i (some (.ref a))
def wAny (K : PySem.W.Frag) (Wout : WX) (D : Ends) : List HC → WX
  | [] => Wout
  | c :: r => fun cls d σ H => ∃ b, PySem.W.exmAny K cls c.cs = some b ∧ (b = true → ∀ a, H a = none → c.ts a cls d (endsW D c.slot) (slotW σ a c.slot) H) ∧ (b = false → wAny K Wout D r cls d σ H)
inductive Hds (X : Cx) : List ExceptHandler → List HC → Prop
  | nil : Hds X [] []
  | cons {t : Expr} {cs : List Value} {nm : Option Str} {sl : Option Nat} {ts : Addr → Value → Option Addr → TS} {b₀ : Stmt} {suite : List Stmt} {pos' : Pos} {hds : List ExceptHandler} {l : List HC} (ht : Cls X t cs)
      (hn : (nm = none ∧ sl = none) ∨ ∃ n i, nm = some n ∧ sl = some i ∧ X.N[i]? = some n ∧ X.env.kindOf n = some .local)
      (hs : ∀ (a : Addr) (oe : Obj) (cls : Value) (d : Option Addr) (pn : List (Addr × Obj)), Zc cls d oe → (∃ vs, oe.data = .fields vs) → PSs (X.suite a ((a, oe) :: pn)) (b₀ :: suite) (ts a cls d)) (r : Hds X hds l) :
      Hds X (.ExceptHandler (some t) nm (b₀ :: suite) pos' :: hds) (⟨cs, sl, ts⟩ :: l)
section
variable {X : Cx}
theorem names_run {pins : List (Addr × Obj)} {σ : L2.St} {H : Hp} {s : Shared} (I : Inv X pins σ H s) {pos : Pos} {E : Value → Shared → Prop} : ∀ {es : List Expr} {cs : List Value} {Q : List Value → Shared → Prop}, NamesAll X es cs → Q cs s → wpAny (model X.prog X.w) X.A (spliced (backTo pos (starEach es X.env))) Q E s
  | _, _, _, .nil, q => Calls.spliced_nil q
  | _, _, _, .cons (x := x) (np := np) (es := es) nm r, q => by
    show wpAny _ _ (spliced ((false, eval (.Name x np) X.env) :: backTo pos (starEach es X.env))) _ _ s
    refine Calls.spliced_cons ?_
    obtain ⟨g, db, z | ⟨z, bv, nn⟩⟩ := nm
    · exact ld_glob I g z (names_run I r q) db
    · exact ld_blt I g z bv (names_run I r q) nn db
/-- a clause's test: it leaves the heap but for a tuple -/
theorem cls_run {pins : List (Addr × Obj)} {σ : L2.St} {H : Hp} {s : Shared} (I : Inv X pins σ H s) {cls : Value} {e : Addr} {cs : List Value} {t : Expr} {b : Bool} {Q : Bool → Shared → Prop} {E1 E2 : Value → Shared → Prop} (LT : PySem.W.Looks (model X.prog X.w) s.heap (typeOf (.ref e)) cls)
    (c : Cls X t cs) (hb : PySem.W.exmAny X.K cls cs = some b) (q1 : Q b s) (q2 : ∀ o, Q b { s with heap := s.heap.push o }) : wpAny (model X.prog X.w) X.A (eval t X.env) (fun v s₁ => wpAny (model X.prog X.w) X.A (excMatches (.ref e) v) Q E2 s₁) E1 s := by
  cases c with
  | one nm =>
    obtain ⟨b1, d1, h1, h2, rfl⟩ := PySem.W.exmAny_cons hb
    have h3 : some false = some d1 := h2
    cases h3
    have L := PySem.W.exm_one (M := model X.prog X.w) I.kIn LT h1
    rw [Bool.or_false] at q1
    obtain ⟨g, db, z | ⟨z, bv, nn⟩⟩ := nm
    · exact ld_glob I g z (L.here q1) db
    · exact ld_blt I g z bv (L.here q1) nn db
  | tup nms hl =>
    refine wpAny_Tuple_spliced (names_run I nms ⟨Nat.le_of_lt (small1000 hl), ?_⟩)
    obtain ⟨hp, g, d, tk, os⟩ := s
    have k : ∀ b u, hp.get? b = some u → (hp.push { cls := .type "tuple", data := .seq cs.toArray }).get? b = some u := fun b u z => Heap.get?_push_of_some _ z
    have L := exm_any (M := model X.prog X.w) (I.kIn.keeps k) (LT.keeps k) (Heap.get?_push_size hp rfl) hb
    exact L.here (q2 _)
variable {body : List Stmt} {h₀ : ExceptHandler} {hds : List ExceptHandler} {l : List HC} {pos : Pos} {tb : WX → TS} {Wout : WX}
theorem ps_tryA (hs : X.stack = X.env :: X.outer) (hf : X.env.frame = some X.env.locals) (hN : X.N.Nodup) (tk : Takes X Wout)
    (hb : ∀ (W : WX) (pn : List (Addr × Obj)) (xe : Value → Shared → Prop), Takes (X.tr pn xe) W → PassesOwn (model X.prog X.w) X.A X.env xe → PSs (X.tr pn xe) body (tb W)) (hh : Hds X (h₀ :: hds) l) : PS X (.Try body (h₀ :: hds) [] [] pos) (fun D σ H => tb (wAny X.K Wout D l) D σ H) := by
  refine ⟨fun pins s σ H D I h => wpAny_Try_except ?_⟩
  have ok := I.ok
  have frames : X.A.frames = some (X.env :: X.outer) := by rw [ok.frames, hs]
  refine wpAny_mono ((hb (wAny X.K Wout D l) (X.pn ++ pins) _ (fun u s' air => ?_) PassesOwn.looking).run [] s σ H D (I.toTry _) h) (fun f s1 z => ?_) (fun e s1 z => z)
  · obtain ⟨a, B, sI, pins', σ', H', cls, d, rfl, J', gr, up, sky, na, os, ag, w⟩ := air
    have J : Inv X pins σ' H' sI := J'.ofTry ok
    have sky2 : Sky B (X.env :: X.outer) a (Zc cls d) X.env.locals s'.heap := by rw [← hs]; exact sky
    show wpAny _ _ (noteFrame (.ref a) X.env) _ _ _
    refine Sky.land Zc.steady frames hf sky2 fun h3 fl3 up3 => ?_
    have suiteAt : ∀ {h : Heap} {tk' : Nat}, HandSPX.FlyingZ B (X.env :: X.outer) a (Zc cls d) h → sI.heap.UpToSlots h → ∃ oe, (∃ vs, oe.data = .fields vs) ∧ Zc cls d oe ∧ h.get? a = some oe ∧ Inv (X.suite a ((a, oe) :: (X.pn ++ pins))) [] σ' H' { s' with heap := h } := by
      intro h tk' fl upS
      obtain ⟨oe, vs, e1, e2, e3⟩ := fl.there
      have nfr : a ∉ frs (X.env :: X.outer) := fun m => by
        obtain ⟨_, o, e4, nf⟩ := fl.2.2.1.mem m
        rw [e1] at e4
        cases e4
        exact nf vs e3
      have nL : a ≠ X.env.locals := fun z => nfr (List.mem_filterMap.mpr ⟨X.env, List.mem_cons_self, by rw [hf, z]⟩)
      have nF : a ∉ X.fs := fun m => (List.mem_filterMap.mp m).elim fun e z => nfr (List.mem_filterMap.mpr ⟨e, List.mem_cons_of_mem _ z.1, z.2⟩)
      exact ⟨oe, ⟨vs, e3⟩, e2, e1, (J.landed (s' := { s' with heap := h }) gr fl.1 upS os ag).suite e1 e3 na nL nF⟩
    have go : ∀ {hs2 : List ExceptHandler} {l2 : List HC}, Hds X hs2 l2 → wAny X.K Wout D l2 cls d σ' H' → ∀ h, HandSPX.FlyingZ B (X.env :: X.outer) a (Zc cls d) h → sI.heap.UpToSlots h → wpAny (model X.prog X.w) X.A (handleBy (.ref a) X.env hs2) (SP X pins D) X.xe { s' with heap := h } := by
      intro hs2 l2 hk
      induction hk with
      | nil =>
        intro w h fl upS
        refine wpAny_handleBy_nil ?_
        obtain ⟨k1, k2, k3, oe, vs, T, oT, ts', he, hz, hd, h1, hr⟩ := id fl
        unfold PySem.passOn
        refine wpAny_bind (wpAny_field he hd h1 ?_)
        rw [if_neg (show ¬ ((Value.ref T == Value.none) = true) by simp)]
        have out : wpAny (model X.prog X.w) X.A (setFlight (.ref a) X.env.frame) (fun _ s4 => wpAny (model X.prog X.w) X.A (throw (.ref a) : Sem Flow) (SP X pins D) X.xe s4) X.xe { s' with heap := h } := by
          rw [hf]
          exact HandSPX.setFlight_upZ fl fun h4 hh4 up4 => wpAny_throw (tk _ _ ⟨a, B, sI, pins, σ', H', cls, d, rfl, J, gr, upS.trans up4, .inr (.inr (by rw [hs]; exact hh4)), na, os, ag, w⟩)
        first
          | exact wpAny_bind (wpAny_pure (wpAny_bind out))
          | exact wpAny_bind out
      | @cons t cs nm sl ts b₀ suite pos' hds2 l3 ht hn hsu r ih =>
        intro w h fl upS
        obtain ⟨b, hb1, yes, no⟩ := w
        obtain ⟨oe, hfl, hz, he, S⟩ := suiteAt (tk' := 0) fl upS
        have LT : PySem.W.Looks (model X.prog X.w) h (typeOf (.ref a)) cls := fun A Q E s k q => wpAny_typeOf_ref (k _ _ he) (by rw [hz.1]; exact q)
        have htS : Cls (X.suite a ((a, oe) :: (X.pn ++ pins))) t cs := by
          have nmS : ∀ {es : List Expr} {cs : List Value}, NamesAll X es cs → NamesAll (X.suite a ((a, oe) :: (X.pn ++ pins))) es cs := by
            intro es cs z
            induction z with
            | nil => exact .nil
            | cons n r ih => exact .cons n ih
          cases ht with
          | one n => exact .one n
          | tup n z => exact .tup (nmS n) z
        refine wpAny_handleBy_cons (codeAny_handlers_test ?_) (by intro q; cases q)
        have next : ∀ h2, HandSPX.FlyingZ B (X.env :: X.outer) a (Zc cls d) h2 → sI.heap.UpToSlots h2 →
            (match (Except.ok (if b then Flow.brk else Flow.next) : Result) with
              | .ok .brk => codeAny (model X.prog X.w) (X.A.mark (some (.ref a))) (.handlers (.ref a) [.ExceptHandler none nm (b₀ :: suite) pos'] X.env) (fun r s₂ => match (generalizing := false) r with
                  | .ok f => (match (generalizing := false) nm with
                    | none => SP X pins D f s₂
                    | some n => wpAny (model X.prog X.w) X.A (do bindName X.env n .none; unbindBehindTheSuite X.env n pos') (fun _ s₃ => SP X pins D f s₃) X.xe s₂)
                  | .error x => cameBackBy (model X.prog X.w) X.A X.env X.xe x s₂) { s' with heap := h2 }
              | .ok _ => wpAny (model X.prog X.w) X.A (handleBy (.ref a) X.env hds2) (SP X pins D) X.xe { s' with heap := h2 }
              | .error x => cameBackBy (model X.prog X.w) X.A X.env X.xe x { s' with heap := h2 }) := by
          intro h2 fl2 up2
          cases b with
          | false => exact ih (no rfl) h2 fl2 up2
          | true =>
            rcases hn with ⟨rfl, rfl⟩ | ⟨n, i, rfl, rfl, hi, hl⟩
            · refine codeAny_handlers_suite (HandSPX.lands_againZ fl2 fun h4 fl4 up4 => ?_)
              obtain ⟨oe4, f4, z4, e4, S4⟩ := suiteAt (tk' := 0) fl4 (up2.trans up4)
              refine wpAny_mono ((hsu a oe4 cls d (X.pn ++ pins) z4 f4).run [] _ _ H' _ S4 (yes rfl a na)) (fun f s6 z => ?_) (fun _ _ z => z.elim)
              cases f with
              | next => exact z.elim fun σ6 z => z.elim fun H6 z => ⟨σ6, H6, z.1.unsuite ok, z.2⟩
              | brk => exact z.elim fun σ6 z => z.elim fun H6 z => ⟨σ6, H6, z.1.unsuite ok, z.2⟩
              | cont => exact z.elim fun σ6 z => z.elim fun H6 z => ⟨σ6, H6, z.1.unsuite ok, z.2⟩
              | ret u => obtain ⟨v6, σ6, H6, S6, r6, q6⟩ := z; exact ⟨v6, σ6, H6, S6.unsuite ok, r6, q6⟩
            · refine codeAny_handlers_suite_as (HandSPX.lands_againZ fl2 fun h4 fl4 up4 => ?_)
              obtain ⟨oe4, f4, z4, e4, S4⟩ := suiteAt (tk' := 0) fl4 (up2.trans up4)
              refine store_ok (X := X.suite a ((a, oe4) :: (X.pn ++ pins))) (v := .ref a) S4 hN hi (.inl hl) rfl (fun s5 S5 => ?_) (.inr hl)
              refine wpAny_mono ((hsu a oe4 cls d (X.pn ++ pins) z4 f4).run [] s5 _ H' _ S5 (yes rfl a na)) (fun f s6 z => ?_) (fun _ _ z => z.elim)
              cases f with
              | next => obtain ⟨σ6, H6, S6, q6⟩ := z; exact gone_ok (S6.unsuite ok) hN hi hl fun s7 J7 => ⟨_, _, J7, q6⟩
              | brk => obtain ⟨σ6, H6, S6, q6⟩ := z; exact gone_ok (S6.unsuite ok) hN hi hl fun s7 J7 => ⟨_, _, J7, q6⟩
              | cont => obtain ⟨σ6, H6, S6, q6⟩ := z; exact gone_ok (S6.unsuite ok) hN hi hl fun s7 J7 => ⟨_, _, J7, q6⟩
              | ret u => obtain ⟨v6, σ6, H6, S6, r6, q6⟩ := z; exact gone_ok (S6.unsuite ok) hN hi hl fun s7 J7 => ⟨_, _, _, J7, r6, q6⟩
        exact cls_run S LT htS hb1 (next h fl upS) fun o => next _ (flying_push fl) (upS.trans (Heap.UpToSlots.of_keeps fun b u z => Heap.get?_push_of_some _ z))
    exact go hh w h3 fl3 (up.trans up3)
  · cases f with
    | next => exact z.elim fun σ' z => z.elim fun H' z => wpAny_execs_nil ⟨σ', H', z.1.ofTry ok, z.2⟩
    | brk => exact z.elim fun σ' z => z.elim fun H' z => ⟨σ', H', z.1.ofTry ok, z.2⟩
    | cont => exact z.elim fun σ' z => z.elim fun H' z => ⟨σ', H', z.1.ofTry ok, z.2⟩
    | ret u => obtain ⟨v, σ', H', J', r, q⟩ := z; exact ⟨v, σ', H', J'.ofTry ok, r, q⟩
end
end K0

/-! ### E2 -/
set_option Elab.async false
set_option linter.all false
set_option maxRecDepth 100000
set_option maxHeartbeats 4000000
/-! Exceptions of own classes as values: at e an instance of the class at C, its dict at d; isinstance of it, tracked or pinned. -/
namespace K0
open PySem PySem.Spec PyProof.Rows L2
structure XF (K : PySem.W.Frag) (C : Addr) : Prop where
  hcl : (PySem.W.clsIn K C).isSome = true
  hga : PySem.W.findIn K (.ref C) "__getattribute__" = some (some (.builtin "BaseException.__getattribute__"))
  hgt : PySem.W.findIn K (.ref C) "__getattr__" = some none
  hsub : PySem.W.subIn K (.ref C) (.type "BaseException") = some true
  ha : PySem.W.findIn K (.ref C) "__class__" = some (some (.builtin "object.__class__"))
  hm : PySem.W.mroIn K C (.type "object") = some true
  hd : PySem.W.hasDictIn K C = true
  ty : PySem.W.typeIn K (.ref C) = some (.type "type")
  kp : PySem.W.keepIn K (.ref C) = true
  hn : PySem.W.specialIn K (.builtin "object.__class__") "__get__" = some (some (.builtin "getset_descriptor.__get__"))
  htk : PySem.W.takesIn K (.builtin "object.__class__") = some true
def xfB (K : PySem.W.Frag) (C : Addr) : Bool :=
  (PySem.W.clsIn K C).isSome && (decide (PySem.W.findIn K (.ref C) "__getattribute__" = some (some (.builtin "BaseException.__getattribute__"))) && (decide (PySem.W.findIn K (.ref C) "__getattr__" = some none) &&
  (decide (PySem.W.subIn K (.ref C) (.type "BaseException") = some true) && (decide (PySem.W.findIn K (.ref C) "__class__" = some (some (.builtin "object.__class__"))) && (decide (PySem.W.mroIn K C (.type "object") = some true) &&
  (PySem.W.hasDictIn K C && (decide (PySem.W.typeIn K (.ref C) = some (.type "type")) && (PySem.W.keepIn K (.ref C) && (decide (PySem.W.specialIn K (.builtin "object.__class__") "__get__" = some (some (.builtin "getset_descriptor.__get__"))) &&
  decide (PySem.W.takesIn K (.builtin "object.__class__") = some true))))))))))
theorem xfB_ok {K : PySem.W.Frag} {C : Addr} (h : xfB K C = true) : XF K C := by
  unfold xfB at h
  simp only [Bool.and_eq_true, decide_eq_true_eq] at h
  obtain ⟨h1, h2, h3, h4, h5, h6, h7, h8, h9, h10, h11⟩ := h
  exact ⟨h1, h2, h3, h4, h5, h6, h7, h8, h9, h10, h11⟩
/-- the exception's dict stands tracked -/
def DictAt (H : Hp) (d : Option Addr) : Prop := ∀ dd, d = some dd → ∃ fs, H dd = some (exd dd fs)
def ExAt (H : Hp) (e C : Addr) (d : Option Addr) : Prop := H e = some (exo e C d) ∧ DictAt H d
theorem DictAt.same {H H' : Hp} {d : Option Addr} (h : DictAt H d) (s : Same H H') : DictAt H' d := fun dd z => (h dd z).elim fun fs y => ⟨fs, s _ _ y⟩
theorem ExAt.same {H H' : Hp} {e C : Addr} {d : Option Addr} (h : ExAt H e C d) (s : Same H H') : ExAt H' e C d := ⟨s _ _ h.1, h.2.same s⟩
section
variable {X : Cx} {pins : List (Addr × Obj)} {σ : L2.St} {H : Hp} {s : Shared}
theorem inst_at (I : Inv X pins σ H s) {e C : Addr} {d : Option Addr} {vs : Array Value} (he : s.heap.get? e = some ({ cls := .ref C, dict := d, data := .fields vs } : Obj)) (hd : DictAt H d) : ∃ od, PySem.W.InstAt s.heap e { cls := .ref C, dict := d, data := .fields vs } C od := by
  cases d with
  | none => exact ⟨none, he, rfl, rfl, trivial⟩
  | some dd =>
    obtain ⟨fs, z⟩ := hd dd rfl
    obtain ⟨mA, ⟨o, es, ep, ho, hr⟩, _⟩ := exd_at I.hok z
    exact ⟨some o, he, rfl, rfl, ho⟩
theorem kit_at {K : PySem.W.Frag} {C x : Addr} {ox : Obj} {od : Option Obj} (f : XF K C) : PySem.W.KitX K (.ref x) (.ref C) (fun h => PySem.W.InstAt h x ox C od) := PySem.W.kitx_exc f.hcl f.hga f.hgt f.hsub f.ha f.hn f.htk f.hm
/-- isinstance(e, c), e tracked -/
def rIsX (K : PySem.W.Frag) : List V → Hp → VK → Prop := fun xs H Q => ∃ (e C : Addr) (d : Option Addr) (c : V) (cv : Value) (b : Bool), xs = [.ref e, c] ∧ ExAt H e C d ∧ XF K C ∧ (∀ u, RelV c u → u = cv) ∧ PySem.W.kitOne K (.ref C) cv = some b ∧ Q (.bl b) H
theorem call_isX : CallR X (.builtin "isinstance") (rIsX X.K) := by
  intro pins s σ H xs us Q I r h
  obtain ⟨e, C, d, c, cv, b, rfl, hE, f, uc, hk, q⟩ := h
  obtain ⟨u, w', rfl, ru, rw'⟩ := vals2 r
  cases ru
  have ec := uc _ rw'
  subst ec
  obtain ⟨t1, ho⟩ := exo_at I.hok hE.1
  obtain ⟨od, J⟩ := inst_at I ho hE.2
  exact PySem.W.kia_one (kit_at f) I.kIn J hk (fun z => nomatch z) fun tk => ⟨.bl b, H, I.kept (t' := tk) fun _ _ z => z, rfl, q⟩
/-- .. e pinned -/
def rIsP (K : PySem.W.Frag) (p : Addr × Obj) : List V → Hp → VK → Prop := fun xs H Q => ∃ (C : Addr) (d : Option Addr) (c : V) (cv : Value) (b : Bool), xs = [.ref p.1, c] ∧ Zc (.ref C) d p.2 ∧ (∃ vs, p.2.data = .fields vs) ∧ DictAt H d ∧ XF K C ∧ (∀ u, RelV c u → u = cv) ∧ PySem.W.kitOne K (.ref C) cv = some b ∧ Q (.bl b) H
theorem call_isP {p : Addr × Obj} (hp : p ∈ X.pn) : CallR X (.builtin "isinstance") (rIsP X.K p) := by
  intro pins s σ H xs us Q I r h
  obtain ⟨C, d, c, cv, b, rfl, hz, ⟨vs, hv⟩, hD, f, uc, hk, q⟩ := h
  obtain ⟨u, w', rfl, ru, rw'⟩ := vals2 r
  cases ru
  have ec := uc _ rw'
  subst ec
  obtain ⟨ho, _⟩ := I.pin p (List.mem_append_left _ hp)
  obtain ⟨a, oe⟩ := p
  have J : ∃ od, PySem.W.InstAt s.heap a oe C od := by
    obtain ⟨h1, h2⟩ := hz
    dsimp only at h1 h2 hv ho
    cases d with
    | none => exact ⟨none, ho, h1, by unfold PySem.W.notCls; rw [hv] <;> rfl, by rw [h2] <;> trivial⟩
    | some dd =>
      obtain ⟨fs, z⟩ := hD dd rfl
      obtain ⟨mA, ⟨o, es, ep, hod, hr⟩, _⟩ := exd_at I.hok z
      exact ⟨some o, ho, h1, by unfold PySem.W.notCls; rw [hv] <;> rfl, by rw [h2]; exact hod⟩
  obtain ⟨od, J⟩ := J
  exact PySem.W.kia_one (kit_at f) I.kIn J hk (fun z => nomatch z) fun tk => ⟨.bl b, H, I.kept (t' := tk) fun _ _ z => z, rfl, q⟩
end
/-- bools in a row, while PH holds -/
def EBs (PH : Hp → Prop) (σ : L2.St) (ta : TA) (bs : List Bool) : Prop := ∀ H Q, PH H → Q (bs.map V.bl) H → ta σ H Q
def EB (PH : Hp → Prop) (σ : L2.St) (te : TE) (b : Bool) : Prop := ∀ H Q, PH H → Q (.bl b) H → te σ H Q
theorem ebs_nil {PH : Hp → Prop} {σ : L2.St} : EBs PH σ tNil [] := fun H Q _ q => q
theorem ebs_cons {PH : Hp → Prop} {σ : L2.St} {te : TE} {ta : TA} {b : Bool} {bs : List Bool} (h : EB PH σ te b) (g : EBs PH σ ta bs) : EBs PH σ (tCons te ta) (b :: bs) := fun H Q p q => h H _ p (g H _ p q)
theorem rd_bl {PH : Hp → Prop} {σ : L2.St} {ta : TA} {bs : List Bool} {H : Hp} {Q : VK} (g : EBs PH σ ta bs) (p : PH H) (hl : bs.length ≤ 1000) (k : ∀ l, H l = none → Q (.ref l) (upd H l (.lst (bs.map V.bl)))) : tLst ta σ H Q :=
  g H _ p ⟨by rw [List.length_map]; exact Nat.le_of_lt (small1000 hl), k⟩
end K0

/-! ### E3 -/
set_option Elab.async false
set_option linter.all false
set_option maxRecDepth 100000
set_option maxHeartbeats 4000000
/-! Defs that are called within an except suite and get the exception: FnE. -/
namespace K0
open PySem PySem.Spec PyProof.Rows L2
structure FnE (P : Program) (w : World) (K : PySem.W.Frag) (mg : Str → Option Value) (base : Heap) (CX : CXT) (k : Nat) (f : Addr) (fd : FuncData) (ps : List Str) (sp : Addr × Obj → Sp) : Prop where
  many : ∀ p vs H Q E, sp p vs H Q E → vs.length = ps.length
  go : ∀ (A : Around) (outer : List Env) (s : Shared) (H : Hp) (args : Args) (us : List Value) (vs : List V) (Q : VK) (E : XK) (p : Addr × Obj), L2H.RoomH k A → L2H.PinOk outer H s p → Env0 P w K mg base A outer s H → BindsTo s fd args (ps.zip us) → Vals vs us → sp p vs H Q E → codeAny (model P w) A (.call (.ref f) args) (CR CX outer P w H s Q E) s
section
variable {P : Program} {w : World} {K : PySem.W.Frag} {mg : Str → Option Value} {base : Heap} {CX : CXT} {k : Nat} {f : Addr} {fd : FuncData}
theorem fnE_of {x qual : Str} {params : Arguments} {body : List Stmt} {scope : Scope} {dvs : List V} {kws : List (Str × V)} {N ps : List Str} {sp : Addr × Obj → Sp} (F : FunD K x qual params body scope dvs kws f fd) (S : FnScope N ps scope) (many : ∀ p vs H Q E, sp p vs H Q E → vs.length = ps.length)
    (hb : ∀ (cdv : Value) (A : Around) (outer : List Env) (s : Shared) (H : Hp) (vs : List V) (Q : VK) (E : XK) (p : Addr × Obj), L2H.RoomH k (A.deeper (envOfC qual scope s.heap.objs.size f cdv)) → sp p vs H Q E →
      ∃ t, PSs (L2H.cxH CX P w K mg base N qual scope f cdv A outer s H E p) body t ∧ t { nx := fun _ H' => Q .non H', rt := Q } (L2.start N vs) H) : FnE P w K mg base CX (k + 1) f fd ps sp := by
  obtain ⟨oc, od, dV, kV, doc, pm, an, cdv, ct, osl, rfl, lk, code, _, _⟩ := F.ex
  refine ⟨many, fun A outer s H args us vs Q E p room pin e0 bd rel prom => ?_⟩
  have size := many _ _ _ _ _ prom
  have KX : K.In s.heap := e0.mod.kin.keeps fun b o z => (e0.bs b o z).1
  have lim : s.heap.NoLimit := e0.mod.nolimit.keeps fun b o z => (e0.bs b o z).1
  have kinds : ∀ y ∈ ps.zip us, scope.names.lookup y.1 = some .local ∨ (scope.names.lookup y.1 = some .cell ∧ ((cellsFrom (s.heap.objs.size + 1) scope.names []).lookup y.1).isSome = true) := fun ⟨n, v⟩ hy => (S.par n (List.of_mem_zip hy).1).elim .inl fun z => .inr ⟨z, PySem.W.cellsFrom_some _ _ _ (.inl z)⟩
  refine codeAny_call_function room.depth (KX _ _ lk) rfl S.co S.gen rfl (PySem.W.codeRec_of KX code) (bd _ _ _ _ (wpAny_newFunctionEnv_cells S.kind kinds fun env he s1 y => ?_))
  subst he
  obtain ⟨t, pf, rd⟩ := hb cdv A outer s H vs Q E p (room.deeper _) prom
  refine ⟨lim.keeps y.toInCall.keep, codeAny_func (wpAny_mono (pf.run [] s1 _ H _ (L2H.inv_startH S pin e0 size rel y) rd) (fun fl s' z => ?_) fun e s' z => z)⟩
  cases fl with
  | ret u => obtain ⟨v, σ', H', J, rv, q⟩ := z; exact ⟨v, H', J.os, J.bare, J.base, J.hok, rv, q⟩
  | next => obtain ⟨σ', H', J, q⟩ := z; exact ⟨V.non, H', J.os, J.bare, J.base, J.hok, rfl, q⟩
  | brk => exact z.elim fun _ z => z.elim fun _ z => z.2.elim
  | cont => exact z.elim fun _ z => z.elim fun _ z => z.2.elim
end
section
variable {X : Cx} {CX : CXT} {k : Nat} {f : Addr} {fd : FuncData} {ps : List Str} {sp : Addr × Obj → Sp} {x : Str} {p pos : Pos} {e : Expr} {es : List Expr} {t : TA} {E : XK} {pin : Addr × Obj}
theorem peE (F : FnE X.prog X.w X.K X.mg X.base CX k f fd ps sp) (hp : pin ∈ X.pn) (room : L2H.RoomH k X.A) (hg : Gl X x) (hm : X.mg x = some (.ref f)) (kp : PySem.W.keepIn X.K (.ref f) = true) (bd : Binds X.K fd ps []) (ps' : Passes CX X E) (ha : PA X (e :: es) t)
    (hdb : (x == ("__debug__" : Str)) = false := by decide) (he : starEach (e :: es) X.env = (false, eval e X.env) :: starEach es X.env := by rfl) (hpl : (backTo pos (starEach es X.env)).any (·.1) = false := by rfl) : PE X (.Call (.Name x p) (e :: es) [] pos) (tCall (sp pin) [] E t) :=
  ⟨fun pins s σ H Q I h => wpAny_Call_Name_kw (ld_glob I hg hm (PySem.W.callWith_K (h₀ := X.base) I.ok.mod.kin kp (thn (ha.run pos pins s σ H _ I h) fun us s1 ⟨vs, H1, I1, r, q⟩ => ⟨I1.kIn, by
    have q : sp pin (vs ++ []) H1 Q E := q
    rw [List.append_nil] at q
    have size : (us ++ []).length = ps.length := by rw [List.append_nil, ← r.length]; exact F.many _ _ _ _ _ q
    have bd2 := bd s1 us I1.kIn size
    rw [List.append_nil] at bd2
    have P1 := I1.pin pin (List.mem_append_left _ hp)
    have ok : L2H.PinOk X.stack H1 s1 pin := ⟨P1.1, P1.2.1, fun m => (List.mem_cons.mp (I1.stkSub pin.1 m)).elim P1.2.2.1 P1.2.2.2.1, P1.2.2.2.2⟩
    refine wpAny_call (codeAny_mono (F.go X.A X.stack s1 H1 ⟨us, []⟩ us vs Q E pin room ok I1.env0 bd2 r q) fun res s' z => ?_)
    rcases res with err | fl
    · exact ps' pins σ H1 s1 err s' I1 z
    · cases fl with
      | ret u => exact I1.after z
      | next => exact z.elim
      | brk => exact z.elim
      | cont => exact z.elim⟩) he hpl) hdb)⟩
end
end K0

/-! ### K1 -/
set_option Elab.async false
set_option linter.all false
set_option maxRecDepth 100000
set_option maxHeartbeats 4000000
namespace K0
open PySem PySem.Spec PyProof.Rows L2
structure CG (mg : Str → Option Value) (C : Nat → Addr) : Prop where
  g0 : mg "DressError" = some (.ref (C 0))
  g1 : mg "InvalidText" = some (.ref (C 1))
  g2 : mg "InvalidHole" = some (.ref (C 2))
  g3 : mg "InvalidDress" = some (.ref (C 3))
  g4 : mg "InvalidCleaner" = some (.ref (C 4))
  g5 : mg "InvalidRoad" = some (.ref (C 5))
  g6 : mg "InvalidStanding" = some (.ref (C 6))
  g7 : mg "InvalidLines" = some (.ref (C 7))
  g8 : mg "InvalidOperation" = some (.ref (C 8))
  g9 : mg "ParseError" = some (.ref (C 9))
  g10 : mg "InvalidNumber" = some (.ref (C 10))
  g11 : mg "UnknownName" = some (.ref (C 11))
  g12 : mg "InvalidFilling" = some (.ref (C 12))
  g13 : mg "NothingToUndo" = some (.ref (C 13))
  g14 : mg "Refused" = some (.ref (C 14))
  g15 : mg "TooMany" = some (.ref (C 15))
  b0 : mg "ValueError" = none
  b1 : mg "KeyError" = none
  b2 : mg "IndexError" = none
  b3 : mg "LookupError" = none
  b4 : mg "ArithmeticError" = none
  b5 : mg "OverflowError" = none
  b6 : mg "RuntimeError" = none
  isi : mg "isinstance" = none
def isK (i j : Nat) : Bool := decide (i = j) || (decide (i = 0) && decide (j < 10))
def bnm (t : Nat) : String := (["ValueError", "KeyError", "IndexError", "LookupError", "ArithmeticError", "OverflowError", "RuntimeError"] : List String).getD t ""
def basL (j : Nat) : List Bool := match j with
  | 10 => [false, false, true, true, false, false, false]
  | 11 => [false, true, false, true, false, false, false]
  | 12 => [false, false, false, true, false, false, false]
  | 13 => [false, false, false, true, false, false, false]
  | 14 => [false, false, false, false, true, false, false]
  | 15 => [false, false, false, false, true, true, false]
  | _ => [true, false, false, false, false, false, false]
def isB (t j : Nat) : Bool := (basL j).getD t false
def kinL (j : Nat) : List Bool := [isK 0 j, isK 1 j, isK 2 j, isK 3 j, isK 4 j, isK 5 j, isK 6 j, isK 7 j, isK 8 j, isK 9 j, isK 10 j, isK 11 j, isK 12 j, isK 13 j, isK 14 j, isK 15 j]
/-- what the classes are to one another and to the built-in ones -/
structure CK (K : PySem.W.Frag) (C : Nat → Addr) : Prop where
  xf : ∀ j, j < 16 → XF K (C j)
  kk : ∀ i j, i < 16 → j < 16 → PySem.W.kitOne K (.ref (C j)) (.ref (C i)) = some (isK i j)
  kb : ∀ t j, t < 7 → j < 16 → PySem.W.kitOne K (.ref (C j)) (.type (bnm t)) = some (isB t j)
theorem rd_cat {PH : Hp → Prop} {σ : L2.St} {i : Nat} {ta : TA} {as bs : List Bool} {H : Hp} {Q : VK} {l : Addr} (g : EBs PH σ ta bs) (hσ : σ[i]? = some (some (.ref l))) (hl : H l = some (.lst (as.map V.bl))) (p : PH H) (st : ∀ H q o, H q = none → PH H → PH (upd H q o)) (sz : as.length + bs.length ≤ 1000)
    (k : ∀ H' l', Same H H' → PH H' → H' l' = some (.lst ((as ++ bs).map V.bl)) → Q (.ref l') H') : tOp rCat (tVar i) (tLst ta) σ H Q :=
  ⟨_, hσ, rd_bl g p (by omega) fun l2 n2 => ⟨l, l2, _, _, rfl, rfl, same_upd n2 _ _ hl, upd_same, by rw [List.length_map, List.length_map]; exact Nat.le_of_lt (small1000 sz), fun l3 n3 =>
    k _ _ ((same_upd n2).trans (same_upd n3)) (st _ _ _ n3 (st _ _ _ n2 p)) (by rw [upd_same, List.map_append])⟩⟩
theorem scKinds : FnScope ["e", "found"] ["e"] (defScope (top 25)) := ⟨rfl, rfl, rfl, by decide +kernel, rfl, by decide +kernel, by decide +kernel⟩
theorem scBases : FnScope ["e", "found"] ["e"] (defScope (top 26)) := ⟨rfl, rfl, rfl, by decide +kernel, rfl, by decide +kernel, by decide +kernel⟩
def spKinds (C : Nat → Addr) : Sp := fun vs H Q _ => ∃ (e : Addr) (j : Nat) (d : Option Addr), vs = [.ref e] ∧ j < 16 ∧ ExAt H e (C j) d ∧ ∀ H' l, Same H H' → H' l = some (.lst ((kinL j).map V.bl)) → Q (.ref l) H'
def spBases (C : Nat → Addr) : Sp := fun vs H Q _ => ∃ (e : Addr) (j : Nat) (d : Option Addr), vs = [.ref e] ∧ j < 16 ∧ ExAt H e (C j) d ∧ ∀ H' l, Same H H' → H' l = some (.lst ((basL j).map V.bl)) → Q (.ref l) H'
def spKindsE (C : Nat → Addr) (p : Addr × Obj) : Sp := fun vs H Q _ => ∃ (j : Nat) (d : Option Addr), vs = [.ref p.1] ∧ j < 16 ∧ Zc (.ref (C j)) d p.2 ∧ (∃ us, p.2.data = .fields us) ∧ DictAt H d ∧ ∀ H' l, Same H H' → H' l = some (.lst ((kinL j).map V.bl)) → Q (.ref l) H'
theorem basL_eq : ∀ j, j < 16 → basL j = [isB 0 j, isB 1 j, isB 2 j, isB 3 j, isB 4 j, isB 5 j, isB 6 j] := by decide
section
variable {P : Program} {w : World} {K : PySem.W.Frag} {mg : Str → Option Value} {base : Heap} {f : Addr} {fd : FuncData} {C : Nat → Addr}
theorem eb_isX {e : Addr} {j : Nat} {d : Option Addr} {c : V} {cv : Value} {b : Bool} {σ : L2.St} {tc : TE} (hσ : σ[0]? = some (some (.ref e))) (f : XF K (C j)) (hc : ∀ H Q, Q c H → tc σ H Q) (u : ∀ u, RelV c u → u = cv) (kt : PySem.W.kitOne K (.ref (C j)) cv = some b) :
    EB (fun H => ExAt H e (C j) d) σ (tCB (rIsX K) (tCons (tVar 0) (tCons tc tNil))) b := fun H Q z q => ⟨_, hσ, hc H _ ⟨e, C j, d, c, cv, b, rfl, z, f, u, kt, q⟩⟩
theorem eb_isP {p : Addr × Obj} {j : Nat} {d : Option Addr} {c : V} {cv : Value} {b : Bool} {σ : L2.St} {tc : TE} (hσ : σ[0]? = some (some (.ref p.1))) (f : XF K (C j)) (hz : Zc (.ref (C j)) d p.2) (hv : ∃ us, p.2.data = .fields us) (hc : ∀ H Q, Q c H → tc σ H Q) (u : ∀ u, RelV c u → u = cv) (kt : PySem.W.kitOne K (.ref (C j)) cv = some b) :
    EB (fun H => DictAt H d) σ (tCB (rIsP K p) (tCons (tVar 0) (tCons tc tNil))) b := fun H Q z q => ⟨_, hσ, hc H _ ⟨C j, d, c, cv, b, rfl, hz, hv, z, f, u, kt, q⟩⟩
theorem ok_kinds {k : Nat} (F : FnP K "_law_kinds" 25 f fd) (T : CG mg C) (U : CK K C) : FnOk P w K mg base CX0 (k + 1) f fd ["e"] (spKinds C) := by
  refine F.ok scKinds (fun vs H Q E h => ?_) (fun cdv A outer s H vs Q E hr h => ?_)
  · obtain ⟨e, j, d, rfl, _⟩ := h
    rfl
  · obtain ⟨e, j, d, rfl, hj, hE, q⟩ := h
    let PH : Hp → Prop := fun H => ExAt H e (C j) d
    have st : ∀ H q o, H q = none → PH H → PH (upd H q o) := fun H q o n z => ExAt.same z (same_upd n)
    have h0 : PH H := hE
    refine ⟨_, PSs.nox (pss_cons (ps_set (i := 1) scKinds.nd rfl (.inl rfl) (pe_lst (pa_cons (pe_callB call_isX (by rfl) T.isi boot_isinstance (pa_cons (pv 0) (pa_cons (pe_glob (v := .ref (C 0)) (by rfl) T.g0 rfl) pa_nil))) (pa_cons (pe_callB call_isX (by rfl) T.isi boot_isinstance (pa_cons (pv 0) (pa_cons (pe_glob (v := .ref (C 1)) (by rfl) T.g1 rfl) pa_nil))) (pa_cons (pe_callB call_isX (by rfl) T.isi boot_isinstance (pa_cons (pv 0) (pa_cons (pe_glob (v := .ref (C 2)) (by rfl) T.g2 rfl) pa_nil))) pa_nil)))))
      (pss_cons (ps_set (i := 1) scKinds.nd rfl (.inl rfl) (pe_op op_cat (pv 1) (pe_lst (pa_cons (pe_callB call_isX (by rfl) T.isi boot_isinstance (pa_cons (pv 0) (pa_cons (pe_glob (v := .ref (C 3)) (by rfl) T.g3 rfl) pa_nil))) (pa_cons (pe_callB call_isX (by rfl) T.isi boot_isinstance (pa_cons (pv 0) (pa_cons (pe_glob (v := .ref (C 4)) (by rfl) T.g4 rfl) pa_nil))) (pa_cons (pe_callB call_isX (by rfl) T.isi boot_isinstance (pa_cons (pv 0) (pa_cons (pe_glob (v := .ref (C 5)) (by rfl) T.g5 rfl) pa_nil))) pa_nil))))))
      (pss_cons (ps_set (i := 1) scKinds.nd rfl (.inl rfl) (pe_op op_cat (pv 1) (pe_lst (pa_cons (pe_callB call_isX (by rfl) T.isi boot_isinstance (pa_cons (pv 0) (pa_cons (pe_glob (v := .ref (C 6)) (by rfl) T.g6 rfl) pa_nil))) (pa_cons (pe_callB call_isX (by rfl) T.isi boot_isinstance (pa_cons (pv 0) (pa_cons (pe_glob (v := .ref (C 7)) (by rfl) T.g7 rfl) pa_nil))) (pa_cons (pe_callB call_isX (by rfl) T.isi boot_isinstance (pa_cons (pv 0) (pa_cons (pe_glob (v := .ref (C 8)) (by rfl) T.g8 rfl) pa_nil))) pa_nil))))))
      (pss_cons (ps_set (i := 1) scKinds.nd rfl (.inl rfl) (pe_op op_cat (pv 1) (pe_lst (pa_cons (pe_callB call_isX (by rfl) T.isi boot_isinstance (pa_cons (pv 0) (pa_cons (pe_glob (v := .ref (C 9)) (by rfl) T.g9 rfl) pa_nil))) (pa_cons (pe_callB call_isX (by rfl) T.isi boot_isinstance (pa_cons (pv 0) (pa_cons (pe_glob (v := .ref (C 10)) (by rfl) T.g10 rfl) pa_nil))) (pa_cons (pe_callB call_isX (by rfl) T.isi boot_isinstance (pa_cons (pv 0) (pa_cons (pe_glob (v := .ref (C 11)) (by rfl) T.g11 rfl) pa_nil))) pa_nil))))))
      (pss_cons (ps_set (i := 1) scKinds.nd rfl (.inl rfl) (pe_op op_cat (pv 1) (pe_lst (pa_cons (pe_callB call_isX (by rfl) T.isi boot_isinstance (pa_cons (pv 0) (pa_cons (pe_glob (v := .ref (C 12)) (by rfl) T.g12 rfl) pa_nil))) (pa_cons (pe_callB call_isX (by rfl) T.isi boot_isinstance (pa_cons (pv 0) (pa_cons (pe_glob (v := .ref (C 13)) (by rfl) T.g13 rfl) pa_nil))) (pa_cons (pe_callB call_isX (by rfl) T.isi boot_isinstance (pa_cons (pv 0) (pa_cons (pe_glob (v := .ref (C 14)) (by rfl) T.g14 rfl) pa_nil))) pa_nil))))))
      (pss_one (ps_ret (pe_op op_cat (pv 1) (pe_lst (pa_cons (pe_callB call_isX (by rfl) T.isi boot_isinstance (pa_cons (pv 0) (pa_cons (pe_glob (v := .ref (C 15)) (by rfl) T.g15 rfl) pa_nil))) pa_nil)))))))))), ?_⟩
    refine sq_asg (rd_bl (PH := PH) (ebs_cons (eb_isX rfl (U.xf j hj) (fun _ _ z => z) (fun _ z => z) (U.kk 0 j (by decide) hj)) (ebs_cons (eb_isX rfl (U.xf j hj) (fun _ _ z => z) (fun _ z => z) (U.kk 1 j (by decide) hj)) (ebs_cons (eb_isX rfl (U.xf j hj) (fun _ _ z => z) (fun _ z => z) (U.kk 2 j (by decide) hj)) ebs_nil))) h0 (by simp) fun l0 n0 => ?_)
    refine sq_asg (rd_cat (PH := PH) (ebs_cons (eb_isX rfl (U.xf j hj) (fun _ _ z => z) (fun _ z => z) (U.kk 3 j (by decide) hj)) (ebs_cons (eb_isX rfl (U.xf j hj) (fun _ _ z => z) (fun _ z => z) (U.kk 4 j (by decide) hj)) (ebs_cons (eb_isX rfl (U.xf j hj) (fun _ _ z => z) (fun _ z => z) (U.kk 5 j (by decide) hj)) ebs_nil))) rfl upd_same (st _ _ _ n0 h0) st (by simp) fun H1 l1 s1 p1 a1 => ?_)
    refine sq_asg (rd_cat (PH := PH) (ebs_cons (eb_isX rfl (U.xf j hj) (fun _ _ z => z) (fun _ z => z) (U.kk 6 j (by decide) hj)) (ebs_cons (eb_isX rfl (U.xf j hj) (fun _ _ z => z) (fun _ z => z) (U.kk 7 j (by decide) hj)) (ebs_cons (eb_isX rfl (U.xf j hj) (fun _ _ z => z) (fun _ z => z) (U.kk 8 j (by decide) hj)) ebs_nil))) rfl a1 p1 st (by simp) fun H2 l2 s2 p2 a2 => ?_)
    refine sq_asg (rd_cat (PH := PH) (ebs_cons (eb_isX rfl (U.xf j hj) (fun _ _ z => z) (fun _ z => z) (U.kk 9 j (by decide) hj)) (ebs_cons (eb_isX rfl (U.xf j hj) (fun _ _ z => z) (fun _ z => z) (U.kk 10 j (by decide) hj)) (ebs_cons (eb_isX rfl (U.xf j hj) (fun _ _ z => z) (fun _ z => z) (U.kk 11 j (by decide) hj)) ebs_nil))) rfl a2 p2 st (by simp) fun H3 l3 s3 p3 a3 => ?_)
    refine sq_asg (rd_cat (PH := PH) (ebs_cons (eb_isX rfl (U.xf j hj) (fun _ _ z => z) (fun _ z => z) (U.kk 12 j (by decide) hj)) (ebs_cons (eb_isX rfl (U.xf j hj) (fun _ _ z => z) (fun _ z => z) (U.kk 13 j (by decide) hj)) (ebs_cons (eb_isX rfl (U.xf j hj) (fun _ _ z => z) (fun _ z => z) (U.kk 14 j (by decide) hj)) ebs_nil))) rfl a3 p3 st (by simp) fun H4 l4 s4 p4 a4 => ?_)
    refine (rd_cat (PH := PH) (ebs_cons (eb_isX rfl (U.xf j hj) (fun _ _ z => z) (fun _ z => z) (U.kk 15 j (by decide) hj)) ebs_nil) rfl a4 p4 st (by simp) fun H5 l5 s5 p5 a5 => ?_)
    exact q H5 l5 ((((((same_upd n0).trans s1).trans s2).trans s3).trans s4).trans s5) a5
theorem ok_bases {k : Nat} (F : FnP K "_law_bases" 26 f fd) (T : CG mg C) (U : CK K C) : FnOk P w K mg base CX0 (k + 1) f fd ["e"] (spBases C) := by
  refine F.ok scBases (fun vs H Q E h => ?_) (fun cdv A outer s H vs Q E hr h => ?_)
  · obtain ⟨e, j, d, rfl, _⟩ := h
    rfl
  · obtain ⟨e, j, d, rfl, hj, hE, q⟩ := h
    let PH : Hp → Prop := fun H => ExAt H e (C j) d
    have st : ∀ H q o, H q = none → PH H → PH (upd H q o) := fun H q o n z => ExAt.same z (same_upd n)
    have h0 : PH H := hE
    refine ⟨_, PSs.nox (pss_cons (ps_set (i := 1) scBases.nd rfl (.inl rfl) (pe_lst (pa_cons (pe_callB call_isX (by rfl) T.isi boot_isinstance (pa_cons (pv 0) (pa_cons (pe_bltn (v := .ty "ValueError") (by rfl) T.b0 (by decide +kernel) rfl) pa_nil))) (pa_cons (pe_callB call_isX (by rfl) T.isi boot_isinstance (pa_cons (pv 0) (pa_cons (pe_bltn (v := .ty "KeyError") (by rfl) T.b1 (by decide +kernel) rfl) pa_nil))) (pa_cons (pe_callB call_isX (by rfl) T.isi boot_isinstance (pa_cons (pv 0) (pa_cons (pe_bltn (v := .ty "IndexError") (by rfl) T.b2 (by decide +kernel) rfl) pa_nil))) (pa_cons (pe_callB call_isX (by rfl) T.isi boot_isinstance (pa_cons (pv 0) (pa_cons (pe_bltn (v := .ty "LookupError") (by rfl) T.b3 (by decide +kernel) rfl) pa_nil))) pa_nil))))))
      (pss_one (ps_ret (pe_op op_cat (pv 1) (pe_lst (pa_cons (pe_callB call_isX (by rfl) T.isi boot_isinstance (pa_cons (pv 0) (pa_cons (pe_bltn (v := .ty "ArithmeticError") (by rfl) T.b4 (by decide +kernel) rfl) pa_nil))) (pa_cons (pe_callB call_isX (by rfl) T.isi boot_isinstance (pa_cons (pv 0) (pa_cons (pe_bltn (v := .ty "OverflowError") (by rfl) T.b5 (by decide +kernel) rfl) pa_nil))) (pa_cons (pe_callB call_isX (by rfl) T.isi boot_isinstance (pa_cons (pv 0) (pa_cons (pe_bltn (v := .ty "RuntimeError") (by rfl) T.b6 (by decide +kernel) rfl) pa_nil))) pa_nil)))))))), ?_⟩
    refine sq_asg (rd_bl (PH := PH) (ebs_cons (eb_isX rfl (U.xf j hj) (fun _ _ z => z) (fun _ z => z) (U.kb 0 j (by decide) hj)) (ebs_cons (eb_isX rfl (U.xf j hj) (fun _ _ z => z) (fun _ z => z) (U.kb 1 j (by decide) hj)) (ebs_cons (eb_isX rfl (U.xf j hj) (fun _ _ z => z) (fun _ z => z) (U.kb 2 j (by decide) hj)) (ebs_cons (eb_isX rfl (U.xf j hj) (fun _ _ z => z) (fun _ z => z) (U.kb 3 j (by decide) hj)) ebs_nil)))) h0 (by simp) fun l0 n0 => ?_)
    refine (rd_cat (PH := PH) (ebs_cons (eb_isX rfl (U.xf j hj) (fun _ _ z => z) (fun _ z => z) (U.kb 4 j (by decide) hj)) (ebs_cons (eb_isX rfl (U.xf j hj) (fun _ _ z => z) (fun _ z => z) (U.kb 5 j (by decide) hj)) (ebs_cons (eb_isX rfl (U.xf j hj) (fun _ _ z => z) (fun _ z => z) (U.kb 6 j (by decide) hj)) ebs_nil))) rfl upd_same (st _ _ _ n0 h0) st (by simp) fun H1 l1 s1 p1 a1 => ?_)
    exact q H1 l1 ((same_upd n0).trans s1) (by rw [basL_eq j hj]; exact a1)
theorem ok_kindsE {k : Nat} (F : FnP K "_law_kinds" 25 f fd) (T : CG mg C) (U : CK K C) : FnE P w K mg base CX0 (k + 1) f fd ["e"] (spKindsE C) := by
  refine fnE_of F scKinds (fun p vs H Q E h => ?_) (fun cdv A outer s H vs Q E p hr h => ?_)
  · obtain ⟨j, d, rfl, _⟩ := h
    rfl
  · obtain ⟨j, d, rfl, hj, hz, hv, hD, q⟩ := h
    let PH : Hp → Prop := fun H => DictAt H d
    have st : ∀ H q o, H q = none → PH H → PH (upd H q o) := fun H q o n z => DictAt.same z (same_upd n)
    have h0 : PH H := hD
    refine ⟨_, PSs.nox (pss_cons (ps_set (i := 1) scKinds.nd rfl (.inl rfl) (pe_lst (pa_cons (pe_callB (call_isP (p := p) List.mem_cons_self) (by rfl) T.isi boot_isinstance (pa_cons (pv 0) (pa_cons (pe_glob (v := .ref (C 0)) (by rfl) T.g0 rfl) pa_nil))) (pa_cons (pe_callB (call_isP (p := p) List.mem_cons_self) (by rfl) T.isi boot_isinstance (pa_cons (pv 0) (pa_cons (pe_glob (v := .ref (C 1)) (by rfl) T.g1 rfl) pa_nil))) (pa_cons (pe_callB (call_isP (p := p) List.mem_cons_self) (by rfl) T.isi boot_isinstance (pa_cons (pv 0) (pa_cons (pe_glob (v := .ref (C 2)) (by rfl) T.g2 rfl) pa_nil))) pa_nil)))))
      (pss_cons (ps_set (i := 1) scKinds.nd rfl (.inl rfl) (pe_op op_cat (pv 1) (pe_lst (pa_cons (pe_callB (call_isP (p := p) List.mem_cons_self) (by rfl) T.isi boot_isinstance (pa_cons (pv 0) (pa_cons (pe_glob (v := .ref (C 3)) (by rfl) T.g3 rfl) pa_nil))) (pa_cons (pe_callB (call_isP (p := p) List.mem_cons_self) (by rfl) T.isi boot_isinstance (pa_cons (pv 0) (pa_cons (pe_glob (v := .ref (C 4)) (by rfl) T.g4 rfl) pa_nil))) (pa_cons (pe_callB (call_isP (p := p) List.mem_cons_self) (by rfl) T.isi boot_isinstance (pa_cons (pv 0) (pa_cons (pe_glob (v := .ref (C 5)) (by rfl) T.g5 rfl) pa_nil))) pa_nil))))))
      (pss_cons (ps_set (i := 1) scKinds.nd rfl (.inl rfl) (pe_op op_cat (pv 1) (pe_lst (pa_cons (pe_callB (call_isP (p := p) List.mem_cons_self) (by rfl) T.isi boot_isinstance (pa_cons (pv 0) (pa_cons (pe_glob (v := .ref (C 6)) (by rfl) T.g6 rfl) pa_nil))) (pa_cons (pe_callB (call_isP (p := p) List.mem_cons_self) (by rfl) T.isi boot_isinstance (pa_cons (pv 0) (pa_cons (pe_glob (v := .ref (C 7)) (by rfl) T.g7 rfl) pa_nil))) (pa_cons (pe_callB (call_isP (p := p) List.mem_cons_self) (by rfl) T.isi boot_isinstance (pa_cons (pv 0) (pa_cons (pe_glob (v := .ref (C 8)) (by rfl) T.g8 rfl) pa_nil))) pa_nil))))))
      (pss_cons (ps_set (i := 1) scKinds.nd rfl (.inl rfl) (pe_op op_cat (pv 1) (pe_lst (pa_cons (pe_callB (call_isP (p := p) List.mem_cons_self) (by rfl) T.isi boot_isinstance (pa_cons (pv 0) (pa_cons (pe_glob (v := .ref (C 9)) (by rfl) T.g9 rfl) pa_nil))) (pa_cons (pe_callB (call_isP (p := p) List.mem_cons_self) (by rfl) T.isi boot_isinstance (pa_cons (pv 0) (pa_cons (pe_glob (v := .ref (C 10)) (by rfl) T.g10 rfl) pa_nil))) (pa_cons (pe_callB (call_isP (p := p) List.mem_cons_self) (by rfl) T.isi boot_isinstance (pa_cons (pv 0) (pa_cons (pe_glob (v := .ref (C 11)) (by rfl) T.g11 rfl) pa_nil))) pa_nil))))))
      (pss_cons (ps_set (i := 1) scKinds.nd rfl (.inl rfl) (pe_op op_cat (pv 1) (pe_lst (pa_cons (pe_callB (call_isP (p := p) List.mem_cons_self) (by rfl) T.isi boot_isinstance (pa_cons (pv 0) (pa_cons (pe_glob (v := .ref (C 12)) (by rfl) T.g12 rfl) pa_nil))) (pa_cons (pe_callB (call_isP (p := p) List.mem_cons_self) (by rfl) T.isi boot_isinstance (pa_cons (pv 0) (pa_cons (pe_glob (v := .ref (C 13)) (by rfl) T.g13 rfl) pa_nil))) (pa_cons (pe_callB (call_isP (p := p) List.mem_cons_self) (by rfl) T.isi boot_isinstance (pa_cons (pv 0) (pa_cons (pe_glob (v := .ref (C 14)) (by rfl) T.g14 rfl) pa_nil))) pa_nil))))))
      (pss_one (ps_ret (pe_op op_cat (pv 1) (pe_lst (pa_cons (pe_callB (call_isP (p := p) List.mem_cons_self) (by rfl) T.isi boot_isinstance (pa_cons (pv 0) (pa_cons (pe_glob (v := .ref (C 15)) (by rfl) T.g15 rfl) pa_nil))) pa_nil)))))))))), ?_⟩
    refine sq_asg (rd_bl (PH := PH) (ebs_cons (eb_isP rfl (U.xf j hj) hz hv (fun _ _ z => z) (fun _ z => z) (U.kk 0 j (by decide) hj)) (ebs_cons (eb_isP rfl (U.xf j hj) hz hv (fun _ _ z => z) (fun _ z => z) (U.kk 1 j (by decide) hj)) (ebs_cons (eb_isP rfl (U.xf j hj) hz hv (fun _ _ z => z) (fun _ z => z) (U.kk 2 j (by decide) hj)) ebs_nil))) h0 (by simp) fun l0 n0 => ?_)
    refine sq_asg (rd_cat (PH := PH) (ebs_cons (eb_isP rfl (U.xf j hj) hz hv (fun _ _ z => z) (fun _ z => z) (U.kk 3 j (by decide) hj)) (ebs_cons (eb_isP rfl (U.xf j hj) hz hv (fun _ _ z => z) (fun _ z => z) (U.kk 4 j (by decide) hj)) (ebs_cons (eb_isP rfl (U.xf j hj) hz hv (fun _ _ z => z) (fun _ z => z) (U.kk 5 j (by decide) hj)) ebs_nil))) rfl upd_same (st _ _ _ n0 h0) st (by simp) fun H1 l1 s1 p1 a1 => ?_)
    refine sq_asg (rd_cat (PH := PH) (ebs_cons (eb_isP rfl (U.xf j hj) hz hv (fun _ _ z => z) (fun _ z => z) (U.kk 6 j (by decide) hj)) (ebs_cons (eb_isP rfl (U.xf j hj) hz hv (fun _ _ z => z) (fun _ z => z) (U.kk 7 j (by decide) hj)) (ebs_cons (eb_isP rfl (U.xf j hj) hz hv (fun _ _ z => z) (fun _ z => z) (U.kk 8 j (by decide) hj)) ebs_nil))) rfl a1 p1 st (by simp) fun H2 l2 s2 p2 a2 => ?_)
    refine sq_asg (rd_cat (PH := PH) (ebs_cons (eb_isP rfl (U.xf j hj) hz hv (fun _ _ z => z) (fun _ z => z) (U.kk 9 j (by decide) hj)) (ebs_cons (eb_isP rfl (U.xf j hj) hz hv (fun _ _ z => z) (fun _ z => z) (U.kk 10 j (by decide) hj)) (ebs_cons (eb_isP rfl (U.xf j hj) hz hv (fun _ _ z => z) (fun _ z => z) (U.kk 11 j (by decide) hj)) ebs_nil))) rfl a2 p2 st (by simp) fun H3 l3 s3 p3 a3 => ?_)
    refine sq_asg (rd_cat (PH := PH) (ebs_cons (eb_isP rfl (U.xf j hj) hz hv (fun _ _ z => z) (fun _ z => z) (U.kk 12 j (by decide) hj)) (ebs_cons (eb_isP rfl (U.xf j hj) hz hv (fun _ _ z => z) (fun _ z => z) (U.kk 13 j (by decide) hj)) (ebs_cons (eb_isP rfl (U.xf j hj) hz hv (fun _ _ z => z) (fun _ z => z) (U.kk 14 j (by decide) hj)) ebs_nil))) rfl a3 p3 st (by simp) fun H4 l4 s4 p4 a4 => ?_)
    refine (rd_cat (PH := PH) (ebs_cons (eb_isP rfl (U.xf j hj) hz hv (fun _ _ z => z) (fun _ z => z) (U.kk 15 j (by decide) hj)) ebs_nil) rfl a4 p4 st (by simp) fun H5 l5 s5 p5 a5 => ?_)
    exact q H5 l5 ((((((same_upd n0).trans s1).trans s2).trans s3).trans s4).trans s5) a5
end
end K0

/-! ### E4 -/
set_option Elab.async false
set_option linter.all false
set_option maxRecDepth 100000
set_option maxHeartbeats 4000000
/-! Exceptions of own classes over any built-in one of them: made with and without an __init__ of their own, as values and raised; their fields. -/
namespace K0
open PySem PySem.Spec PyProof.Rows L2
section
open Builtin Builtin.ObjectAttr PySem.HandSPX
variable {prog : Program} {w : World} {A : Around} {R : Result → Shared → Prop} {hp : Heap} {g : Array GenState} {d : Drawn} {t : Nat} {os : OsState}
/-- the first store into an exception, whatever built-in class it is over -/
theorem first_store {K : W.Frag} {name : Str} {tk : Tok} {v : Value} {x C : Addr} {fv : Array Value} {cd : ClassData} (X : K.In hp) (hx : hp.get? x = some { cls := .ref C, data := .fields fv }) (hcd : W.clsIn K C = some cd) (pass : ∀ self : Value, refuseLoop self "__setattr__" cd.mro = pure ()) (ne : cd.mro.isEmpty = false)
    (hob : cd.mro.contains (.type "object") = true) (hh : cd.hasDict = true) (ha : W.findIn K (.ref C) name = some none)
    (hq : ∀ h' tk' dx, (∀ b o, b ≠ x → hp.get? b = some o → h'.get? b = some o) → hp.objs.size ≤ dx → dx ≠ x → h'.get? x = some { cls := .ref C, dict := some dx, data := .fields fv } → h'.Ns1 dx (fun y => if y = name then some v else none) → R (.ok (.ret .none)) ⟨h', g, d, tk', os⟩) :
    codeAny (model prog w) A (.call (.builtin "object.__setattr__") ⟨[.ref x, .str name tk, v], []⟩) R ⟨hp, g, d, t, os⟩ := by
  have I : W.InstAt hp x { cls := .ref C, data := .fields fv } C none := ⟨hx, rfl, rfl, trivial⟩
  have SF := PySem.F.store_object
  have far : x ≠ hp.objs.size := Nat.ne_of_lt (Heap.lt_size hx)
  have sub : W.Looks (model prog w) hp (isInstance (.ref x) (.type "object")) true := I.type.andThen (W.looks_mroIn X (by unfold W.mroIn; rw [hcd, Option.bind_some, if_neg (by rw [ne]; decide), hob]))
  refine codeAny_call_builtin SF.slot.plain SF.entry (@W.check_slot (model prog w) _ _ ⟨hp, g, d, t, os⟩ "object.__setattr__" "object" "__setattr__" (.ref x) [.str name tk, v] [] _ SF.kind SF.split sub (SF.args (.ref x) (.str name tk) v) ?_)
  have lk1 : W.Looks (model prog w) hp (mroOf (.ref C)) cd.mro := (W.looks_clsIn X hcd).andThen .now
  have lk2 : W.Looks (model prog w) hp (storeTaker? none) none := .now
  have lk3 : W.Looks (model prog w) hp (classData C) cd := W.looks_clsIn X hcd
  rw [W.osa_eq, refuse_eq]
  refine wpAny_bind (wpAny_bind (I.type.at (wpAny_bind (lk1.at ?_))))
  rw [pass]
  refine wpAny_pure (wpAny_bind (I.type.at (wpAny_bind ((W.looks_findIn X ha).at (wpAny_bind (lk2.at ?_))))))
  show wpAny _ _ (storeInOwnDict (.ref x) (.ref C) (.str name tk) name v false) _ _ _
  obtain ⟨nm, bs, mro, ns, qn, hd, sn, sb, ab, col, del⟩ := cd
  have hh : hd = true := hh
  subst hh
  unfold storeInOwnDict ownDictForStores
  repeat (first | with_reducible refine store_in_new ?_ ?_ | with_reducible refine wpAny_loadPart_at hx ?_ | with_reducible refine lk3.at ?_ | wp_step)
  · exact ⟨_, #[], _, (Heap.get?_update_ne _ _ _ _ far.symm).trans (Heap.get?_push_at rfl rfl), rfl, fun e he => absurd he (by simp), fun _ => rfl⟩
  · intro h' tk' hn' hs
    refine hq h' tk' hp.objs.size (fun b o hb ho => (hs.2 b (Nat.ne_of_lt (Heap.lt_size ho))).trans ((Heap.get?_update_ne _ _ _ _ hb).trans (Heap.get?_push_of_some _ ho))) (Nat.le_refl _) far.symm ?_ hn'
    exact (hs.2 x far).trans (Heap.get?_update_self _ (show (hp.push { cls := .type "dict", data := .dict #[] }).get? x = some { cls := .ref C, data := .fields fv } from Heap.get?_push_of_some _ hx) rfl)
end
section
open PySem.HandSPX PySem.Calls
/-- a built-in one's maker serves a class whose own mro behind it, tail, has the maker's class and is neither an AttributeError's nor a NameError's (the library's rule asks that it have just the built-in's classes, which a class over KeyError does not) -/
structure Over (B newId initId : String) (tail : List Value) : Prop where
  facts : ∃ bB, PySem.ExcBaseFacts B newId initId bB
  has : tail.contains (.type B) = true
  noA : tail.contains (.type "AttributeError") = false
  noN : tail.contains (.type "NameError") = false
theorem Over.cons {B newId initId : String} {tail : List Value} (O : Over B newId initId tail) (C : Addr) : (Value.ref C :: tail).contains (.type B) = true ∧ (Value.ref C :: tail).contains (.type "AttributeError") = false ∧ (Value.ref C :: tail).contains (.type "NameError") = false := by
  refine ⟨?_, ?_, ?_⟩ <;> rw [List.contains_cons]
  · rw [O.has, Bool.or_true]
  · rw [O.noA]; rfl
  · rw [O.noN]; rfl
variable {prog : Program} {w : World} {A : Around} {R : Result → Shared → Prop} {hp : Heap} {gn : Array GenState} {dr : Drawn} {tk : Nat} {os : OsState}
variable {nm q : Str} {C N fI : Addr} {bs tail us : List Value} {hdt : Bool} {sn : List Str} {sub : List Value} {ab : Bool} {col : Option Bool} {dd : Option Addr} {k0 k1 k2 k3 k5 : Option Value} {B newId initId : String}
theorem Over.check {M : Model} {E : Value → Shared → Prop} {Q : Unit → Shared → Prop} (O : Over B newId initId tail) (cl : hp.get? C = some (excClassObj nm q C N bs tail hdt sn sub ab col dd k0 k1 k2 k3 k5 newId)) (z : Q () ⟨hp, gn, dr, tk, os⟩) : wpAny M A (checkBuiltinCall newId ⟨.ref C :: us, []⟩) Q E ⟨hp, gn, dr, tk, os⟩ := by
  obtain ⟨bB, G⟩ := O.facts
  have a1 := (O.cons C).1
  have a2 := G.noStar
  simp only [checkBuiltinCall, G.newKind, G.newSplit, G.newRow]
  repeat (first | refine wpAny_loadPart_at cl ?_ | refine wpAny_staticBase_exc cl ?_ | refine wpAny_madeBy_exc cl ?_ | (refine wpAny_isSubtype_exc cl ?_; rw [a1]) | simp only [bne_self_eq_false, Bool.false_eq_true, if_false] | wp_step)
  exact z
theorem Over.new (O : Over B newId initId tail) (cl : hp.get? C = some (excClassObj nm q C N bs tail hdt sn sub ab col dd k0 k1 k2 k3 k5 newId)) (few : us.length ≤ sizeLine) (z : R (.ok (.ret (.ref (hp.objs.size + 1)))) ⟨(hp.push (W.kdv_tup us)).push (excO C hp.objs.size), gn, dr, tk, os⟩) :
    codeAny (model prog w) A (.builtin newId ⟨.ref C :: us, []⟩) R ⟨hp, gn, dr, tk, os⟩ := by
  obtain ⟨bB, G⟩ := O.facts
  obtain ⟨a1, a2, a3⟩ := O.cons C
  have a4 := G.ends
  refine codeAny_builtinAt G.entry ?_
  unfold Builtin.«BaseException.__new__»
  refine PySem.wpAt_bind (show PySem.wpAt _ _ _ (stack >>= _) _ _ _ from PySem.wpAt_bind (PySem.wpAt_stack fun p below => PySem.wpAt_of_wpAny ?_))
  wp_walk
  refine PySem.wpAt_of_wpAny ?_
  rw [G.owner]
  repeat (first | with_reducible refine wpAny_loadPart_at cl ?_ | with_reducible refine wpAny_madeHere_exc G.canon cl ?_ | (with_reducible refine wpAny_isSubtype_exc cl ?_; first | rw [a1] | rw [a2] | rw [a3]) | wp_step)
  show R _ _
  rw [Heap.size_push]
  exact z
theorem Over.made {E : Value → Shared → Prop} {Q : Fin → Shared → Prop} (O : Over B newId initId tail) (cl : hp.get? C = some (excClassObj nm q C N bs tail hdt sn sub ab col dd k0 k1 k2 k3 k5 newId)) (ini : W.Looks (model prog w) hp (typeLookup (.ref C) "__init__") (some (.ref fI))) (bnd : ∀ self, W.Looks (model prog w) hp (bindSpecial (.ref fI) self) (.ref fI, [self])) (few : us.length ≤ sizeLine)
    (z : codeAny (model prog w) A (.call (.ref fI) ⟨.ref (hp.objs.size + 1) :: us, []⟩) (fun r s' => match r with | .ok (.ret v) => v = .none ∧ Q (.done (.ret (.ref (hp.objs.size + 1)))) s' | .ok _ => False | .error e => E e s') ⟨(hp.push (W.kdv_tup us)).push (excO C hp.objs.size), gn, dr, tk, os⟩) : wpAny (model prog w) A (Builtin.«type.__call__» ⟨.ref C :: us, []⟩) Q E ⟨hp, gn, dr, tk, os⟩ := by
  obtain ⟨bB, G⟩ := O.facts
  repeat (first | with_reducible refine wpAny_loadPart_at cl ?_ | with_reducible refine wpAny_madeBy_exc cl ?_ | wp_step)
  refine codeAny_call_builtin_code (Code.quiet_builtin _ G.quiet) (O.check cl (O.new cl few ?_))
  show wpAny _ _ _ _ _ _
  have up : ∀ b o, hp.get? b = some o → ((hp.push (W.kdv_tup us)).push (excO C hp.objs.size)).get? b = some o := fun b o e => Heap.get?_push_of_some _ (Heap.get?_push_of_some _ e)
  have cl2 := up _ _ cl
  have new : ((hp.push (W.kdv_tup us)).push (excO C hp.objs.size)).get? (hp.objs.size + 1) = some (excO C hp.objs.size) := by heap_get
  have self : (Value.ref C :: tail).contains (.ref C) = true := by simp
  have ini2 := ini.keeps up
  have bnd2 := (bnd (.ref (hp.objs.size + 1))).keeps up
  unfold isInstance
  repeat (first | with_reducible refine wpAny_loadPart_at new ?_ | (with_reducible refine wpAny_isSubtype_exc cl2 ?_; rw [self]) | wp_step)
  show wpAny _ _ (typeLookup (.ref C) _) _ _ _
  refine ini2.at (wpAny_holding (wpAny_bind (bnd2.at (wpAny_bind (wpAny_call (codeAny_mono z fun r s' y => ?_))))))
  rcases r with e | (v | _ | _ | _) <;> first | exact y | exact y.elim | skip
  obtain ⟨rfl, y⟩ := y
  first
    | exact wpAny_pure (wpAny_pure y)
    | (wp_walk; exact y)
theorem Over.call (O : Over B newId initId tail) (cl : hp.get? C = some (excClassObj nm q C N bs tail hdt sn sub ab col dd k0 k1 k2 k3 k5 newId)) (ini : W.Looks (model prog w) hp (typeLookup (.ref C) "__init__") (some (.ref fI))) (bnd : ∀ self, W.Looks (model prog w) hp (bindSpecial (.ref fI) self) (.ref fI, [self])) (few : us.length ≤ sizeLine)
    (z : codeAny (model prog w) (A.under (.builtin "type.__call__" ⟨.ref C :: us, []⟩)) (.call (.ref fI) ⟨.ref (hp.objs.size + 1) :: us, []⟩) (W.InitBack (hp.objs.size + 1) R) ⟨(hp.push (W.kdv_tup us)).push (excO C hp.objs.size), gn, dr, tk, os⟩) : codeAny (model prog w) A (.call (.ref C) ⟨us, []⟩) R ⟨hp, gn, dr, tk, os⟩ := by
  have l1 := tc_lookup
  have l2 := tc_bind (.ref C)
  have ty : (⟨hp, gn, dr, tk, os⟩ : Shared).TypeIs (.ref C) "type" := ⟨_, cl, rfl⟩
  refine codeAny_of_tree (show wpAny _ _ (callAny (.ref C) _) _ _ _ from ?_)
  repeat (any_goals (first | assumption | with_reducible refine wpAny_loadPart_at cl ?_ | wp_step))
  refine ⟨rfl, codeAny_call_builtin_at (Code.quiet_builtin _ (by decide +kernel)) entry_typeCall (wpAny_check_type_call_sub cl (O.made cl ini bnd few (codeAny_mono z fun r s' y => ?_)))⟩
  rcases r with e | (v | _ | _ | _) <;> exact y
end
end K0

/-! ### E5 -/
set_option Elab.async false
set_option linter.all false
set_option maxRecDepth 100000
set_option maxHeartbeats 4000000
namespace K0
open PySem PySem.Spec PyProof.Rows L2
/-- what the written part says of a class with an __init__ of its own that stores its one argument as f; bmB: its mro from the first built-in one on -/
structure XI (K : PySem.W.Frag) (C fI : Addr) (B newId initId : String) (bmB : List Value) (f : Str) : Prop where
  FB : ∃ bB, PySem.ExcBaseFacts B newId initId bB
  has : bmB.contains (.type B) = true
  noA : bmB.contains (.type "AttributeError") = false
  noN : bmB.contains (.type "NameError") = false
  obj : bmB.contains (.type "object") = true
  pass : ∀ self : Value, refuseLoop self "__setattr__" bmB = pure ()
  ini : PySem.W.excInitIn K C bmB newId = true
  over : PySem.W.excOver K C bmB = true
  sa : PySem.W.findIn K (.ref C) "__setattr__" = some (some (.builtin "object.__setattr__"))
  iC : PySem.W.findIn K (.ref C) "__init__" = some (some (.ref fI))
  tI : PySem.W.typeIn K (.ref fI) = some (.type "function")
  no : PySem.W.findIn K (.ref C) f = some none
theorem over_cls {K : PySem.W.Frag} {C : Addr} {bmB : List Value} (h : PySem.W.excOver K C bmB = true) : ∃ cd tail, PySem.W.clsIn K C = some cd ∧ cd.mro = .ref C :: tail ∧ PySem.W.excTail bmB tail = true := by
  unfold PySem.W.excOver at h
  cases e : PySem.W.clsIn K C with
  | none => rw [e] at h; cases h
  | some cd =>
    rw [e] at h
    have h2 : (match cd.mro with | .ref C' :: bm => C' == C && PySem.W.excTail bmB bm | _ => false) = true := h
    split at h2
    · rename_i C' bm em
      obtain ⟨h3, h4⟩ := Bool.and_eq_true_iff.mp h2
      have e3 : C' = C := beq_iff_eq.mp h3
      subst e3
      exact ⟨cd, bm, rfl, em, h4⟩
    · cases h2
section
variable {X : Cx} {pins : List (Addr × Obj)} {σ : L2.St} {H : Hp} {s : Shared} {a C fI : Addr} {f : Str} {y : V} {u : Value} {B newId initId : String} {bmB : List Value}
theorem store_first {Q : Unit → Shared → Prop} {E : Value → Shared → Prop} {A : Around} (T : XI X.K C fI B newId initId bmB f) (F : XF X.K C) (I : Inv X pins σ H s) (e : H a = some (exo a C none)) (ry : RelV y u)
    (h : ∀ dx s', H dx = none → dx ≠ a → Inv X pins σ (upd (upd H dx (exd dx [(f, y)])) a (exo a C (some dx))) s' → Q () s') : wpAny (model X.prog X.w) A (setAttr (.ref a) f u) Q E s := by
  obtain ⟨cd, tail, hcd, hmro, htl⟩ := over_cls T.over
  have hdict : cd.hasDict = true := by
    obtain ⟨cd2, h1, h2⟩ := PySem.W.any_some F.hd
    rw [hcd] at h1
    cases h1
    exact h2
  have hps : ∀ self : Value, refuseLoop self "__setattr__" cd.mro = pure () := fun self => by
    rw [hmro]
    rw [PySem.refuseLoop_ref]
    exact PySem.W.excTail_pass self (T.pass self) tail htl
  have hob : cd.mro.contains (.type "object") = true := by
    rw [hmro, List.contains_cons, PySem.W.excTail_contains "object" tail htl, T.obj, Bool.or_true]
  obtain ⟨t1, ho⟩ := exo_at I.hok e
  obtain ⟨hp, g, d, t, os⟩ := s
  refine PySem.W.set_plain I.kIn (ox := { cls := .ref C, dict := none, data := .fields #[.ref t1, .none, .none, .none, .bool false, .none] }) (od := none) ⟨ho, rfl, rfl, trivial⟩ T.sa ?_
  refine first_store I.kIn ho hcd hps (by rw [hmro]; rfl) hob hdict T.no fun h' tk' dx k dn dne hx hn => ?_
  have free : H dx = none := I.hok.fresh dn
  have old : ∀ {b : Addr} {o : Obj}, hp.get? b = some o → b ≠ dx := fun q => Nat.ne_of_lt (Nat.lt_of_lt_of_le (Heap.lt_size q) dn)
  have not_a : ∀ {b : Addr}, H b = none → b ≠ a := fun n => ne_of_none e n |>.symm
  have look : ∀ {b : Addr} {o : HO}, H b = some o → exo a C none ≠ o → upd (upd H dx (exd dx [(f, y)])) a (exo a C (some dx)) b = some o := fun {b o} q n => by rw [upd_ne (at_ne e q n), upd_ne (ne_of_none q free)]; exact q
  have un : Un X.fs [] H (upd (upd H dx (exd dx [(f, y)])) a (exo a C (some dx))) hp h' :=
    ⟨fun b o q n _ _ => k b o (not_a n) q, fun b o q n _ _ => ⟨o.slots, k b o (not_a n) q⟩, fun b o q n _ => by rw [upd_ne (not_a n), upd_ne (old q)]; exact n, fun b o q _ => (Classical.em (b = a)).elim (fun z => z.symm ▸ ⟨_, hx⟩) fun z => ⟨o, k b o z q⟩,
      fun b xs q => look q exo_tup, fun b o v q => look q exo_frz, fun b ps q => ⟨#[], by rw [look q exo_tbl]; simp⟩⟩
  refine h dx _ free dne (I.un (t' := tk') un fun b o q => ?_)
  by_cases hb : b = a
  · subst hb
    rw [upd_same] at q
    cases q
    exact exo_ok hx
  · rw [upd_ne hb] at q
    by_cases hd : b = dx
    · subst hd
      rw [upd_same] at q
      cases q
      exact exd_ok hn (relO_put (fs := []) ry fun g => True.intro)
    · rw [upd_ne hd] at q
      exact (I.hok b o q).stay (fun c v hc z => k c v (hc.elim (fun z => by rw [z]; exact hb) fun z => at_ne e z exo_own) z) (fun c hc => look hc exo_own) fun c xs hc => look hc exo_tup
/-- self.f = v -/
def tSt (C : Addr) (f : Str) (to te : TE) : TS := fun D σ H => te σ H fun y H1 => to σ H1 fun x H2 => ∃ a, x = .ref a ∧ H2 a = some (exo a C none) ∧ ∀ dx, H2 dx = none → dx ≠ a → D.nx σ (upd (upd H2 dx (exd dx [(f, y)])) a (exo a C (some dx)))
theorem ps_st {o e : Expr} {to te : TE} {p' pos : Pos} (T : XI X.K C fI B newId initId bmB f) (F : XF X.K C) (ho : PE X o to) (he : PE X e te) (hs : swapsWith e (some (.Attribute o f p')) pos.line X.env = pure false := by rfl) : PS X (.Assign [.Attribute o f p'] e pos) (tSt C f to te) :=
  ⟨fun pins s σ H D I h => plainObj_wpAny_Assign_Attribute (thn (he.run pins s σ H _ I h) fun v s1 ⟨y, H1, I1, r1, q1⟩ => thn (ho.run pins s1 σ H1 _ I1 q1) fun u s2 ⟨x, H2, I2, r2, a, ex, ea, q⟩ => by
    subst ex
    obtain rfl : u = Value.ref a := r2
    exact store_first T F I2 ea r1 fun dx s' n ne J => ⟨σ, _, J, q dx n ne⟩) hs⟩
end
def spInit (C : Addr) (f : Str) : Sp := fun vs H Q _ => ∃ (a : Addr) (v : V), vs = [.ref a, v] ∧ H a = some (exo a C none) ∧ ∀ dx, H dx = none → dx ≠ a → Q .non (upd (upd H dx (exd dx [(f, v)])) a (exo a C (some dx)))
section
variable {X : Cx} {C fI : Addr} {f x : Str} {B newId initId : String} {bmB : List Value} {k : Nat} {fd : FuncData} {ps : List Str} {e : Expr} {te : TE} {p pos : Pos}
def tMkI (C : Addr) (f : Str) (te : TE) : TE := fun σ H Q => te σ H fun v H1 => ∀ H' a dx, Same H1 H' → H1 a = none → H1 dx = none → dx ≠ a → H' a = some (exo a C (some dx)) → H' dx = some (exd dx [(f, v)]) → Q (.ref a) H'
theorem pe_mkI (T : XI X.K C fI B newId initId bmB f) (F : XF X.K C) (F1 : FnOk X.prog X.w X.K X.mg X.base CX0 k fI fd ps (spInit C f)) (hr : Room (k + 1) X.A) (hb : Binds X.K fd ps []) (hg : Gl X x) (hm : X.mg x = some (.ref C)) (he : PE X e te)
    (hdb : (x == ("__debug__" : Str)) = false := by decide) (hs : starEach [e] X.env = (false, eval e X.env) :: starEach [] X.env := by rfl) (hpl : (backTo pos (starEach [] X.env)).any (·.1) = false := by rfl) : PE X (.Call (.Name x p) [e] [] pos) (tMkI C f te) := by
  refine ⟨fun pins s σ H Q I h => wpAny_Call_Name_kw (ld_glob I hg hm (PySem.W.callWith_K (h₀ := X.base) I.ok.mod.kin F.kp ?_ hs hpl) hdb)⟩
  rw [hs]
  show wpAny _ _ (spliced ((false, eval e X.env) :: backTo pos (starEach [] X.env))) _ _ s
  refine Calls.spliced_cons (thn (he.run pins s σ H _ I h) fun u s1 ⟨v, H1, I1, r1, q1⟩ => Calls.spliced_nil ⟨I1.kIn, ?_⟩)
  show wpAny _ _ (call (.ref C) [u]) _ _ _
  obtain ⟨hp, g, dr, tk, os⟩ := s1
  obtain ⟨nm, N, qn, bs, bm, hdct, sn, sub, ab, col, dd, k0, k1, k2, k3, k5, hC, hT⟩ := PySem.W.excInit_of I1.kIn T.ini
  have O : Over B newId initId bm := ⟨T.FB, by rw [hT]; exact T.has, by rw [hT]; exact T.noA, by rw [hT]; exact T.noN⟩
  have up : ∀ b o, hp.get? b = some o → ((hp.push (PySem.W.kdv_tup [u])).push (PySem.HandSPX.excO C hp.objs.size)).get? b = some o := fun b o z => Heap.get?_push_of_some _ (Heap.get?_push_of_some _ z)
  have new : ((hp.push (PySem.W.kdv_tup [u])).push (PySem.HandSPX.excO C hp.objs.size)).get? (hp.objs.size + 1) = some (PySem.HandSPX.excO C hp.objs.size) := by heap_get
  have far : hp.objs.size ≤ hp.objs.size + 1 := Nat.le_succ _
  have na : H1 (hp.objs.size + 1) = none := I1.hok.fresh far
  have I2 : Inv X pins σ (upd H1 (hp.objs.size + 1) (exo (hp.objs.size + 1) C none)) ⟨(hp.push (PySem.W.kdv_tup [u])).push (PySem.HandSPX.excO C hp.objs.size), g, dr, tk, os⟩ := I1.laid (t' := tk) (a := hp.objs.size + 1) (o := exo (hp.objs.size + 1) C none) (h' := (hp.push (PySem.W.kdv_tup [u])).push (PySem.HandSPX.excO C hp.objs.size)) up far (exo_ok new)
  have rel : Vals [V.ref (hp.objs.size + 1), v] [Value.ref (hp.objs.size + 1), u] := .cons rfl (.cons r1 .nil)
  have prom : spInit C f [V.ref (hp.objs.size + 1), v] (upd H1 (hp.objs.size + 1) (exo (hp.objs.size + 1) C none)) (fun r H2 => r = .non ∧ Q (.ref (hp.objs.size + 1)) H2) E0 := ⟨_, v, rfl, upd_same, fun dx nd ne => ⟨rfl, by
    rw [upd_ne ne] at nd
    refine q1 _ _ dx (fun b o z => ?_) na nd ne upd_same (by rw [upd_ne ne, upd_same])
    rw [upd_ne (ne_of_none z na), upd_ne (ne_of_none z nd), upd_ne (ne_of_none z na)]
    exact z⟩⟩
  have size : ([Value.ref (hp.objs.size + 1), u] ++ ([] : List Value)).length = ps.length := by rw [List.append_nil, ← rel.length]; exact F1.len _ _ _ _ prom
  have bd := hb _ [Value.ref (hp.objs.size + 1), u] I2.kIn size
  rw [List.append_nil] at bd
  refine wpAny_call (O.call hC (PySem.W.looks_findIn I1.kIn T.iC) (fun self => PySem.W.bind_fn I1.kIn self T.tI) (by show 1 ≤ sizeLine; decide) (codeAny_mono (F1.run _ X.stack _ _ ⟨[Value.ref (hp.objs.size + 1), u], []⟩ [Value.ref (hp.objs.size + 1), u] _ _ E0 (hr.make C [u] []) (I2.env0.make C [u] []) bd rel prom) fun r s' z => ?_))
  cases r with
  | error er => exact z.elim
  | ok fl =>
    cases fl with
    | next => exact z.elim
    | brk => exact z.elim
    | cont => exact z.elim
    | ret r =>
      obtain ⟨v2, H2, J, rv, e2, q2⟩ := I2.after z
      subst e2
      exact ⟨rv, .ref (hp.objs.size + 1), H2, J, rfl, q2⟩
/-- C(e), no __init__ of its own -/
def tMk0 (C : Addr) (te : TE) : TE := fun σ H Q => te σ H fun _ H1 => ∀ H' a, Same H1 H' → H1 a = none → H' a = some (exo a C none) → Q (.ref a) H'
theorem pe_mk0 (FB : PySem.ExcBaseFacts B newId initId bmB) (q : PySem.W.excIn X.K C bmB newId = true) (kp : PySem.W.keepIn X.K (.ref C) = true) (hg : Gl X x) (hm : X.mg x = some (.ref C)) (he : PE X e te) (hdb : (x == ("__debug__" : Str)) = false := by decide)
    (hs : starEach [e] X.env = (false, eval e X.env) :: starEach [] X.env := by rfl) (hpl : (backTo pos (starEach [] X.env)).any (·.1) = false := by rfl) : PE X (.Call (.Name x p) [e] [] pos) (tMk0 C te) := by
  refine ⟨fun pins s σ H Q I h => wpAny_Call_Name_kw (ld_glob I hg hm (PySem.W.callWith_K (h₀ := X.base) I.ok.mod.kin kp ?_ hs hpl) hdb)⟩
  rw [hs]
  show wpAny _ _ (spliced ((false, eval e X.env) :: backTo pos (starEach [] X.env))) _ _ s
  refine Calls.spliced_cons (thn (he.run pins s σ H _ I h) fun u s1 ⟨v, H1, I1, r1, q1⟩ => Calls.spliced_nil ⟨I1.kIn, ?_⟩)
  show wpAny _ _ (call (.ref C) [u]) _ _ _
  obtain ⟨bm, N, nm, qn, bs, hdct, sn, sub, ab, col, dd, k0, k1, k2, k3, k5, mN, hC, hN, hni, T⟩ := exc_obj I1.kIn q
  refine wpAny_call_exc_subT FB T hC hN hni (fun h' a made => ?_) (by show 1 ≤ sizeLine; decide)
  have na : H1 a = none := I1.hok.gone made.new
  obtain ⟨t, ht, _, _⟩ := made.there
  exact ⟨.ref a, upd H1 a (exo a C none), I1.laidN made.keeps made.new na (exo_ok ht), rfl, q1 _ a (same_upd na) na upd_same⟩
/-- what hands a new exception over, raised -/
theorem pmk_exo (hx : X.ex = []) (he : PE X e te) : PMk X e (fun σ H Q => te σ H fun r H1 => ∃ a D d, r = .ref a ∧ H1 a = some (exo a D d) ∧ X.H_0 a = none ∧ Raises X (.ref D) ∧ Q (.ref D) d (delH H1 a)) := by
  intro pins s σ H Q I h
  refine wpAny_mono (he.run pins s σ H _ I h) (fun u s1 z => ?_) fun _ _ z => z
  obtain ⟨v, H1, I1, r1, a, D, d, rfl, ha, h0, hr, q⟩ := z
  cases r1
  obtain ⟨t1, ho⟩ := exo_at I1.hok ha
  obtain ⟨G, gs, ga, J⟩ := I1.untrack ha (fr0_none h0) hx
  exact ⟨a, _, _, { s1 with heap := G }, delH H1 a, .ref D, d, rfl, J, gs, ga, ho, ⟨rfl, rfl⟩, rfl, rfl, delH_same, rfl, I1.bare, hr, q⟩
end
end K0

/-! ### K2 -/
set_option Elab.async false
set_option linter.all false
set_option maxRecDepth 100000
set_option maxHeartbeats 4000000
namespace K0
open PySem PySem.Spec PyProof.Rows L2
/-- a class with an __init__ of its own: what the written part says, and its __init__ kept -/
def IM (P : Program) (w : World) (K : PySem.W.Frag) (mg : Str → Option Value) (base : Heap) (C : Addr) (fld : Str) : Prop :=
  ∃ (fI : Addr) (B newId initId : String) (bmB : List Value) (fd : FuncData), XI K C fI B newId initId bmB fld ∧ FnOk P w K mg base CX0 1 fI fd ["self", fld] (spInit C fld) ∧ Binds K fd ["self", fld] []
def fldN (j : Nat) : Str := match j with
  | 9 => "number"
  | 10 => "value"
  | 11 => "name"
  | 12 => "index"
  | 13 => "many"
  | 14 => "text"
  | _ => "limit"
structure CM (P : Program) (w : World) (K : PySem.W.Frag) (mg : Str → Option Value) (base : Heap) (C : Nat → Addr) : Prop where
  e0 : ∀ j, j < 9 → PySem.W.excIn K (C j) He.veBase "ValueError.__new__" = true
  im : ∀ j, 9 ≤ j → j < 16 → IM P w K mg base (C j) (fldN j)
def MadeAt (C : Nat → Addr) (H : Hp) (v : V) (j : Nat) (x : V) : Prop := ∃ e, x = .ref e ∧ ((j < 9 ∧ H e = some (exo e (C j) none)) ∨ (9 ≤ j ∧ ∃ dd, H e = some (exo e (C j) (some dd)) ∧ H dd = some (exd dd [(fldN j, v)])))
theorem MadeAt.same {C : Nat → Addr} {H H' : Hp} {v x : V} {j : Nat} (h : MadeAt C H v j x) (s : Same H H') : MadeAt C H' v j x := by
  obtain ⟨e, rfl, ⟨h1, h2⟩ | ⟨h1, dd, h2, h3⟩⟩ := h
  · exact ⟨e, rfl, .inl ⟨h1, s _ _ h2⟩⟩
  · exact ⟨e, rfl, .inr ⟨h1, dd, s _ _ h2, s _ _ h3⟩⟩
def MadeAll (C : Nat → Addr) (H : Hp) (v : V) : Nat → List V → Prop
  | _, [] => True
  | j, x :: xs => MadeAt C H v j x ∧ MadeAll C H v (j + 1) xs
theorem MadeAll.same {C : Nat → Addr} {H H' : Hp} {v : V} (s : Same H H') : ∀ {xs : List V} {j : Nat}, MadeAll C H v j xs → MadeAll C H' v j xs
  | [], _, _ => trivial
  | _ :: _, _, h => ⟨h.1.same s, MadeAll.same s h.2⟩
theorem MadeAll.append {C : Nat → Addr} {H : Hp} {v : V} : ∀ {xs ys : List V} {j n : Nat}, MadeAll C H v j xs → xs.length = n → MadeAll C H v (j + n) ys → MadeAll C H v j (xs ++ ys)
  | [], _, _, _, _, e, h => by subst e; exact h
  | _ :: xs, _, j, _, h, e, g => by
    subst e
    exact ⟨h.1, MadeAll.append h.2 rfl (by rw [show j + 1 + xs.length = j + (xs.length + 1) by omega]; exact g)⟩
theorem MadeAll.get {C : Nat → Addr} {H : Hp} {v : V} : ∀ {xs : List V} {j i : Nat} {x : V}, MadeAll C H v j xs → xs[i]? = some x → MadeAt C H v (j + i) x
  | [], _, _, _, _, e => by simp at e
  | _ :: _, _, 0, _, h, e => by simp at e; subst e; exact h.1
  | _ :: xs, j, i + 1, _, h, e => by
    have z := MadeAll.get (i := i) h.2 (by simpa using e)
    rw [show j + 1 + i = j + (i + 1) by omega] at z
    exact z
section
variable {C : Nat → Addr} {σ : L2.St} {v : V}
def EvM (C : Nat → Addr) (σ : L2.St) (v : V) (te : TE) (j : Nat) : Prop := ∀ H Q, (∀ x H', Same H H' → MadeAt C H' v j x → Q x H') → te σ H Q
def EvMs (C : Nat → Addr) (σ : L2.St) (v : V) (ta : TA) (j n : Nat) : Prop := ∀ H Q, (∀ xs H', Same H H' → xs.length = n → MadeAll C H' v j xs → Q xs H') → ta σ H Q
theorem evm_nil {j : Nat} : EvMs C σ v tNil j 0 := fun H Q q => q [] H (Same.refl H) rfl trivial
theorem evm_cons {te : TE} {ta : TA} {j n : Nat} (h : EvM C σ v te j) (g : EvMs C σ v ta (j + 1) n) : EvMs C σ v (tCons te ta) j (n + 1) := fun H Q q => h H _ fun x H1 s1 m1 => g H1 _ fun xs H2 s2 l m2 => q _ H2 (s1.trans s2) (by rw [List.length_cons, l]) ⟨m1.same s2, m2⟩
theorem evm_0 {i j : Nat} {u : V} (hσ : σ[i]? = some (some u)) (hj : j < 9) : EvM C σ v (tMk0 (C j) (tVar i)) j := fun H Q q => ⟨u, hσ, fun H' a s na ea => q _ H' s ⟨a, rfl, .inl ⟨hj, ea⟩⟩⟩
theorem evm_I {i j : Nat} (hσ : σ[i]? = some (some v)) (hj : 9 ≤ j) : EvM C σ v (tMkI (C j) (fldN j) (tVar i)) j := fun H Q q => ⟨v, hσ, fun H' a dx s na nd ne ea ed => q _ H' s ⟨a, rfl, .inr ⟨hj, dx, ea, ed⟩⟩⟩
theorem rd_ms {ta : TA} {j n : Nat} {H : Hp} {Q : VK} (g : EvMs C σ v ta j n) (hn : n ≤ 1000) (k : ∀ xs H1 l, Same H H1 → xs.length = n → MadeAll C H1 v j xs → H1 l = none → Q (.ref l) (upd H1 l (.lst xs))) : tLst ta σ H Q :=
  g H _ fun xs H1 s l m => ⟨by rw [l]; exact Nat.le_of_lt (small1000 hn), fun p np => k xs H1 p s l m np⟩
/-- found + [..]: one more row of them -/
theorem rd_mcat {ta : TA} {i n m : Nat} {H : Hp} {Q : VK} {l : Addr} {xs : List V} (g : EvMs C σ v ta n m) (hσ : σ[i]? = some (some (.ref l))) (hl : H l = some (.lst xs)) (hx : xs.length = n) (ma : MadeAll C H v 0 xs) (sz : n + m ≤ 1000)
    (k : ∀ H' l' ys, Same H H' → ys.length = n + m → MadeAll C H' v 0 ys → H' l' = some (.lst ys) → Q (.ref l') H') : tOp rCat (tVar i) (tLst ta) σ H Q :=
  ⟨_, hσ, rd_ms g (by omega) fun zs H1 l2 s1 hz mb n2 => ⟨l, l2, xs, zs, rfl, rfl, same_upd n2 _ _ (s1 _ _ hl), upd_same, by rw [hx, hz]; exact Nat.le_of_lt (small1000 sz), fun l3 n3 =>
    k _ _ (xs ++ zs) (s1.trans ((same_upd n2).trans (same_upd n3))) (by rw [List.length_append, hx, hz]) ((ma.same (s1.trans ((same_upd n2).trans (same_upd n3)))).append hx (by rw [Nat.zero_add]; exact mb.same ((same_upd n2).trans (same_upd n3)))) upd_same⟩⟩
end
theorem scMade : FnScope ["word", "value", "found"] ["word", "value"] (defScope (top 24)) := ⟨rfl, rfl, rfl, by decide +kernel, rfl, by decide +kernel, by decide +kernel⟩
theorem scRaise : FnScope ["kind", "value"] ["kind", "value"] (defScope (top 27)) := ⟨rfl, rfl, rfl, by decide +kernel, rfl, by decide +kernel, by decide +kernel⟩
def spMade (C : Nat → Addr) : Sp := fun vs H Q _ => ∃ x v : V, vs = [x, v] ∧ ∀ H' l es, Same H H' → es.length = 16 → MadeAll C H' v 0 es → H' l = some (.lst es) → Q (.ref l) H'
/-- what flies: the class of the kind k, its dict where it has one -/
def Flies (C : Nat → Addr) (H : Hp) (k : Nat) (v : V) (d : Option Addr) : Prop := (k < 9 ∧ d = none) ∨ (9 ≤ k ∧ ∃ dd, d = some dd ∧ H dd = some (exd dd [(fldN k, v)]))
def spRaise (C : Nat → Addr) : Sp := fun vs H _ E => ∃ (k : Nat) (v : V), vs = [.int k, v] ∧ k < 16 ∧ ∀ H' d, Same H H' → Flies C H' k v d → E (.ref (C k)) d H'
theorem same_del {H H1 : Hp} {a : Addr} (s : Same H H1) (n : H a = none) : Same H (delH H1 a) := fun b o e => by
  rw [delH_ne (ne_of_none e n)]
  exact s _ _ e
section
variable {P : Program} {w : World} {K : PySem.W.Frag} {mg : Str → Option Value} {base : Heap} {f : Addr} {fd : FuncData} {C : Nat → Addr}
theorem ok_made {k : Nat} (F : FnP K "_law_made" 24 f fd) (T : CG mg C) (U : CK K C) (M : CM P w K mg base C) : FnOk P w K mg base CX0 (k + 3) f fd ["word", "value"] (spMade C) := by
  refine F.ok scMade (fun vs H Q E h => ?_) (fun cdv A outer s H vs Q E hr h => ?_)
  · obtain ⟨x, v, rfl, _⟩ := h
    rfl
  · obtain ⟨x, v, rfl, q⟩ := h
    obtain ⟨fI9, B9, n9, i9, m9, fd9, X9, F9, b9⟩ := M.im 9 (by decide) (by decide)
    obtain ⟨fI10, B10, n10, i10, m10, fd10, X10, F10, b10⟩ := M.im 10 (by decide) (by decide)
    obtain ⟨fI11, B11, n11, i11, m11, fd11, X11, F11, b11⟩ := M.im 11 (by decide) (by decide)
    obtain ⟨fI12, B12, n12, i12, m12, fd12, X12, F12, b12⟩ := M.im 12 (by decide) (by decide)
    obtain ⟨fI13, B13, n13, i13, m13, fd13, X13, F13, b13⟩ := M.im 13 (by decide) (by decide)
    obtain ⟨fI14, B14, n14, i14, m14, fd14, X14, F14, b14⟩ := M.im 14 (by decide) (by decide)
    obtain ⟨fI15, B15, n15, i15, m15, fd15, X15, F15, b15⟩ := M.im 15 (by decide) (by decide)
    have hr2 : Room (1 + 1) (A.deeper (envOfC "_law_made" (defScope (top 24)) s.heap.objs.size f cdv)) := hr.mono (by omega)
    refine ⟨_, PSs.nox (pss_cons (ps_set (i := 2) scMade.nd rfl (.inl rfl) (pe_lst (pa_cons (pe_mk0 (C := C 0) PySem.F.excBase_ValueError (M.e0 0 (by decide)) (U.xf 0 (by decide)).kp (by rfl) T.g0 (pv 0)) (pa_cons (pe_mk0 (C := C 1) PySem.F.excBase_ValueError (M.e0 1 (by decide)) (U.xf 1 (by decide)).kp (by rfl) T.g1 (pv 0)) (pa_cons (pe_mk0 (C := C 2) PySem.F.excBase_ValueError (M.e0 2 (by decide)) (U.xf 2 (by decide)).kp (by rfl) T.g2 (pv 0)) (pa_cons (pe_mk0 (C := C 3) PySem.F.excBase_ValueError (M.e0 3 (by decide)) (U.xf 3 (by decide)).kp (by rfl) T.g3 (pv 0)) (pa_cons (pe_mk0 (C := C 4) PySem.F.excBase_ValueError (M.e0 4 (by decide)) (U.xf 4 (by decide)).kp (by rfl) T.g4 (pv 0)) pa_nil)))))))
      (pss_cons (ps_set (i := 2) scMade.nd rfl (.inl rfl) (pe_op op_cat (pv 2) (pe_lst (pa_cons (pe_mk0 (C := C 5) PySem.F.excBase_ValueError (M.e0 5 (by decide)) (U.xf 5 (by decide)).kp (by rfl) T.g5 (pv 0)) (pa_cons (pe_mk0 (C := C 6) PySem.F.excBase_ValueError (M.e0 6 (by decide)) (U.xf 6 (by decide)).kp (by rfl) T.g6 (pv 0)) (pa_cons (pe_mk0 (C := C 7) PySem.F.excBase_ValueError (M.e0 7 (by decide)) (U.xf 7 (by decide)).kp (by rfl) T.g7 (pv 0)) (pa_cons (pe_mk0 (C := C 8) PySem.F.excBase_ValueError (M.e0 8 (by decide)) (U.xf 8 (by decide)).kp (by rfl) T.g8 (pv 0)) pa_nil)))))))
      (pss_cons (ps_set (i := 2) scMade.nd rfl (.inl rfl) (pe_op op_cat (pv 2) (pe_lst (pa_cons (pe_mkI (C := C 9) X9 (U.xf 9 (by decide)) F9 hr2 b9 (by rfl) T.g9 (pv 1)) (pa_cons (pe_mkI (C := C 10) X10 (U.xf 10 (by decide)) F10 hr2 b10 (by rfl) T.g10 (pv 1)) (pa_cons (pe_mkI (C := C 11) X11 (U.xf 11 (by decide)) F11 hr2 b11 (by rfl) T.g11 (pv 1)) (pa_cons (pe_mkI (C := C 12) X12 (U.xf 12 (by decide)) F12 hr2 b12 (by rfl) T.g12 (pv 1)) pa_nil)))))))
      (pss_one (ps_ret (pe_op op_cat (pv 2) (pe_lst (pa_cons (pe_mkI (C := C 13) X13 (U.xf 13 (by decide)) F13 hr2 b13 (by rfl) T.g13 (pv 1)) (pa_cons (pe_mkI (C := C 14) X14 (U.xf 14 (by decide)) F14 hr2 b14 (by rfl) T.g14 (pv 1)) (pa_cons (pe_mkI (C := C 15) X15 (U.xf 15 (by decide)) F15 hr2 b15 (by rfl) T.g15 (pv 1)) pa_nil)))))))))), ?_⟩
    refine sq_asg (rd_ms (C := C) (v := v) (j := 0) (evm_cons (evm_0 (j := 0) rfl (by decide)) (evm_cons (evm_0 (j := 1) rfl (by decide)) (evm_cons (evm_0 (j := 2) rfl (by decide)) (evm_cons (evm_0 (j := 3) rfl (by decide)) (evm_cons (evm_0 (j := 4) rfl (by decide)) evm_nil))))) (by decide) fun xs0 H0 l0 s0 z0 m0 n0 => ?_)
    refine sq_asg (rd_mcat (C := C) (v := v) (evm_cons (evm_0 (j := 5) rfl (by decide)) (evm_cons (evm_0 (j := 6) rfl (by decide)) (evm_cons (evm_0 (j := 7) rfl (by decide)) (evm_cons (evm_0 (j := 8) rfl (by decide)) evm_nil)))) rfl upd_same z0 (m0.same (same_upd n0)) (by decide) fun H1 l1 xs1 s1 z1 m1 e1 => ?_)
    refine sq_asg (rd_mcat (C := C) (v := v) (evm_cons (evm_I (j := 9) rfl (by decide)) (evm_cons (evm_I (j := 10) rfl (by decide)) (evm_cons (evm_I (j := 11) rfl (by decide)) (evm_cons (evm_I (j := 12) rfl (by decide)) evm_nil)))) rfl e1 z1 m1 (by decide) fun H2 l2 xs2 s2 z2 m2 e2 => ?_)
    refine (rd_mcat (C := C) (v := v) (evm_cons (evm_I (j := 13) rfl (by decide)) (evm_cons (evm_I (j := 14) rfl (by decide)) (evm_cons (evm_I (j := 15) rfl (by decide)) evm_nil))) rfl e2 z2 m2 (by decide) fun H3 l3 xs3 s3 z3 m3 e3 => ?_)
    exact q H3 l3 xs3 (s0.trans ((same_upd n0).trans (s1.trans (s2.trans s3)))) z3 m3 e3
theorem raised0 {X : Cx} {j : Nat} {σ : L2.St} {H : Hp} {v : V} {E : XK} (hσ : σ[1]? = some (some v)) (hj : j < 9) (f : XF X.K (C j)) (h0 : X.H_0 = H) (q : ∀ H' d, Same H H' → Flies C H' j v d → E (.ref (C j)) d H') :
    tMk0 (C j) (tVar 1) σ H fun r H1 => ∃ a D d, r = .ref a ∧ H1 a = some (exo a D d) ∧ X.H_0 a = none ∧ Raises X (.ref D) ∧ E (.ref D) d (delH H1 a) :=
  ⟨v, hσ, fun H' a s na ea => ⟨a, C j, none, rfl, ea, by rw [h0]; exact na, raises_own f.hsub f.ty, q _ _ (same_del s na) (.inl ⟨hj, rfl⟩)⟩⟩
theorem raisedI {X : Cx} {j : Nat} {σ : L2.St} {H : Hp} {v : V} {E : XK} (hσ : σ[1]? = some (some v)) (hj : 9 ≤ j) (f : XF X.K (C j)) (h0 : X.H_0 = H) (q : ∀ H' d, Same H H' → Flies C H' j v d → E (.ref (C j)) d H') :
    tMkI (C j) (fldN j) (tVar 1) σ H fun r H1 => ∃ a D d, r = .ref a ∧ H1 a = some (exo a D d) ∧ X.H_0 a = none ∧ Raises X (.ref D) ∧ E (.ref D) d (delH H1 a) :=
  ⟨v, hσ, fun H' a dx s na nd ne ea ed => ⟨a, C j, some dx, rfl, ea, by rw [h0]; exact na, raises_own f.hsub f.ty, q _ _ (same_del s na) (.inr ⟨hj, dx, rfl, by rw [delH_ne ne]; exact ed⟩)⟩⟩
theorem ok_raise {k : Nat} (F : FnP K "_law_raise" 27 f fd) (T : CG mg C) (U : CK K C) (M : CM P w K mg base C) : FnOk P w K mg base (L2.CX P w) (k + 3) f fd ["kind", "value"] (spRaise C) := by
  refine F.ok scRaise (fun vs H Q E h => ?_) (fun cdv A outer s H vs Q E hr h => ?_)
  · obtain ⟨j, v, rfl, _⟩ := h
    rfl
  · obtain ⟨j, v, rfl, hj, q⟩ := h
    obtain ⟨fI9, B9, n9, i9, m9, fd9, X9, F9, b9⟩ := M.im 9 (by decide) (by decide)
    obtain ⟨fI10, B10, n10, i10, m10, fd10, X10, F10, b10⟩ := M.im 10 (by decide) (by decide)
    obtain ⟨fI11, B11, n11, i11, m11, fd11, X11, F11, b11⟩ := M.im 11 (by decide) (by decide)
    obtain ⟨fI12, B12, n12, i12, m12, fd12, X12, F12, b12⟩ := M.im 12 (by decide) (by decide)
    obtain ⟨fI13, B13, n13, i13, m13, fd13, X13, F13, b13⟩ := M.im 13 (by decide) (by decide)
    obtain ⟨fI14, B14, n14, i14, m14, fd14, X14, F14, b14⟩ := M.im 14 (by decide) (by decide)
    obtain ⟨fI15, B15, n15, i15, m15, fd15, X15, F15, b15⟩ := M.im 15 (by decide) (by decide)
    have hr2 : Room (1 + 1) (A.deeper (envOfC "_law_raise" (defScope (top 27)) s.heap.objs.size f cdv)) := hr.mono (by omega)
    refine ⟨_, (pss_cons (ps_if (pt_cmpR op_eq (pv 0) pe_int (nomark _)) (pss_one (ps_raise rfl (takes_of rfl rfl rfl rfl) (pmk_exo rfl (pe_mk0 (C := C 1) PySem.F.excBase_ValueError (M.e0 1 (by decide)) (U.xf 1 (by decide)).kp (by rfl) T.g1 (pv 1))))) pss_nil)
      (pss_cons (ps_if (pt_cmpR op_eq (pv 0) pe_int (nomark _)) (pss_one (ps_raise rfl (takes_of rfl rfl rfl rfl) (pmk_exo rfl (pe_mk0 (C := C 2) PySem.F.excBase_ValueError (M.e0 2 (by decide)) (U.xf 2 (by decide)).kp (by rfl) T.g2 (pv 1))))) pss_nil)
      (pss_cons (ps_if (pt_cmpR op_eq (pv 0) pe_int (nomark _)) (pss_one (ps_raise rfl (takes_of rfl rfl rfl rfl) (pmk_exo rfl (pe_mk0 (C := C 3) PySem.F.excBase_ValueError (M.e0 3 (by decide)) (U.xf 3 (by decide)).kp (by rfl) T.g3 (pv 1))))) pss_nil)
      (pss_cons (ps_if (pt_cmpR op_eq (pv 0) pe_int (nomark _)) (pss_one (ps_raise rfl (takes_of rfl rfl rfl rfl) (pmk_exo rfl (pe_mk0 (C := C 4) PySem.F.excBase_ValueError (M.e0 4 (by decide)) (U.xf 4 (by decide)).kp (by rfl) T.g4 (pv 1))))) pss_nil)
      (pss_cons (ps_if (pt_cmpR op_eq (pv 0) pe_int (nomark _)) (pss_one (ps_raise rfl (takes_of rfl rfl rfl rfl) (pmk_exo rfl (pe_mk0 (C := C 5) PySem.F.excBase_ValueError (M.e0 5 (by decide)) (U.xf 5 (by decide)).kp (by rfl) T.g5 (pv 1))))) pss_nil)
      (pss_cons (ps_if (pt_cmpR op_eq (pv 0) pe_int (nomark _)) (pss_one (ps_raise rfl (takes_of rfl rfl rfl rfl) (pmk_exo rfl (pe_mk0 (C := C 6) PySem.F.excBase_ValueError (M.e0 6 (by decide)) (U.xf 6 (by decide)).kp (by rfl) T.g6 (pv 1))))) pss_nil)
      (pss_cons (ps_if (pt_cmpR op_eq (pv 0) pe_int (nomark _)) (pss_one (ps_raise rfl (takes_of rfl rfl rfl rfl) (pmk_exo rfl (pe_mk0 (C := C 7) PySem.F.excBase_ValueError (M.e0 7 (by decide)) (U.xf 7 (by decide)).kp (by rfl) T.g7 (pv 1))))) pss_nil)
      (pss_cons (ps_if (pt_cmpR op_eq (pv 0) pe_int (nomark _)) (pss_one (ps_raise rfl (takes_of rfl rfl rfl rfl) (pmk_exo rfl (pe_mk0 (C := C 8) PySem.F.excBase_ValueError (M.e0 8 (by decide)) (U.xf 8 (by decide)).kp (by rfl) T.g8 (pv 1))))) pss_nil)
      (pss_cons (ps_if (pt_cmpR op_eq (pv 0) pe_int (nomark _)) (pss_one (ps_raise rfl (takes_of rfl rfl rfl rfl) (pmk_exo rfl (pe_mkI (C := C 9) X9 (U.xf 9 (by decide)) F9 hr2 b9 (by rfl) T.g9 (pv 1))))) pss_nil)
      (pss_cons (ps_if (pt_cmpR op_eq (pv 0) pe_int (nomark _)) (pss_one (ps_raise rfl (takes_of rfl rfl rfl rfl) (pmk_exo rfl (pe_mkI (C := C 10) X10 (U.xf 10 (by decide)) F10 hr2 b10 (by rfl) T.g10 (pv 1))))) pss_nil)
      (pss_cons (ps_if (pt_cmpR op_eq (pv 0) pe_int (nomark _)) (pss_one (ps_raise rfl (takes_of rfl rfl rfl rfl) (pmk_exo rfl (pe_mkI (C := C 11) X11 (U.xf 11 (by decide)) F11 hr2 b11 (by rfl) T.g11 (pv 1))))) pss_nil)
      (pss_cons (ps_if (pt_cmpR op_eq (pv 0) pe_int (nomark _)) (pss_one (ps_raise rfl (takes_of rfl rfl rfl rfl) (pmk_exo rfl (pe_mkI (C := C 12) X12 (U.xf 12 (by decide)) F12 hr2 b12 (by rfl) T.g12 (pv 1))))) pss_nil)
      (pss_cons (ps_if (pt_cmpR op_eq (pv 0) pe_int (nomark _)) (pss_one (ps_raise rfl (takes_of rfl rfl rfl rfl) (pmk_exo rfl (pe_mkI (C := C 13) X13 (U.xf 13 (by decide)) F13 hr2 b13 (by rfl) T.g13 (pv 1))))) pss_nil)
      (pss_cons (ps_if (pt_cmpR op_eq (pv 0) pe_int (nomark _)) (pss_one (ps_raise rfl (takes_of rfl rfl rfl rfl) (pmk_exo rfl (pe_mkI (C := C 14) X14 (U.xf 14 (by decide)) F14 hr2 b14 (by rfl) T.g14 (pv 1))))) pss_nil)
      (pss_cons (ps_if (pt_cmpR op_eq (pv 0) pe_int (nomark _)) (pss_one (ps_raise rfl (takes_of rfl rfl rfl rfl) (pmk_exo rfl (pe_mkI (C := C 15) X15 (U.xf 15 (by decide)) F15 hr2 b15 (by rfl) T.g15 (pv 1))))) pss_nil)
      (pss_one (ps_raise rfl (takes_of rfl rfl rfl rfl) (pmk_exo rfl (pe_mk0 (C := C 0) PySem.F.excBase_ValueError (M.e0 0 (by decide)) (U.xf 0 (by decide)).kp (by rfl) T.g0 (pv 1)))))))))))))))))))), ?_⟩
    refine ⟨_, rfl, rfl, _, rfl, ite2 (fun e => ?_) (fun e1 => ?_)⟩
    · have ej : j = 1 := by
        have z : V.int (j : Int) = V.int 1 := of_decide_eq_true e
        injection z with z
        omega
      subst ej
      exact raised0 rfl (by decide) (U.xf 1 (by decide)) rfl q
    refine ⟨_, rfl, rfl, _, rfl, ite2 (fun e => ?_) (fun e2 => ?_)⟩
    · have ej : j = 2 := by
        have z : V.int (j : Int) = V.int 2 := of_decide_eq_true e
        injection z with z
        omega
      subst ej
      exact raised0 rfl (by decide) (U.xf 2 (by decide)) rfl q
    refine ⟨_, rfl, rfl, _, rfl, ite2 (fun e => ?_) (fun e3 => ?_)⟩
    · have ej : j = 3 := by
        have z : V.int (j : Int) = V.int 3 := of_decide_eq_true e
        injection z with z
        omega
      subst ej
      exact raised0 rfl (by decide) (U.xf 3 (by decide)) rfl q
    refine ⟨_, rfl, rfl, _, rfl, ite2 (fun e => ?_) (fun e4 => ?_)⟩
    · have ej : j = 4 := by
        have z : V.int (j : Int) = V.int 4 := of_decide_eq_true e
        injection z with z
        omega
      subst ej
      exact raised0 rfl (by decide) (U.xf 4 (by decide)) rfl q
    refine ⟨_, rfl, rfl, _, rfl, ite2 (fun e => ?_) (fun e5 => ?_)⟩
    · have ej : j = 5 := by
        have z : V.int (j : Int) = V.int 5 := of_decide_eq_true e
        injection z with z
        omega
      subst ej
      exact raised0 rfl (by decide) (U.xf 5 (by decide)) rfl q
    refine ⟨_, rfl, rfl, _, rfl, ite2 (fun e => ?_) (fun e6 => ?_)⟩
    · have ej : j = 6 := by
        have z : V.int (j : Int) = V.int 6 := of_decide_eq_true e
        injection z with z
        omega
      subst ej
      exact raised0 rfl (by decide) (U.xf 6 (by decide)) rfl q
    refine ⟨_, rfl, rfl, _, rfl, ite2 (fun e => ?_) (fun e7 => ?_)⟩
    · have ej : j = 7 := by
        have z : V.int (j : Int) = V.int 7 := of_decide_eq_true e
        injection z with z
        omega
      subst ej
      exact raised0 rfl (by decide) (U.xf 7 (by decide)) rfl q
    refine ⟨_, rfl, rfl, _, rfl, ite2 (fun e => ?_) (fun e8 => ?_)⟩
    · have ej : j = 8 := by
        have z : V.int (j : Int) = V.int 8 := of_decide_eq_true e
        injection z with z
        omega
      subst ej
      exact raised0 rfl (by decide) (U.xf 8 (by decide)) rfl q
    refine ⟨_, rfl, rfl, _, rfl, ite2 (fun e => ?_) (fun e9 => ?_)⟩
    · have ej : j = 9 := by
        have z : V.int (j : Int) = V.int 9 := of_decide_eq_true e
        injection z with z
        omega
      subst ej
      exact raisedI (j := 9) rfl (by decide) (U.xf 9 (by decide)) rfl q
    refine ⟨_, rfl, rfl, _, rfl, ite2 (fun e => ?_) (fun e10 => ?_)⟩
    · have ej : j = 10 := by
        have z : V.int (j : Int) = V.int 10 := of_decide_eq_true e
        injection z with z
        omega
      subst ej
      exact raisedI (j := 10) rfl (by decide) (U.xf 10 (by decide)) rfl q
    refine ⟨_, rfl, rfl, _, rfl, ite2 (fun e => ?_) (fun e11 => ?_)⟩
    · have ej : j = 11 := by
        have z : V.int (j : Int) = V.int 11 := of_decide_eq_true e
        injection z with z
        omega
      subst ej
      exact raisedI (j := 11) rfl (by decide) (U.xf 11 (by decide)) rfl q
    refine ⟨_, rfl, rfl, _, rfl, ite2 (fun e => ?_) (fun e12 => ?_)⟩
    · have ej : j = 12 := by
        have z : V.int (j : Int) = V.int 12 := of_decide_eq_true e
        injection z with z
        omega
      subst ej
      exact raisedI (j := 12) rfl (by decide) (U.xf 12 (by decide)) rfl q
    refine ⟨_, rfl, rfl, _, rfl, ite2 (fun e => ?_) (fun e13 => ?_)⟩
    · have ej : j = 13 := by
        have z : V.int (j : Int) = V.int 13 := of_decide_eq_true e
        injection z with z
        omega
      subst ej
      exact raisedI (j := 13) rfl (by decide) (U.xf 13 (by decide)) rfl q
    refine ⟨_, rfl, rfl, _, rfl, ite2 (fun e => ?_) (fun e14 => ?_)⟩
    · have ej : j = 14 := by
        have z : V.int (j : Int) = V.int 14 := of_decide_eq_true e
        injection z with z
        omega
      subst ej
      exact raisedI (j := 14) rfl (by decide) (U.xf 14 (by decide)) rfl q
    refine ⟨_, rfl, rfl, _, rfl, ite2 (fun e => ?_) (fun e15 => ?_)⟩
    · have ej : j = 15 := by
        have z : V.int (j : Int) = V.int 15 := of_decide_eq_true e
        injection z with z
        omega
      subst ej
      exact raisedI (j := 15) rfl (by decide) (U.xf 15 (by decide)) rfl q
    have ej : j = 0 := by
      have d1 : j ≠ 1 := fun z => e1 (decide_eq_true (by rw [z]; rfl))
      have d2 : j ≠ 2 := fun z => e2 (decide_eq_true (by rw [z]; rfl))
      have d3 : j ≠ 3 := fun z => e3 (decide_eq_true (by rw [z]; rfl))
      have d4 : j ≠ 4 := fun z => e4 (decide_eq_true (by rw [z]; rfl))
      have d5 : j ≠ 5 := fun z => e5 (decide_eq_true (by rw [z]; rfl))
      have d6 : j ≠ 6 := fun z => e6 (decide_eq_true (by rw [z]; rfl))
      have d7 : j ≠ 7 := fun z => e7 (decide_eq_true (by rw [z]; rfl))
      have d8 : j ≠ 8 := fun z => e8 (decide_eq_true (by rw [z]; rfl))
      have d9 : j ≠ 9 := fun z => e9 (decide_eq_true (by rw [z]; rfl))
      have d10 : j ≠ 10 := fun z => e10 (decide_eq_true (by rw [z]; rfl))
      have d11 : j ≠ 11 := fun z => e11 (decide_eq_true (by rw [z]; rfl))
      have d12 : j ≠ 12 := fun z => e12 (decide_eq_true (by rw [z]; rfl))
      have d13 : j ≠ 13 := fun z => e13 (decide_eq_true (by rw [z]; rfl))
      have d14 : j ≠ 14 := fun z => e14 (decide_eq_true (by rw [z]; rfl))
      have d15 : j ≠ 15 := fun z => e15 (decide_eq_true (by rw [z]; rfl))
      omega
    subst ej
    exact raised0 rfl (by decide) (U.xf 0 (by decide)) rfl q
end
end K0

/-! ### E6 -/
set_option Elab.async false
set_option linter.all false
set_option maxRecDepth 100000
set_option maxHeartbeats 4000000
/-! bools.index(True, 1); a field of an exception, tracked or caught; repr in a suite. -/
namespace K0
open PySem PySem.Spec PyProof.Rows L2
theorem bools_at : ∀ {bs : List Bool} {us : List Value} {i : Nat} (h : i < us.length), Vals (bs.map V.bl) us → us[i] = .bool (bs.getD i false)
  | [], us, _, h, r => by cases r; exact absurd h (Nat.not_lt_zero _)
  | b :: bs, _, 0, h, r => by cases r with | cons r1 r2 => cases r1; rfl
  | b :: bs, _, i + 1, h, r => by cases r with | cons r1 r2 => exact bools_at (bs := bs) (i := i) (Nat.lt_of_succ_lt_succ h) r2
def rIx1 (K : PySem.W.Frag) : V → List V → Hp → VK → Prop := fun x xs H Q => ∃ (a : Addr) (bs : List Bool) (j : Nat), x = .ref a ∧ xs = [.bl true, .int 1] ∧ SqL K H a (bs.map V.bl) ∧ j < bs.length ∧ 1 ≤ j ∧ bs.getD j false = true ∧ (∀ m, 1 ≤ m → m < j → bs.getD m false = false) ∧ Q (.int (j : Nat)) H
theorem mt_index1 {X : Cx} : MtR X "list.index" (rIx1 X.K) := by
  intro pins s σ H x xs v us Q I rx rxs h
  obtain ⟨a, bs, j, rfl, rfl, hs, hj, j1, hit, hno, q⟩ := h
  cases rx
  obtain ⟨u1, u2, rfl, r1, r2⟩ := vals2 rxs
  cases r1
  obtain ⟨t, rfl⟩ := r2
  obtain ⟨its, rv, ⟨⟨cls, dd, data, sl⟩, n, ho, hc, hdn, hd⟩, hlen⟩ := I.list hs
  simp only at hc hd
  subst hc hd
  have hl := rv.length
  rw [List.length_map] at hl
  rw [List.length_map, sizeLine_eq] at hlen
  have eqs : ∀ m (hm : m < its.toArray.size), its.toArray[m] = .bool (bs.getD m false) := fun m hm => by
    have z := bools_at (i := m) (by simpa using hm) rv
    simpa using z
  refine call_meets PySem.F.slot_list_index ⟨_, ho, rfl⟩ PySem.F.entry_list_index (PySem.F.args_list_index_3 _ _ _) (SeqAt.list_index3_found a its.toArray n dd sl (.bool true) (fun m => bs.getD m false) 1 t j (by simpa using (show j < its.length by omega)) ?_ ?_ hit ?_) ⟨ho, fun m hm => ?_, ?_⟩
  · rw [SeqAt.searchFrom_nonneg (by decide)]
    exact j1
  · have e2 : (2 : Int) ^ 63 = 9223372036854775808 := by decide
    omega
  · intro m hm h1 h2
    rw [SeqAt.searchFrom_nonneg (by decide)] at h1
    exact hno m h1 h2
  · rw [eqs m hm]
    have z := SeqAt.EqAt.bool_bool (A := X.A.in1) (s := s) (bs.getD m false) true
    have e : (bs.getD m false == true) = bs.getD m false := by cases bs.getD m false <;> rfl
    rw [e] at z
    exact z
  · exact ⟨.int (j : Nat), H, I.tok _, ⟨_, rfl⟩, q⟩
theorem kin_len (j : Nat) : (kinL j).length = 16 := rfl
theorem kin_at : ∀ j, j < 16 → (kinL j).getD j false = true := by decide
theorem kin_no : ∀ j, j < 16 → ∀ m, m < j → 1 ≤ m → (kinL j).getD m false = false := by decide
section
variable {X : Cx} {C : Addr} {e : Expr} {te : TE} {pos : Pos} {n : Str}
/-- e.n, e tracked -/
def tXfT (C : Addr) (n : Str) (te : TE) : TE := fun σ H Q => te σ H fun x H1 => ∃ (a dd : Addr) (fs : List (Str × V)) (v : V), x = .ref a ∧ H1 a = some (exo a C (some dd)) ∧ H1 dd = some (exd dd fs) ∧ fs.lookup n = some v ∧ Q v H1
theorem pe_xfT (f : XF X.K C) (no : PySem.W.findIn X.K (.ref C) n = some none) (he : PE X e te) (hb : attributeBase e n X.env (eval e X.env) = eval e X.env := by rfl) : PE X (.Attribute e n pos) (tXfT C n te) := by
  refine ⟨fun pins s σ H Q I h => attr_of hb (thn (he.run pins s σ H _ I h) fun u s1 ⟨x, H1, I1, rx, a, dd, fs, v, ex, ea, ed, l, q⟩ => ?_)⟩
  subst ex
  obtain rfl : u = Value.ref a := rx
  obtain ⟨t1, ho⟩ := exo_at I1.hok ea
  obtain ⟨mA, hns, hr⟩ := exd_at I1.hok ed
  obtain ⟨od, hod, hl⟩ := lookIn_ns hns
  obtain ⟨u, hu, ru⟩ := RelO.some_of (v := v) (o := mA n) (by rw [← l]; exact hr n)
  exact HandSPX.exc_get I1.kIn (od := some od) ⟨ho, rfl, rfl, hod⟩ f.hga f.hgt f.hsub (PySem.W.findObj_own f.hd no rfl (by rw [hl, hu])) (handed_of ru) ⟨v, H1, I1.tok _, ru, q⟩
/-- e.n, e caught and pinned -/
def tXfP (p : Addr × Obj) (C : Addr) (n : Str) (te : TE) : TE := fun σ H Q => te σ H fun x H1 => ∃ (dd : Addr) (fs : List (Str × V)) (v : V), x = .ref p.1 ∧ Zc (.ref C) (some dd) p.2 ∧ (∃ us, p.2.data = .fields us) ∧ H1 dd = some (exd dd fs) ∧ fs.lookup n = some v ∧ Q v H1
theorem pe_xfP {p : Addr × Obj} (hp : p ∈ X.pn) (f : XF X.K C) (no : PySem.W.findIn X.K (.ref C) n = some none) (he : PE X e te) (hb : attributeBase e n X.env (eval e X.env) = eval e X.env := by rfl) : PE X (.Attribute e n pos) (tXfP p C n te) := by
  refine ⟨fun pins s σ H Q I h => attr_of hb (thn (he.run pins s σ H _ I h) fun u s1 ⟨x, H1, I1, rx, dd, fs, v, ex, hz, ⟨us, hv⟩, ed, l, q⟩ => ?_)⟩
  subst ex
  obtain rfl : u = Value.ref p.1 := rx
  obtain ⟨ho, _⟩ := I1.pin p (List.mem_append_left _ hp)
  obtain ⟨mA, hns, hr⟩ := exd_at I1.hok ed
  obtain ⟨od, hod, hl⟩ := lookIn_ns hns
  obtain ⟨u, hu, ru⟩ := RelO.some_of (v := v) (o := mA n) (by rw [← l]; exact hr n)
  exact HandSPX.exc_get I1.kIn (od := some od) ⟨ho, hz.1, by unfold PySem.W.notCls; rw [hv] <;> rfl, by rw [hz.2]; exact hod⟩ f.hga f.hgt f.hsub (PySem.W.findObj_own f.hd no rfl (by rw [hl, hu])) (handed_of ru) ⟨v, H1, I1.tok _, ru, q⟩
end
end K0

/-! ### K3 -/
set_option Elab.async false
set_option linter.all false
set_option maxRecDepth 100000
set_option maxHeartbeats 4000000
namespace K0
open PySem PySem.Spec PyProof.Rows L2
theorem pss_imp {X : Cx} {st : List Stmt} {t t' : TS} (h : PSs X st t) (i : ∀ D σ H, t' D σ H → t D σ H) : PSs X st t' := ⟨fun pins s σ H D I z => h.run pins s σ H D I (i D σ H z)⟩
/-- what the classes say to except clauses; no class has the field that its instances get -/
structure CN (K : PySem.W.Frag) (C : Nat → Addr) : Prop where
  ex : ∀ i j, i < 16 → j < 16 → PySem.W.exmOne K (.ref (C j)) (.ref (C i)) = some (isK i j)
  no : ∀ j, 9 ≤ j → j < 16 → PySem.W.findIn K (.ref (C j)) (fldN j) = some none
theorem exm_cons {K : PySem.W.Frag} {cls c : Value} {r : List Value} {b d : Bool} (h : PySem.W.exmOne K cls c = some b) (g : PySem.W.exmAny K cls r = some d) : PySem.W.exmAny K cls (c :: r) = some (b || d) := by
  unfold PySem.W.exmAny
  rw [h, g]
theorem exm_nil {K : PySem.W.Frag} {cls : Value} : PySem.W.exmAny K cls [] = some false := rfl
theorem ifY {c : Bool} {A B : Prop} (h : c = true) (a : A) : if c = true then A else B := by
  rw [if_pos h]
  exact a
theorem room_mark {k : Nat} {A : Around} {h : Option Value} (r : Room k A) : L2H.RoomH k (A.mark h) := ⟨r.dp, r.un⟩
theorem look1 (f : Str) (v : V) : List.lookup f [(f, v)] = some v := by simp [List.lookup]
def tsK (K : PySem.W.Frag) (C : Nat → Addr) : Addr → Value → Option Addr → TS := fun a cls d D σ H => ∀ oe : Obj, Zc cls d oe → (∃ vs, oe.data = .fields vs) → tRet (tBM K "list" (rIx1 K) (tCall (spKindsE C (a, oe)) [] E0 (tCons (tVar 2) tNil)) (tCons (tC (.bl true)) (tCons (tC (.int 1)) tNil))) D σ H
def tsF (K : PySem.W.Frag) (C : Nat → Addr) (j : Nat) : Addr → Value → Option Addr → TS := fun a cls d D σ H => ∀ oe : Obj, Zc cls d oe → (∃ vs, oe.data = .fields vs) →
  tRet (tIf (tTest (tOp rEq (tCB (rRepr K) (tCons (tXfP (a, oe) (C j) (fldN j) (tVar 2)) tNil)) (tCB (rRepr K) (tCons (tVar 1) tNil)))) (tC (.int (j : Int))) (tUn (rU fun i => .int (-i)) (tC (.int 1)))) D σ H
def ts0 (v : V) : Addr → Value → Option Addr → TS := fun a cls d D σ H => ∀ oe : Obj, Zc cls d oe → (∃ vs, oe.data = .fields vs) → tRet (tC v) D σ H
theorem flies_dict {C : Nat → Addr} {H : Hp} {k : Nat} {v : V} {d : Option Addr} (h : Flies C H k v d) : DictAt H d := fun dd e => by
  rcases h with ⟨_, h⟩ | ⟨_, x, h, g⟩
  · rw [h] at e; cases e
  · rw [h] at e; cases e; exact ⟨_, g⟩
theorem scCaught : FnScope ["kind", "value", "e"] ["kind", "value"] (defScope (top 28)) := ⟨rfl, rfl, rfl, by decide +kernel, rfl, by decide +kernel, by decide +kernel⟩
theorem scByBase : FnScope ["kind", "value"] ["kind", "value"] (defScope (top 29)) := ⟨rfl, rfl, rfl, by decide +kernel, rfl, by decide +kernel, by decide +kernel⟩
def spCaught (K : PySem.W.Frag) : Sp := fun vs H Q _ => ∃ (k : Nat) (v : V), vs = [.int k, v] ∧ k < 16 ∧ (9 ≤ k → ∃ d, Dv K H v d ∧ Fit d) ∧ ∀ H', Same H H' → Q (.int (k : Int)) H'
def spByBase : Sp := fun vs H Q _ => ∃ (k : Nat) (v : V), vs = [.int k, v] ∧ k < 16 ∧ ∀ H', Same H H' → Q (.bl (decide (k < 10))) H'
section
variable {P : Program} {w : World} {K : PySem.W.Frag} {mg : Str → Option Value} {base : Heap} {f fR fK : Addr} {fd fdR fdK : FuncData} {C : Nat → Addr}
/-- the suite of the first two clauses -/
theorem rd_tsK {k : Nat} {dd : Option Addr} {v : V} {σ : L2.St} {H H0 : Hp} {a : Addr} {D : Ends} (hk : k < 16) (k1 : 1 ≤ k) (fl : Flies C H k v dd) (h0 : Same H0 H) (hσ : σ[2]? = some (some (.ref a))) (q : ∀ H', Same H0 H' → D.rt (.int (k : Int)) H') : tsK K C a (.ref (C k)) dd D σ H :=
  fun oe hz hf => ⟨.ref a, hσ, k, dd, rfl, hk, hz, hf, flies_dict fl, fun H2 l s2 e2 => ⟨.inl ⟨rfl, _, .of e2⟩, l, kinL k, k, rfl, rfl, .of e2, by rw [kin_len]; exact hk, k1, kin_at k hk, fun m h1 h2 => kin_no k hk m h2 h1, q H2 (h0.trans s2)⟩⟩
theorem rd_tsF {j : Nat} {dd : Option Addr} {v : V} {d : PyData} {σ : L2.St} {H H0 : Hp} {a : Addr} {D : Ends} (hj : 9 ≤ j) (fl : Flies C H j v dd) (h0 : Same H0 H) (hσ : σ[2]? = some (some (.ref a))) (hv : σ[1]? = some (some v)) (vd : Dv K H v d) (ft : Fit d) (q : ∀ H', Same H0 H' → D.rt (.int (j : Int)) H') : tsF K C j a (.ref (C j)) dd D σ H := by
  intro oe hz hf
  rcases fl with ⟨z, _⟩ | ⟨_, x, rfl, hx⟩
  · exact absurd z (Nat.not_lt.mpr hj)
  · exact ⟨.ref a, hσ, x, _, v, rfl, hz, hf, hx, look1 _ _, v, d, rfl, vd, ft, v, hv, v, d, rfl, vd, ft, rfl, _, rfl, ifY (decide_eq_true rfl) (q H h0)⟩
theorem ok_caught {n : Nat} (F : FnP K "_law_caught" 28 f fd) (T : CG mg C) (U : CK K C) (N : CN K C) (hsys : sysB K = true) (mrepr : mg "repr" = none) (FR : FnOk P w K mg base (L2.CX P w) (n + 3) fR fdR ["kind", "value"] (spRaise C)) (gR : mg "_law_raise" = some (.ref fR)) (kR : PySem.W.keepIn K (.ref fR) = true) (bR : Binds K fdR ["kind", "value"] [])
    (FK : FnE P w K mg base CX0 (n + 3) fK fdK ["e"] (spKindsE C)) (gK : mg "_law_kinds" = some (.ref fK)) (kK : PySem.W.keepIn K (.ref fK) = true) (bK : Binds K fdK ["e"] []) : FnG P w K mg base CX0 (n + 4) f fd ["kind", "value"] (spCaught K) := by
  refine fnG_of F scCaught (fun vs H Q E h => ?_) (fun cdv A outer s H vs Q E gd hr h => ?_)
  · obtain ⟨k, v, rfl, _⟩ := h
    rfl
  · obtain ⟨k, v, rfl, hk, shows, q⟩ := h
    refine ⟨_, PSs.nox (pss_cons (ps_tryA (Wout := fun _ _ _ _ => False) (tb := fun W => tDrop (tCallS (spRaise C) (WE W) (tCons (tVar 0) (tCons (tVar 1) tNil)))) (l := [⟨[.ref (C 1), .ref (C 2), .ref (C 3), .ref (C 4)], some 2, tsK K C⟩, ⟨[.ref (C 5), .ref (C 6), .ref (C 7), .ref (C 8)], some 2, tsK K C⟩, ⟨[.ref (C 9)], some 2, tsF K C 9⟩, ⟨[.ref (C 10)], some 2, tsF K C 10⟩, ⟨[.ref (C 11)], some 2, tsF K C 11⟩, ⟨[.ref (C 12)], some 2, tsF K C 12⟩, ⟨[.ref (C 13)], some 2, tsF K C 13⟩, ⟨[.ref (C 14)], some 2, tsF K C 14⟩, ⟨[.ref (C 15)], some 2, tsF K C 15⟩, ⟨[.ref (C 0)], none, ts0 (.int 0)⟩]) rfl rfl scCaught.nd takes0
        (fun W pn xe tk _ => pss_one (ps_expr (pe_callS FR hr (by rfl) gR kR bR (fun σ => passAt tk σ) (by exact (pa_cons (pv 0) (pa_cons (pv 1) pa_nil))))))
        (.cons (.tup (.cons ⟨by rfl, by decide, .inl T.g1⟩ (.cons ⟨by rfl, by decide, .inl T.g2⟩ (.cons ⟨by rfl, by decide, .inl T.g3⟩ (.cons ⟨by rfl, by decide, .inl T.g4⟩ .nil)))) (by simp)) (.inr ⟨"e", 2, rfl, rfl, rfl, rfl⟩) (fun a oe cls d pn hz hf => pss_imp (pss_one (ps_ret (pe_bm PySem.F.plainAttrs_list PySem.F.slot_list_index PySem.F.type_list_index mt_index1 (peE FK (List.mem_cons_self) (room_mark hr) (by rfl) gK kK bK pass0 (pa_cons (pv 2) pa_nil)) (pa_cons pe_bl (pa_cons pe_int pa_nil))))) fun D σ H z => z oe hz hf)
        (.cons (.tup (.cons ⟨by rfl, by decide, .inl T.g5⟩ (.cons ⟨by rfl, by decide, .inl T.g6⟩ (.cons ⟨by rfl, by decide, .inl T.g7⟩ (.cons ⟨by rfl, by decide, .inl T.g8⟩ .nil)))) (by simp)) (.inr ⟨"e", 2, rfl, rfl, rfl, rfl⟩) (fun a oe cls d pn hz hf => pss_imp (pss_one (ps_ret (pe_bm PySem.F.plainAttrs_list PySem.F.slot_list_index PySem.F.type_list_index mt_index1 (peE FK (List.mem_cons_self) (room_mark hr) (by rfl) gK kK bK pass0 (pa_cons (pv 2) pa_nil)) (pa_cons pe_bl (pa_cons pe_int pa_nil))))) fun D σ H z => z oe hz hf)
        (.cons (.one ⟨by rfl, by decide, .inl T.g9⟩) (.inr ⟨"e", 2, rfl, rfl, rfl, rfl⟩) (fun a oe cls d pn hz hf => pss_imp (pss_one (ps_ret (pe_ifExp (pt_cmpR op_eq (pe_callB (call_repr hsys gd hr.units) (by rfl) mrepr boot_repr (pa_cons (pe_xfP (C := C 9) (n := fldN 9) List.mem_cons_self (U.xf 9 (by decide)) (N.no 9 (by decide) (by decide)) (pv 2)) pa_nil)) (pe_callB (call_repr hsys gd hr.units) (by rfl) mrepr boot_repr (pa_cons (pv 1) pa_nil)) (nomark _)) pe_int (pe_un un_neg pe_int)))) fun D σ H z => z oe hz hf)
        (.cons (.one ⟨by rfl, by decide, .inl T.g10⟩) (.inr ⟨"e", 2, rfl, rfl, rfl, rfl⟩) (fun a oe cls d pn hz hf => pss_imp (pss_one (ps_ret (pe_ifExp (pt_cmpR op_eq (pe_callB (call_repr hsys gd hr.units) (by rfl) mrepr boot_repr (pa_cons (pe_xfP (C := C 10) (n := fldN 10) List.mem_cons_self (U.xf 10 (by decide)) (N.no 10 (by decide) (by decide)) (pv 2)) pa_nil)) (pe_callB (call_repr hsys gd hr.units) (by rfl) mrepr boot_repr (pa_cons (pv 1) pa_nil)) (nomark _)) pe_int (pe_un un_neg pe_int)))) fun D σ H z => z oe hz hf)
        (.cons (.one ⟨by rfl, by decide, .inl T.g11⟩) (.inr ⟨"e", 2, rfl, rfl, rfl, rfl⟩) (fun a oe cls d pn hz hf => pss_imp (pss_one (ps_ret (pe_ifExp (pt_cmpR op_eq (pe_callB (call_repr hsys gd hr.units) (by rfl) mrepr boot_repr (pa_cons (pe_xfP (C := C 11) (n := fldN 11) List.mem_cons_self (U.xf 11 (by decide)) (N.no 11 (by decide) (by decide)) (pv 2)) pa_nil)) (pe_callB (call_repr hsys gd hr.units) (by rfl) mrepr boot_repr (pa_cons (pv 1) pa_nil)) (nomark _)) pe_int (pe_un un_neg pe_int)))) fun D σ H z => z oe hz hf)
        (.cons (.one ⟨by rfl, by decide, .inl T.g12⟩) (.inr ⟨"e", 2, rfl, rfl, rfl, rfl⟩) (fun a oe cls d pn hz hf => pss_imp (pss_one (ps_ret (pe_ifExp (pt_cmpR op_eq (pe_callB (call_repr hsys gd hr.units) (by rfl) mrepr boot_repr (pa_cons (pe_xfP (C := C 12) (n := fldN 12) List.mem_cons_self (U.xf 12 (by decide)) (N.no 12 (by decide) (by decide)) (pv 2)) pa_nil)) (pe_callB (call_repr hsys gd hr.units) (by rfl) mrepr boot_repr (pa_cons (pv 1) pa_nil)) (nomark _)) pe_int (pe_un un_neg pe_int)))) fun D σ H z => z oe hz hf)
        (.cons (.one ⟨by rfl, by decide, .inl T.g13⟩) (.inr ⟨"e", 2, rfl, rfl, rfl, rfl⟩) (fun a oe cls d pn hz hf => pss_imp (pss_one (ps_ret (pe_ifExp (pt_cmpR op_eq (pe_callB (call_repr hsys gd hr.units) (by rfl) mrepr boot_repr (pa_cons (pe_xfP (C := C 13) (n := fldN 13) List.mem_cons_self (U.xf 13 (by decide)) (N.no 13 (by decide) (by decide)) (pv 2)) pa_nil)) (pe_callB (call_repr hsys gd hr.units) (by rfl) mrepr boot_repr (pa_cons (pv 1) pa_nil)) (nomark _)) pe_int (pe_un un_neg pe_int)))) fun D σ H z => z oe hz hf)
        (.cons (.one ⟨by rfl, by decide, .inl T.g14⟩) (.inr ⟨"e", 2, rfl, rfl, rfl, rfl⟩) (fun a oe cls d pn hz hf => pss_imp (pss_one (ps_ret (pe_ifExp (pt_cmpR op_eq (pe_callB (call_repr hsys gd hr.units) (by rfl) mrepr boot_repr (pa_cons (pe_xfP (C := C 14) (n := fldN 14) List.mem_cons_self (U.xf 14 (by decide)) (N.no 14 (by decide) (by decide)) (pv 2)) pa_nil)) (pe_callB (call_repr hsys gd hr.units) (by rfl) mrepr boot_repr (pa_cons (pv 1) pa_nil)) (nomark _)) pe_int (pe_un un_neg pe_int)))) fun D σ H z => z oe hz hf)
        (.cons (.one ⟨by rfl, by decide, .inl T.g15⟩) (.inr ⟨"e", 2, rfl, rfl, rfl, rfl⟩) (fun a oe cls d pn hz hf => pss_imp (pss_one (ps_ret (pe_ifExp (pt_cmpR op_eq (pe_callB (call_repr hsys gd hr.units) (by rfl) mrepr boot_repr (pa_cons (pe_xfP (C := C 15) (n := fldN 15) List.mem_cons_self (U.xf 15 (by decide)) (N.no 15 (by decide) (by decide)) (pv 2)) pa_nil)) (pe_callB (call_repr hsys gd hr.units) (by rfl) mrepr boot_repr (pa_cons (pv 1) pa_nil)) (nomark _)) pe_int (pe_un un_neg pe_int)))) fun D σ H z => z oe hz hf)
        (.cons (.one ⟨by rfl, by decide, .inl T.g0⟩) (.inl ⟨rfl, rfl⟩) (fun a oe cls d pn hz hf => pss_imp (pss_one (ps_ret pe_int)) fun D σ H z => z oe hz hf)
        .nil)))))))))))
      (pss_one (ps_ret (pe_un un_neg pe_int)))), ?_⟩
    refine ⟨_, rfl, _, rfl, k, v, rfl, hk, fun H' dd s1 fl => ?_⟩
    have X := fun i (hi : i < 16) => N.ex i k hi hk
    refine ⟨_, (exm_cons (X 1 (by decide)) (exm_cons (X 2 (by decide)) (exm_cons (X 3 (by decide)) (exm_cons (X 4 (by decide)) exm_nil)))), fun hb a na => ?_, fun hb1 => ?_⟩
    · have z : ∀ j, j < 16 → (isK 1 j || (isK 2 j || (isK 3 j || (isK 4 j || false)))) = true → 1 ≤ j := by decide
      exact rd_tsK hk (z k hk hb) fl s1 rfl q
    refine ⟨_, (exm_cons (X 5 (by decide)) (exm_cons (X 6 (by decide)) (exm_cons (X 7 (by decide)) (exm_cons (X 8 (by decide)) exm_nil)))), fun hb a na => ?_, fun hb2 => ?_⟩
    · have z : ∀ j, j < 16 → (isK 5 j || (isK 6 j || (isK 7 j || (isK 8 j || false)))) = true → 1 ≤ j := by decide
      exact rd_tsK hk (z k hk hb) fl s1 rfl q
    refine ⟨_, (exm_cons (X 9 (by decide)) exm_nil), fun hb a na => ?_, fun hb9 => ?_⟩
    · have z : ∀ j, j < 16 → (isK 9 j || false) = true → j = 9 := by decide
      have e := z k hk hb
      subst e
      obtain ⟨d, vd, ft⟩ := shows (by decide)
      exact rd_tsF (by decide) fl s1 rfl rfl (vd.same s1) ft q
    refine ⟨_, (exm_cons (X 10 (by decide)) exm_nil), fun hb a na => ?_, fun hb10 => ?_⟩
    · have z : ∀ j, j < 16 → (isK 10 j || false) = true → j = 10 := by decide
      have e := z k hk hb
      subst e
      obtain ⟨d, vd, ft⟩ := shows (by decide)
      exact rd_tsF (by decide) fl s1 rfl rfl (vd.same s1) ft q
    refine ⟨_, (exm_cons (X 11 (by decide)) exm_nil), fun hb a na => ?_, fun hb11 => ?_⟩
    · have z : ∀ j, j < 16 → (isK 11 j || false) = true → j = 11 := by decide
      have e := z k hk hb
      subst e
      obtain ⟨d, vd, ft⟩ := shows (by decide)
      exact rd_tsF (by decide) fl s1 rfl rfl (vd.same s1) ft q
    refine ⟨_, (exm_cons (X 12 (by decide)) exm_nil), fun hb a na => ?_, fun hb12 => ?_⟩
    · have z : ∀ j, j < 16 → (isK 12 j || false) = true → j = 12 := by decide
      have e := z k hk hb
      subst e
      obtain ⟨d, vd, ft⟩ := shows (by decide)
      exact rd_tsF (by decide) fl s1 rfl rfl (vd.same s1) ft q
    refine ⟨_, (exm_cons (X 13 (by decide)) exm_nil), fun hb a na => ?_, fun hb13 => ?_⟩
    · have z : ∀ j, j < 16 → (isK 13 j || false) = true → j = 13 := by decide
      have e := z k hk hb
      subst e
      obtain ⟨d, vd, ft⟩ := shows (by decide)
      exact rd_tsF (by decide) fl s1 rfl rfl (vd.same s1) ft q
    refine ⟨_, (exm_cons (X 14 (by decide)) exm_nil), fun hb a na => ?_, fun hb14 => ?_⟩
    · have z : ∀ j, j < 16 → (isK 14 j || false) = true → j = 14 := by decide
      have e := z k hk hb
      subst e
      obtain ⟨d, vd, ft⟩ := shows (by decide)
      exact rd_tsF (by decide) fl s1 rfl rfl (vd.same s1) ft q
    refine ⟨_, (exm_cons (X 15 (by decide)) exm_nil), fun hb a na => ?_, fun hb15 => ?_⟩
    · have z : ∀ j, j < 16 → (isK 15 j || false) = true → j = 15 := by decide
      have e := z k hk hb
      subst e
      obtain ⟨d, vd, ft⟩ := shows (by decide)
      exact rd_tsF (by decide) fl s1 rfl rfl (vd.same s1) ft q
    refine ⟨_, (exm_cons (X 0 (by decide)) exm_nil), fun hb a na oe hz hf => ?_, fun hb0 => ?_⟩
    · have z : ∀ j, j < 16 → (((isK 1 j || (isK 2 j || (isK 3 j || (isK 4 j || false)))) || ((isK 5 j || (isK 6 j || (isK 7 j || (isK 8 j || false)))) || ((isK 9 j || false) || ((isK 10 j || false) || ((isK 11 j || false) || ((isK 12 j || false) || ((isK 13 j || false) || ((isK 14 j || false) || ((isK 15 j || false))))))))))) = false → j = 0 := by decide
      have e := z k hk (by rw [hb1, hb2, hb9, hb10, hb11, hb12, hb13, hb14, hb15]; rfl)
      subst e
      exact q H' s1
    · have z : ∀ j, j < 16 → ((((isK 1 j || (isK 2 j || (isK 3 j || (isK 4 j || false)))) || ((isK 5 j || (isK 6 j || (isK 7 j || (isK 8 j || false)))) || ((isK 9 j || false) || ((isK 10 j || false) || ((isK 11 j || false) || ((isK 12 j || false) || ((isK 13 j || false) || ((isK 14 j || false) || ((isK 15 j || false))))))))))) || (isK 0 j || false)) = false → False := by decide
      exact z k hk (by rw [hb1, hb2, hb9, hb10, hb11, hb12, hb13, hb14, hb15, hb0]; rfl)
theorem ok_by_base {n : Nat} (F : FnP K "_law_by_base" 29 f fd) (T : CG mg C) (N : CN K C) (FR : FnOk P w K mg base (L2.CX P w) (n + 3) fR fdR ["kind", "value"] (spRaise C)) (gR : mg "_law_raise" = some (.ref fR)) (kR : PySem.W.keepIn K (.ref fR) = true) (bR : Binds K fdR ["kind", "value"] []) :
    FnOk P w K mg base CX0 (n + 4) f fd ["kind", "value"] spByBase := by
  refine F.ok scByBase (fun vs H Q E h => ?_) (fun cdv A outer s H vs Q E hr h => ?_)
  · obtain ⟨k, v, rfl, _⟩ := h
    rfl
  · obtain ⟨k, v, rfl, hk, q⟩ := h
    refine ⟨_, PSs.nox (pss_cons (ps_tryA (Wout := fun _ _ _ _ => False) (tb := fun W => tDrop (tCallS (spRaise C) (WE W) (tCons (tVar 0) (tCons (tVar 1) tNil)))) (l := [⟨[.ref (C 0)], none, ts0 (.bl true)⟩, ⟨[.ref (C 10), .ref (C 11), .ref (C 12), .ref (C 13), .ref (C 14), .ref (C 15)], none, ts0 (.bl false)⟩]) rfl rfl scByBase.nd takes0
        (fun W pn xe tk _ => pss_one (ps_expr (pe_callS FR hr (by rfl) gR kR bR (fun σ => passAt tk σ) (by exact (pa_cons (pv 0) (pa_cons (pv 1) pa_nil))))))
        (.cons (.one ⟨by rfl, by decide, .inl T.g0⟩) (.inl ⟨rfl, rfl⟩) (fun a oe cls d pn hz hf => pss_imp (pss_one (ps_ret pe_bl)) fun D σ H z => z oe hz hf)
        (.cons (.tup (.cons ⟨by rfl, by decide, .inl T.g10⟩ (.cons ⟨by rfl, by decide, .inl T.g11⟩ (.cons ⟨by rfl, by decide, .inl T.g12⟩ (.cons ⟨by rfl, by decide, .inl T.g13⟩ (.cons ⟨by rfl, by decide, .inl T.g14⟩ (.cons ⟨by rfl, by decide, .inl T.g15⟩ .nil)))))) (by simp)) (.inl ⟨rfl, rfl⟩) (fun a oe cls d pn hz hf => pss_imp (pss_one (ps_ret pe_bl)) fun D σ H z => z oe hz hf)
        .nil)))
      (pss_one (ps_ret pe_non))), ?_⟩
    refine ⟨_, rfl, _, rfl, k, v, rfl, hk, fun H' dd s1 fl => ?_⟩
    have X := fun i (hi : i < 16) => N.ex i k hi hk
    refine ⟨_, (exm_cons (X 0 (by decide)) exm_nil), fun hb a na oe hz hf => ?_, fun hb1 => ?_⟩
    · have z : ∀ j, j < 16 → (isK 0 j || false) = true → decide (j < 10) = true := by decide
      have e := q H' s1
      rw [z k hk hb] at e
      exact e
    refine ⟨_, (exm_cons (X 10 (by decide)) (exm_cons (X 11 (by decide)) (exm_cons (X 12 (by decide)) (exm_cons (X 13 (by decide)) (exm_cons (X 14 (by decide)) (exm_cons (X 15 (by decide)) exm_nil)))))), fun hb a na oe hz hf => ?_, fun hb2 => ?_⟩
    · have z : ∀ j, j < 16 → (isK 0 j || false) = false → decide (j < 10) = false := by decide
      have e := q H' s1
      rw [z k hk hb1] at e
      exact e
    · have z : ∀ j, j < 16 → (isK 0 j || false) = false → (isK 10 j || (isK 11 j || (isK 12 j || (isK 13 j || (isK 14 j || (isK 15 j || false)))))) = false → False := by decide
      exact z k hk hb1 hb2
end
end K0

/-! ### K4a -/
set_option Elab.async false
set_option linter.all false
set_option maxRecDepth 100000
set_option maxHeartbeats 4000000
/-! What `_law_right` needs: ints that are shown, seven of a value, rows of bools, a field of one of the made errors. -/
namespace K0
open PySem PySem.Spec PyProof.Rows L2
theorem fit_int {r : Int} (h0 : 0 ≤ r) (h1 : r < 10 ^ 18) : Fit7 (.int r) := by
  have hn : r.natAbs < 10 ^ 18 := by omega
  refine ⟨⟨?_, ?_, ?_, ?_⟩, ?_, ?_⟩
  · show decide (r.natAbs.log2 < 1920) = true
    refine decide_eq_true ?_
    by_cases z : r.natAbs = 0
    · rw [z]; decide
    · refine (Nat.log2_lt z).mpr (Nat.lt_of_lt_of_le hn ?_)
      decide +kernel
  · have e := int_text_length_le10 (a := r) (k := 18) (by decide) hn
    have e2 : (PyData.shown (.int r)).length ≤ 60 := by
      show (Str.ofString (toString r)).length ≤ 60
      rw [PySem.ofString_length]
      omega
    simpa only [PyData.leavesShort, decide_eq_true_eq] using e2
  · show 0 ≤ 100000
    decide
  · simp [PyData.depth]
  · show 0 ≤ 10000
    decide
  · simp [PyData.depth]
theorem fit_seven {d : PyData} (f : Fit7 d) : Fit (.list [d, d, d, d, d, d, d]) := by
  have h1 := f.fit.able
  have h2 := f.fit.leaf
  have h3 := f.bulk
  have h4 := f.depth
  refine ⟨?_, ?_, ?_, ?_⟩
  · simp [PyData.showable, PyData.showableAll, h1]
  · simp [PyData.leavesShort, PyData.leavesShortAll, h2]
  · simp only [PyData.bulk, PyData.bulkAll]
    omega
  · simp only [PyData.depth, PyData.depthAll]
    omega
theorem fit_vals {d : PyData} {r : Int} (f : Fit7 d) (h0 : 0 ≤ r) (h1 : r < 10 ^ 18) : ∀ e ∈ [d, .int 0, .int 4000, .int r, .tuple [.str "a", .int 1], .str "$a"], Fit7 e := by
  intro e he
  have z : [PyData.tuple [.str "a", .int 1], .str "$a"].all fitB = true := by decide +kernel
  simp only [List.mem_cons, List.not_mem_nil, or_false] at he
  rcases he with rfl | rfl | rfl | rfl | rfl | rfl
  · exact f
  · exact fit_int (by decide) (by decide)
  · exact fit_int (by decide) (by decide)
  · exact fit_int h0 h1
  · exact fitB_ok (List.all_eq_true.mp z _ (by simp))
  · exact fitB_ok (List.all_eq_true.mp z _ (by simp))
theorem dp_bls {K : PySem.W.Frag} {H : Hp} : ∀ bs : List Bool, DpAll K H (bs.map V.bl) (bs.map PyData.bool)
  | [] => .nil
  | b :: bs => .cons (.bl b) (dp_bls bs)
theorem kin_shaped : ∀ j, j < 16 → SeqAt.shaped (.list ((kinL j).map PyData.bool)) = true := by decide +kernel
theorem kin_eqv : ∀ j, j < 16 → PyData.eqv (.list ((kinL j).map PyData.bool)) (.list ((kinL j).map PyData.bool)) = true := by decide +kernel
def kinP (j m : Nat) : List V := (List.range m).map fun t => V.bl (isK t j)
theorem kinP_succ (j m : Nat) : kinP j (m + 1) = kinP j m ++ [.bl (isK m j)] := by
  unfold kinP
  rw [List.range_succ, List.map_append]
  rfl
theorem kinP_len (j m : Nat) : (kinP j m).length = m := by simp [kinP]
theorem kinP_all (j : Nat) : kinP j 16 = (kinL j).map V.bl := rfl
theorem rd_fld {K : PySem.W.Frag} {C : Nat → Addr} {σ : L2.St} {H : Hp} {Q : VK} {l : Addr} {es : List V} {v : V} (j : Nat) (hσ : σ[3]? = some (some (.ref l))) (hl : H l = some (.lst es)) (hs : es.length = 16) (ma : MadeAll C H v 0 es) (h9 : 9 ≤ j) (h16 : j < 16) (q : Q v H) :
    tXfT (C j) (fldN j) (tOp (rIxL K) (tVar 3) (tC (.int (j : Nat)))) σ H Q := by
  have hj : j < es.length := by omega
  have hg : es[j]? = some es[j] := List.getElem?_eq_getElem hj
  obtain ⟨e, he, ⟨z, _⟩ | ⟨_, dd, h1, h2⟩⟩ := ma.get hg
  · omega
  · rw [Nat.zero_add] at h1 h2
    exact ⟨_, hσ, l, es, _, _, rfl, rfl, .of hl, atI_nat hg, e, dd, _, v, he, h1, h2, look1 _ _, q⟩
theorem MadeAt.is {C : Nat → Addr} {H : Hp} {v x : V} {j : Nat} (h : MadeAt C H v j x) : ∃ e d, x = .ref e ∧ ExAt H e (C j) d := by
  obtain ⟨e, rfl, ⟨_, h1⟩ | ⟨_, dd, h1, h2⟩⟩ := h
  · exact ⟨e, none, rfl, h1, fun _ z => nomatch z⟩
  · exact ⟨e, some dd, rfl, h1, fun x z => by cases z; exact ⟨_, h2⟩⟩
end K0

/-! ### K4 -/
set_option Elab.async false
set_option linter.all false
set_option maxRecDepth 100000
set_option maxHeartbeats 4000000
/-! One cell: errors with a drawn message and a drawn value are right. -/
namespace K0
open PySem PySem.Spec PyProof.Rows L2
theorem scRight : FnScope ["dice", "word", "value", "made", "kind", "e", "some", "kept", "place"] ["dice"] (defScope (top 30)) := ⟨rfl, rfl, rfl, by decide +kernel, rfl, by decide +kernel, by decide +kernel⟩
def spRight : Sp := fun vs H Q _ => ∃ (p : Addr) (a b c : Int), vs = [.ref p] ∧ H p = some (dk a b c) ∧ ∀ H', (∀ x o, x ≠ p → H x = some o → H' x = some o) → Q (.bl true) H'
section
variable {P : Program} {w : World} {K : PySem.W.Frag} {mg : Str → Option Value} {base : Heap} {f : Addr} {fd : FuncData} {C : Nat → Addr}
theorem ok_right {n : Nat} (F : FnP K "_law_right" 30 f fd) (U : CK K C) (N : CN K C) (hsys : sysB K = true) (mrepr : mg "repr" = none) (mrange : mg "range" = none) (menum : mg "enumerate" = none)
    {fR fO fA fW fD fM fK fC fB : Addr} {fdR fdO fdA fdW fdD fdM fdK fdC fdB : FuncData}
    (FR : FnOk P w K mg base CX0 (n + 4) fR fdR ["dice", "total"] spRoll) (gR : mg "_law_roll" = some (.ref fR)) (kR : PySem.W.keepIn K (.ref fR) = true) (bR : Binds K fdR ["dice", "total"] [])
    (FO : FnOk P w K mg base CX0 (n + 4) fO fdO ["dice", "items"] (spOne K)) (gO : mg "_law_one_of" = some (.ref fO)) (kO : PySem.W.keepIn K (.ref fO) = true) (bO : Binds K fdO ["dice", "items"] [])
    (FA : FnOk P w K mg base CX0 (n + 4) fA fdA [] spAll) (gA : mg "_law_all_signs" = some (.ref fA)) (kA : PySem.W.keepIn K (.ref fA) = true) (bA : Binds K fdA [] [])
    (FW : FnOk P w K mg base CX0 (n + 4) fW fdW ["dice", "signs", "upto"] spWord) (gW : mg "_law_word" = some (.ref fW)) (kW : PySem.W.keepIn K (.ref fW) = true) (bW : Binds K fdW ["dice", "signs", "upto"] [])
    (FD : FnOk P w K mg base CX0 (n + 4) fD fdD ["dice"] (spOdd K)) (gD : mg "_law_odd" = some (.ref fD)) (kD : PySem.W.keepIn K (.ref fD) = true) (bD : Binds K fdD ["dice"] [])
    (FM : FnOk P w K mg base CX0 (n + 4) fM fdM ["word", "value"] (spMade C)) (gM : mg "_law_made" = some (.ref fM)) (kM : PySem.W.keepIn K (.ref fM) = true) (bM : Binds K fdM ["word", "value"] [])
    (FK : FnOk P w K mg base CX0 (n + 4) fK fdK ["e"] (spKinds C)) (gK : mg "_law_kinds" = some (.ref fK)) (kK : PySem.W.keepIn K (.ref fK) = true) (bK : Binds K fdK ["e"] [])
    (FC : FnG P w K mg base CX0 (n + 4) fC fdC ["kind", "value"] (spCaught K)) (gC : mg "_law_caught" = some (.ref fC)) (kC : PySem.W.keepIn K (.ref fC) = true) (bC : Binds K fdC ["kind", "value"] [])
    (FB : FnOk P w K mg base CX0 (n + 4) fB fdB ["kind", "value"] spByBase) (gB : mg "_law_by_base" = some (.ref fB)) (kB : PySem.W.keepIn K (.ref fB) = true) (bB : Binds K fdB ["kind", "value"] []) :
    FnG P w K mg base CX0 (n + 5) f fd ["dice"] spRight := by
  refine fnG_of F scRight (fun vs H Q E h => ?_) (fun cdv A outer s H vs Q E gd hr h => ?_)
  · obtain ⟨p, a, b, c, rfl, _⟩ := h
    rfl
  · obtain ⟨p, a, b, c, rfl, hp, q⟩ := h
    refine ⟨_, PSs.nox (C8.pss_cut (ps_set (i := 1) scRight.nd rfl (.inl rfl) (pe_call FO hr (by rfl) gO kO bO .nil pass0 (pa_cons (pv 0) (pa_cons (pe_lst (pa_cons pe_str (pa_cons pe_str (pa_cons pe_str (pa_cons (pe_op op_strMul pe_str pe_int) (pa_cons (pe_call FW hr (by rfl) gW kW bW .nil pass0 (pa_cons (pv 0) (pa_cons (pe_call0 FA hr (by rfl) gA kA bA .nil pass0) (pa_cons pe_int pa_nil)))) pa_nil)))))) pa_nil))))
      (C8.pss_cut (ps_set (i := 2) scRight.nd rfl (.inl rfl) (pe_call FO hr (by rfl) gO kO bO .nil pass0 (pa_cons (pv 0) (pa_cons (pe_lst (pa_cons (pe_call FD hr (by rfl) gD kD bD .nil pass0 (pa_cons (pv 0) pa_nil)) (pa_cons pe_int (pa_cons pe_int (pa_cons (pe_call FR hr (by rfl) gR kR bR .nil pass0 (pa_cons (pv 0) (pa_cons (pe_op op_powBits pe_int pe_int) pa_nil))) (pa_cons (pe_tup (pa_cons pe_str (pa_cons pe_int pa_nil))) (pa_cons pe_str pa_nil))))))) pa_nil))))
      (C8.pss_cut (ps_set (i := 3) scRight.nd rfl (.inl rfl) (pe_call FM hr (by rfl) gM kM bM .nil pass0 (pa_cons (pv 1) (pa_cons (pv 2) pa_nil))))
      (C8.pss_cut (ps_for PassesOwn.never rfl (pi_enum (by rfl) menum (pa_cons (pv 3) pa_nil)) (pg_tup rfl (pgs_cons (pg_name (i := 4) scRight.nd rfl (.inr rfl)) (pgs_cons (pg_name (i := 5) scRight.nd rfl (.inl rfl)) pgs_nil)))
        (C8.pss_cut (ps_if (pt_cmpR (op_neD hr.units) (pe_call FK hr (by rfl) gK kK bK .nil pass0 (pa_cons (pv 5) pa_nil)) (pe_lc (own := [("place", 8)]) (g := gName 8) (tt := tYes) rfl scRight.nd (pi_range1 (by rfl) mrange (pa_cons pe_int pa_nil)) (blkOk_by (N := ["dice", "word", "value", "made", "kind", "e", "some", "kept", "place"]) (sc := defScope (top 30)) (by decide +kernel))
            (fun _ _ _ _ _ => pg_name (i := 8) scRight.nd rfl (Or.inl rfl)) (fun _ _ _ _ _ => pts_nil) (fun _ _ _ _ _ => pe_or (pe_cmpR op_eq (pv 8) (pv 4) (nomark _)) (pe_one (pe_and (pe_cmpR op_eq (pv 8) pe_int (nomark _)) (pe_one (pe_cmpR op_lt (pv 4) pe_int (nomark _))))))) (nomark _)) (pss_one (ps_ret pe_bl)) pss_nil)
        (C8.pss_cut (ps_set (i := 6) scRight.nd rfl (.inl rfl) (pe_ifExp (pt_cmpR op_lt (pv 4) pe_int (nomark _)) (pv 1) (pv 2)))
        (pss_one (ps_if (PW.pt (pw_or (pt_cmpR op_ne (peG FC gd hr (by rfl) gC kC bC pass0 (pa_cons (pv 4) (pa_cons (pv 6) pa_nil))) (pv 4) (nomark _)) (pw_or1 (pt_cmpR op_ne (pe_call FB hr (by rfl) gB kB bB .nil pass0 (pa_cons (pv 4) (pa_cons (pv 6) pa_nil))) (pe_cmpR op_lt (pv 4) pe_int (nomark _)) (nomark _))))) (pss_one (ps_ret pe_bl)) pss_nil)))))
      (C8.pss_cut (ps_set (i := 7) scRight.nd rfl (.inl rfl) (pe_lst (pa_cons (pe_xfT (C := C 9) (n := fldN 9) (U.xf 9 (by decide)) (N.no 9 (by decide) (by decide)) (pe_ix ix_list (pv 3) pe_int (fun _ _ => rfl))) (pa_cons (pe_xfT (C := C 10) (n := fldN 10) (U.xf 10 (by decide)) (N.no 10 (by decide) (by decide)) (pe_ix ix_list (pv 3) pe_int (fun _ _ => rfl))) (pa_cons (pe_xfT (C := C 11) (n := fldN 11) (U.xf 11 (by decide)) (N.no 11 (by decide) (by decide)) (pe_ix ix_list (pv 3) pe_int (fun _ _ => rfl)))
          (pa_cons (pe_xfT (C := C 12) (n := fldN 12) (U.xf 12 (by decide)) (N.no 12 (by decide) (by decide)) (pe_ix ix_list (pv 3) pe_int (fun _ _ => rfl))) (pa_cons (pe_xfT (C := C 13) (n := fldN 13) (U.xf 13 (by decide)) (N.no 13 (by decide) (by decide)) (pe_ix ix_list (pv 3) pe_int (fun _ _ => rfl))) (pa_cons (pe_xfT (C := C 14) (n := fldN 14) (U.xf 14 (by decide)) (N.no 14 (by decide) (by decide)) (pe_ix ix_list (pv 3) pe_int (fun _ _ => rfl))) pa_nil))))))))
      (pss_one (ps_ret (pe_cmpR op_eq (pe_callB (call_repr hsys gd hr.units) (by rfl) mrepr boot_repr (pa_cons (pe_op op_cat (pv 7) (pe_lst (pa_cons (pe_xfT (C := C 15) (n := fldN 15) (U.xf 15 (by decide)) (N.no 15 (by decide) (by decide)) (pe_ix ix_list (pv 3) pe_int (fun _ _ => rfl))) pa_nil))) pa_nil))
        (pe_callB (call_repr hsys gd hr.units) (by rfl) mrepr boot_repr (pa_cons (pe_op op_rep (pe_lst (pa_cons (pv 2) pa_nil)) pe_int) pa_nil)) (nomark _))))))))), ?_⟩
    refine ⟨fun σ' H' => ∃ z : Str, σ' = [some (.ref p), some (.str z), none, none, none, none, none, none, none] ∧ Keep p H H', ?_, ?_⟩
    · refine ⟨_, rfl, _, _, rfl, rfl, by decide, by decide, by decide +kernel, by decide +kernel, _, rfl, rfl, ?_⟩
      refine ⟨p, a, b, c, _, _, rfl, hp, by decide +kernel, by decide +kernel, by decide, by decide, fun H1 z k1 => ?_⟩
      obtain ⟨a1, b1, c1, hp1⟩ := k1.2
      refine ⟨by show 5 ≤ sizeLine; decide, fun l nl => ?_⟩
      have npl : p ≠ l := ne_of_none hp1 nl
      refine ⟨p, a1, b1, c1, _, _, rfl, by rw [upd_ne npl]; exact hp1, .inl ⟨l, rfl, .inl (.of upd_same)⟩, List.cons_ne_nil _ _, by show 5 ≤ sizeLine; decide, fun a' b' c' => .inl ⟨l, rfl, .inl (.of (by rw [upd_ne npl.symm, upd_same]))⟩, fun a2 b2 c2 i x hx => ?_⟩
      have hv : ∃ y : Str, x = .str y := by
        have hm := List.mem_of_getElem? hx
        simp only [List.mem_cons, List.not_mem_nil, or_false] at hm
        rcases hm with rfl | rfl | rfl | rfl | rfl <;> exact ⟨_, rfl⟩
      obtain ⟨y, rfl⟩ := hv
      exact ⟨y, rfl, (k1.new2 nl).trans (.dice a2 b2 c2)⟩
    rintro σ1 H1 ⟨z, rfl, k1⟩
    obtain ⟨a1, b1, c1, hp1⟩ := k1.2
    refine ⟨fun σ' H' => ∃ (v : V) (d : PyData), σ' = [some (.ref p), some (.str z), some v, none, none, none, none, none, none] ∧ Keep p H1 H' ∧ Dv K (hid p H') v d ∧ Fit7 d, ?_, ?_⟩
    · refine ⟨_, rfl, _, rfl, p, a1, b1, c1, rfl, hp1, fun H2 x d k2 vd ft => ?_⟩
      obtain ⟨a2, b2, c2, hp2⟩ := k2.2
      refine ⟨_, rfl, _, _, rfl, rfl, ⟨by decide, by decide +kernel⟩, p, a2, b2, c2, _, rfl, hp2, ?_, fun a3 b3 c3 r h0 h1 => ?_⟩
      · refine wide_div (b := 62) (by decide) (by decide +kernel) (by decide) (by decide)
      · have k3 : Keep p H1 (upd H2 p (dk a3 b3 c3)) := k2.trans (.dice a3 b3 c3)
        refine ⟨by show 2 ≤ sizeLine; decide, fun t nt => ⟨by show 6 ≤ sizeLine; decide, fun l nl => ?_⟩⟩
        have k4 := k3.new2 (o := .tup [.str "a", .int 1]) nt
        have k5 := k4.new2 (o := .lst [x, .int 0, .int 4000, .int r, .ref t, .str "$a"]) nl
        obtain ⟨a5, b5, c5, hp5⟩ := k5.2
        obtain ⟨a4, b4, c4, hp4⟩ := k4.2
        obtain ⟨a0, b0, c0, hp3⟩ := k3.2
        have ntp : t ≠ p := (ne_of_none hp3 nt).symm
        have nlp : l ≠ p := (ne_of_none hp4 nl).symm
        have V5 : DvAll K (hid p (upd (upd (upd H2 p (dk a3 b3 c3)) t (.tup [.str "a", .int 1])) l (.lst [x, .int 0, .int 4000, .int r, .ref t, .str "$a"]))) [x, .int 0, .int 4000, .int r, .ref t, .str "$a"] [d, .int 0, .int 4000, .int r, .tuple [.str "a", .int 1], .str "$a"] := by
          refine .cons (vd.same (hid_same fun y o n z => ?_)) (.cons (.int _) (.cons (.int _) (.cons (.int _) (.cons (.tup (xs := [.str "a", .int 1]) (.of ?_) (.cons (.str _) (.cons (.int _) .nil))) (.cons (.str _) .nil)))))
          · exact same_upd nl _ _ (same_upd nt _ _ (by rw [upd_ne n]; exact z))
          · rw [hid_ne ntp]
            exact same_upd nl _ _ upd_same
        refine ⟨p, a5, b5, c5, _, _, rfl, hp5, .inl ⟨l, rfl, .inl (.of upd_same)⟩, List.cons_ne_nil _ _, by show 6 ≤ sizeLine; decide, fun a' b' c' => .inl ⟨l, rfl, .inl (.of (by rw [upd_ne nlp, upd_same]))⟩, fun a6 b6 c6 i y hy => ?_⟩
        obtain ⟨d', hd', hv⟩ := V5.get hy
        exact ⟨y, d', rfl, k5.trans (.dice a6 b6 c6), hv.same (hid_same fun x o n z => by rw [upd_ne n]; exact z), fit_vals ft h0 h1 d' (List.mem_of_getElem? hd')⟩
    rintro σ2 H2 ⟨v, d, rfl, k2, vd, ft⟩
    have kk : ∀ x o, x ≠ p → H x = some o → H2 x = some o := (k1.trans k2).1
    have vd2 : Dv K H2 v d := vd.same hid_out
    refine ⟨fun σ' H' => ∃ (l : Addr) (es : List V), σ' = [some (.ref p), some (.str z), some v, some (.ref l), none, none, none, none, none] ∧ Same H2 H' ∧ es.length = 16 ∧ MadeAll C H' v 0 es ∧ H' l = some (.lst es), ⟨_, rfl, _, rfl, .str z, v, rfl, fun H' l es s3 le ma hl => ⟨l, es, rfl, s3, le, ma, hl⟩⟩, ?_⟩
    rintro σ3 H3 ⟨l, es, rfl, s3, le, ma, hl⟩
    refine ⟨fun σ' H' => ∃ k5 e5 s5, σ' = [some (.ref p), some (.str z), some v, some (.ref l), k5, e5, s5, none, none] ∧ Same H3 H', ?_, ?_⟩
    · refine ⟨_, rfl, l, es, rfl, .of hl, for_it (walk_enum (xs := es)) (fun i σ' H' => ∃ k5 e5 s5, σ' = [some (.ref p), some (.str z), some v, some (.ref l), k5, e5, s5, none, none] ∧ Same H3 H') ⟨_, _, _, rfl, Same.refl _⟩ (fun i σ' H' hi hP => ?_) (fun i x σ' H' H'' hi hP hY => ?_) (fun σ' H' hP => hP)⟩
      · obtain ⟨_, _, _, _, s4⟩ := hP
        exact .of (s4 _ _ hl)
      · obtain ⟨k5, e5, s5, rfl, s4⟩ := hP
        obtain ⟨T, xa, xb, rfl, nT, rfl, ea, eb⟩ := hY
        cases ea
        have hi16 : i < 16 := by omega
        obtain ⟨e, d0, rfl, at0⟩ := ((ma.same s4).get eb).is
        rw [Nat.zero_add] at at0
        have sT := s4.trans (same_upd (o := .tup [.int (i : Nat), .ref e]) nT)
        refine ⟨T, _, rfl, .of upd_same, rfl, _, _, rfl, _, _, rfl, rfl, ?_⟩
        refine ⟨fun σ' H' => σ' = [some (.ref p), some (.str z), some v, some (.ref l), some (.int (i : Nat)), some (.ref e), s5, none, none] ∧ Same H3 H', ?_, ?_⟩
        · refine ⟨_, rfl, e, i, d0, rfl, hi16, at0.same (same_upd nT), fun H5 l5 s6 e6 => ⟨16, rfl, by decide, by decide, fun D nD => lc_range (lo := 0) (n := 16) (fun m H' => Same H5 H' ∧ H' D = some (.lst (kinP i m))) ⟨same_upd nD, upd_same⟩ (fun m H' hm hP => ?_) (fun H' hP => ?_)⟩⟩
          · obtain ⟨s7, hD⟩ := hP
            have fin : ∀ b : Bool, b = isK m i → ∃ acc, H' D = some (.lst acc) ∧ acc.length < sizeLine ∧ (Same H5 (upd H' D (.lst (acc ++ [V.bl b]))) ∧ upd H' D (.lst (acc ++ [V.bl b])) D = some (.lst (kinP i (m + 1)))) := fun b hb =>
              ⟨kinP i m, hD, by rw [kinP_len]; exact small1000 (by omega), fun y o z => by rw [upd_ne (ne_of_none z nD)]; exact s7 _ _ z, by rw [upd_same, kinP_succ, hb]⟩
            refine ⟨rfl, _, rfl, _, rfl, rfl, _, rfl, ite2 (fun c1 => ?_) (fun c1 => ?_)⟩
            · refine fin true ?_
              have z := of_decide_eq_true c1
              injection z with z
              have z2 : m = i := by omega
              simp [isK, z2]
            · have n1 : m ≠ i := fun z => c1 (decide_eq_true (by rw [z, Int.zero_add]))
              refine ⟨_, rfl, rfl, _, rfl, ite2 (fun c2 => ?_) (fun c2 => ?_)⟩
              · have z := of_decide_eq_true c2
                injection z with z
                have z2 : m = 0 := by omega
                refine ⟨_, rfl, _, _, rfl, rfl, fin _ ?_⟩
                have z3 : isK m i = decide (i < 10) := by simp [isK, n1, z2]; omega
                rw [z3]
                exact decide_eq_decide.mpr (by omega)
              · have n2 : m ≠ 0 := fun z => c2 (decide_eq_true (by rw [z]; rfl))
                exact fin false (by simp [isK, n1, n2])
          · obtain ⟨s7, hD⟩ := hP
            refine ⟨_, _, .lst (.of (s7 _ _ e6)) (dp_bls _), .lst (.of hD) (by rw [kinP_all]; exact dp_bls _), kin_shaped i hi16, kin_shaped i hi16, _, rfl, ite2 (fun c1 => ?_) (fun _ => ?_)⟩
            · rw [kin_eqv i hi16] at c1
              cases c1
            · exact ⟨rfl, (sT.trans s6).trans s7⟩
        rintro σ5 H5 ⟨rfl, s5'⟩
        refine ⟨fun σ' H' => ∃ sm : V, σ' = [some (.ref p), some (.str z), some v, some (.ref l), some (.int (i : Nat)), some (.ref e), some sm, none, none] ∧ Same H3 H' ∧ (9 ≤ i → sm = v), ?_, ?_⟩
        · refine ⟨_, rfl, _, _, rfl, rfl, _, rfl, ite2 (fun c1 => ?_) (fun c1 => ?_)⟩
          · have z := of_decide_eq_true c1
            exact ⟨_, rfl, _, rfl, s5', fun h9 => by omega⟩
          · exact ⟨_, rfl, _, rfl, s5', fun _ => rfl⟩
        rintro σ6 H6 ⟨sm, rfl, s6', hsm⟩
        refine ⟨_, rfl, _, rfl, i, sm, rfl, hi16, fun h9 => ⟨d, by rw [hsm h9]; exact vd2.same (s3.trans s6'), ft.fit⟩, fun H7 s7 => ⟨_, rfl, rfl, _, rfl, ite2 (fun c1 => ?_) (fun _ => ?_)⟩⟩
        · simp at c1
        · refine ⟨_, rfl, _, rfl, i, sm, rfl, hi16, fun H8 s8 => ⟨_, rfl, _, _, rfl, rfl, rfl, _, rfl, ite2 (fun c1 => ?_) (fun _ => ?_)⟩⟩
          · have z : decide (i < 10) = decide ((i : Int) < 10) := decide_eq_decide.mpr (by omega)
            rw [z] at c1
            simp at c1
          · exact ⟨_, _, _, rfl, (s6'.trans s7).trans s8⟩
    rintro σ4 H4 ⟨k5, e5, s5, rfl, s4⟩
    have hl4 := s4 _ _ hl
    have ma4 := ma.same s4
    refine ⟨fun σ' H' => ∃ l7, σ' = [some (.ref p), some (.str z), some v, some (.ref l), k5, e5, s5, some (.ref l7), none] ∧ Same H4 H' ∧ H' l7 = some (.lst [v, v, v, v, v, v]), ?_, ?_⟩
    · exact rd_fld 9 rfl hl4 le ma4 (by decide) (by decide) (rd_fld 10 rfl hl4 le ma4 (by decide) (by decide) (rd_fld 11 rfl hl4 le ma4 (by decide) (by decide) (rd_fld 12 rfl hl4 le ma4 (by decide) (by decide)
        (rd_fld 13 rfl hl4 le ma4 (by decide) (by decide) (rd_fld 14 rfl hl4 le ma4 (by decide) (by decide) ⟨by show 6 ≤ sizeLine; decide, fun l7 n7 => ⟨l7, rfl, same_upd n7, upd_same⟩⟩)))))
    rintro σ7 H7 ⟨l7, rfl, s7, e7⟩
    have vd7 : Dv K H7 v d := vd2.same ((s3.trans s4).trans s7)
    refine ⟨_, rfl, rd_fld 15 rfl (s7 _ _ hl4) le (ma4.same s7) (by decide) (by decide) ⟨by show 1 ≤ sizeLine; decide, fun l8 n8 => ⟨l7, l8, _, _, rfl, rfl, same_upd n8 _ _ e7, upd_same, by show 6 + 1 ≤ sizeLine; decide, fun l9 n9 => ?_⟩⟩⟩
    have s9 := (same_upd (o := .lst [v]) n8).trans (same_upd (o := .lst [v, v, v, v, v, v, v]) n9)
    have v9 := vd7.same s9
    refine ⟨.ref l9, .list [d, d, d, d, d, d, d], rfl, .lst (.of upd_same) (.cons v9 (.cons v9 (.cons v9 (.cons v9 (.cons v9 (.cons v9 (.cons v9 .nil))))))), fit_seven ft, _, rfl, by show 1 ≤ sizeLine; decide, fun l10 n10 => ⟨l10, 7, _, rfl, rfl, upd_same, by decide, by decide, by show 7 ≤ sizeLine; decide, fun l11 n11 => ?_⟩⟩
    have s11 := (same_upd (o := .lst [v]) n10).trans (same_upd (o := .lst [v, v, v, v, v, v, v]) n11)
    have v11 := v9.same s11
    refine ⟨.ref l11, .list [d, d, d, d, d, d, d], rfl, .lst (.of upd_same) (.cons v11 (.cons v11 (.cons v11 (.cons v11 (.cons v11 (.cons v11 (.cons v11 .nil))))))), fit_seven ft, rfl, ?_⟩
    exact Eq.mp (congrArg (fun t => Q (.bl t) _) (decide_eq_true rfl).symm) (q _ fun x o n e => s11 _ _ (s9 _ _ (s7 _ _ (s4 _ _ (s3 _ _ (kk x o n e))))))
end
end K0

/-! ### K5 -/
set_option Elab.async false
set_option linter.all false
set_option maxRecDepth 100000
set_option maxHeartbeats 4000000
/-! The law: each cell is right, and the built-in bases are those that are due. -/
namespace K0
open PySem PySem.Spec PyProof.Rows L2
/-- a list of bools at an address -/
def Row (H : Hp) (v : V) (bs : List Bool) : Prop := ∃ a, v = .ref a ∧ H a = some (.lst (bs.map V.bl))
theorem Row.same {H H' : Hp} {v : V} {bs : List Bool} (h : Row H v bs) (s : Same H H') : Row H' v bs := let ⟨a, e, z⟩ := h; ⟨a, e, s _ _ z⟩
inductive Rows (H : Hp) : List V → List (List Bool) → Prop
  | nil : Rows H [] []
  | cons {v : V} {bs : List Bool} {vs : List V} {bss : List (List Bool)} : Row H v bs → Rows H vs bss → Rows H (v :: vs) (bs :: bss)
theorem Rows.same {H H' : Hp} (s : Same H H') : ∀ {vs : List V} {bss : List (List Bool)}, Rows H vs bss → Rows H' vs bss
  | _, _, .nil => .nil
  | _, _, .cons h t => .cons (h.same s) (Rows.same s t)
theorem Rows.append {H : Hp} {ws : List V} {css : List (List Bool)} (g : Rows H ws css) : ∀ {vs : List V} {bss : List (List Bool)}, Rows H vs bss → Rows H (vs ++ ws) (bss ++ css)
  | _, _, .nil => g
  | _, _, .cons h t => .cons h (Rows.append g t)
theorem Rows.length {H : Hp} : ∀ {vs : List V} {bss : List (List Bool)}, Rows H vs bss → vs.length = bss.length
  | _, _, .nil => rfl
  | _, _, .cons h t => by rw [List.length_cons, List.length_cons, Rows.length t]
def rowD (bs : List Bool) : PyData := .list (bs.map PyData.bool)
theorem Rows.dp {K : PySem.W.Frag} {H : Hp} : ∀ {vs : List V} {bss : List (List Bool)}, Rows H vs bss → DpAll K H vs (bss.map rowD)
  | _, _, .nil => .nil
  | _, _, .cons ⟨a, e, z⟩ t => by
    subst e
    exact .cons (.lst (.of z) (dp_bls _)) (Rows.dp t)
def Er (H0 : Hp) (σ : L2.St) (te : TE) (bs : List Bool) : Prop := ∀ H Q, Same H0 H → (∀ H' v, Same H H' → Row H' v bs → Q v H') → te σ H Q
def Ers (H0 : Hp) (σ : L2.St) (ta : TA) (bss : List (List Bool)) : Prop := ∀ H Q, Same H0 H → (∀ H' vs, Same H H' → Rows H' vs bss → Q vs H') → ta σ H Q
section
variable {H0 : Hp} {σ : L2.St}
theorem er_lst {ta : TA} {bs : List Bool} (g : EBs (fun _ => True) σ ta bs) (hl : bs.length ≤ 1000) : Er H0 σ (tLst ta) bs := fun H Q _ q => rd_bl g trivial hl fun l nl => q _ _ (same_upd nl) ⟨l, rfl, upd_same⟩
theorem er_cat {t u : TE} {as bs : List Bool} (h : Er H0 σ t as) (g : Er H0 σ u bs) (sz : as.length + bs.length ≤ 1000) : Er H0 σ (tOp rCat t u) (as ++ bs) := fun H Q s0 q =>
  h H _ s0 fun H1 x s1 r1 => g H1 _ (s0.trans s1) fun H2 y s2 r2 => by
    obtain ⟨a, rfl, z1⟩ := r1.same s2
    obtain ⟨b, rfl, z2⟩ := r2
    exact ⟨a, b, _, _, rfl, rfl, z1, z2, by rw [List.length_map, List.length_map]; exact Nat.le_of_lt (small1000 sz), fun l nl => q _ _ ((s1.trans s2).trans (same_upd nl)) ⟨l, rfl, by rw [upd_same, List.map_append]⟩⟩
theorem er_rep {t : TE} {b : Bool} {k : Nat} (h : Er H0 σ t [b]) (hk : k ≤ 1000) : Er H0 σ (tOp rRep t (tC (.int (k : Nat)))) (List.replicate k b) := fun H Q s0 q =>
  h H _ s0 fun H1 x s1 r1 => by
    obtain ⟨a, rfl, z1⟩ := r1
    refine ⟨a, (k : Nat), _, rfl, rfl, z1, by omega, by omega, ?_, fun l nl => q _ _ (s1.trans (same_upd nl)) ⟨l, rfl, ?_⟩⟩
    · show 1 * ((k : Nat) : Int).toNat ≤ sizeLine
      rw [Nat.one_mul, Int.toNat_natCast]
      exact Nat.le_of_lt (small1000 hk)
    · have e : ∀ n : Nat, (List.replicate n [V.bl b]).flatten = (List.replicate n b).map V.bl := fun n => by
        induction n with
        | zero => rfl
        | succ n ih => rw [List.replicate_succ, List.flatten_cons, ih, List.replicate_succ, List.map_cons]; rfl
      rw [upd_same, Int.toNat_natCast]
      exact congrArg (fun z => some (HO.lst z)) (e k)
theorem er_var {i : Nat} {v : V} {bs : List Bool} (hσ : σ[i]? = some (some v)) (h : Row H0 v bs) : Er H0 σ (tVar i) bs := fun H Q s0 q => ⟨v, hσ, q H v (Same.refl H) (h.same s0)⟩
theorem ers_nil : Ers H0 σ tNil [] := fun H Q _ q => q H [] (Same.refl H) .nil
theorem ers_cons {te : TE} {ta : TA} {bs : List Bool} {bss : List (List Bool)} (h : Er H0 σ te bs) (g : Ers H0 σ ta bss) : Ers H0 σ (tCons te ta) (bs :: bss) := fun H Q s0 q =>
  h H _ s0 fun H1 x s1 r1 => g H1 _ (s0.trans s1) fun H2 ys s2 r2 => q _ _ (s1.trans s2) (.cons (r1.same s2) r2)
theorem eb_c {b : Bool} : EB (fun _ => True) σ (tC (.bl b)) b := fun H Q _ q => q
end
theorem rows_no {H : Hp} {b : Bool} {vs : List V} {bss : List (List Bool)} (r : Rows H (V.bl b :: vs) bss) : False := by
  cases r with
  | cons h t =>
    obtain ⟨a, e, _⟩ := h
    cases e
def valB : List Bool := [true] ++ List.replicate 6 false
def lookB : List Bool := (List.replicate 3 false ++ [true]) ++ List.replicate 3 false
def dueB : List (List Bool) := List.replicate 10 valB ++ [[false, false, true, true, false, false, false], [false, true, false, true] ++ List.replicate 3 false]
def endB : List (List Bool) := [lookB, lookB, List.replicate 4 false ++ [true, false, false], List.replicate 4 false ++ [true, true, false]]
def toldB (m : Nat) : List (List Bool) := (List.range m).map basL
theorem toldB_succ (m : Nat) : toldB (m + 1) = toldB m ++ [basL m] := by
  unfold toldB
  rw [List.range_succ, List.map_append]
  rfl
theorem toldB_len (m : Nat) : (toldB m).length = m := by simp [toldB]
theorem told_due : dueB ++ endB = toldB 16 := by decide
theorem told_shaped : SeqAt.shaped (.list ((toldB 16).map rowD)) = true := by decide +kernel
theorem told_eqv : PyData.eqv (.list ((toldB 16).map rowD)) (.list ((toldB 16).map rowD)) = true := by decide +kernel
theorem scLaw : FnScope ["script", "at", "told", "value", "lookup", "due", "e"] ["script"] (defScope (top 31)) := ⟨rfl, rfl, rfl, by decide +kernel, rfl, by decide +kernel, by decide +kernel⟩
def spLaw (K : PySem.W.Frag) : Sp := fun vs H Q _ => ∃ (p : Addr) (ns : List Int), vs = [.ref p] ∧ SqL K H p (ns.map V.int) ∧ ∀ H', Q (.bl true) H'
section
variable {P : Program} {w : World} {K : PySem.W.Frag} {mg : Str → Option Value} {base : Heap} {f : Addr} {fd : FuncData} {C : Nat → Addr}
theorem ok_law {n : Nat} (F : FnP K "law" 31 f fd) (mrange : mg "range" = none) (mmax : mg "max" = none) (mmin : mg "min" = none) (mlen : mg "len" = none)
    {fD fR fM fB : Addr} {fdD fdR fdM fdB : FuncData}
    (FD : FnOk P w K mg base CX0 (n + 5) fD fdD ["script", "at"] (spDice K)) (gD : mg "_law_dice" = some (.ref fD)) (kD : PySem.W.keepIn K (.ref fD) = true) (bD : Binds K fdD ["script", "at"] [])
    (FR : FnG P w K mg base CX0 (n + 5) fR fdR ["dice"] spRight) (gR : mg "_law_right" = some (.ref fR)) (kR : PySem.W.keepIn K (.ref fR) = true) (bR : Binds K fdR ["dice"] [])
    (FM : FnOk P w K mg base CX0 (n + 5) fM fdM ["word", "value"] (spMade C)) (gM : mg "_law_made" = some (.ref fM)) (kM : PySem.W.keepIn K (.ref fM) = true) (bM : Binds K fdM ["word", "value"] [])
    (FB : FnOk P w K mg base CX0 (n + 5) fB fdB ["e"] (spBases C)) (gB : mg "_law_bases" = some (.ref fB)) (kB : PySem.W.keepIn K (.ref fB) = true) (bB : Binds K fdB ["e"] []) :
    FnG P w K mg base CX0 (n + 6) f fd ["script"] (spLaw K) := by
  refine fnG_of F scLaw (fun vs H Q E h => ?_) (fun cdv A outer s H vs Q E gd hr h => ?_)
  · obtain ⟨p, ns, rfl, _⟩ := h
    rfl
  · obtain ⟨p, ns, rfl, hS, q⟩ := h
    refine ⟨_, PSs.nox (C8.pss_cut (ps_for PassesOwn.never rfl (pi_range1 (by rfl) mrange (pa_cons (pe_callB (call_max2 rfl) (by rfl) mmax boot_max (pa_cons pe_int (pa_cons (pe_callB (call_min2 rfl) (by rfl) mmin boot_min (pa_cons pe_int (pa_cons (pe_callB call_len_seq (by rfl) mlen PySem.boot_len (pa_cons (pv 0) pa_nil)) pa_nil))) pa_nil))) pa_nil)) (pg_name (i := 1) scLaw.nd rfl (.inl rfl))
        (pss_one (ps_if (pt_not (pt_val (peG FR gd hr (by rfl) gR kR bR pass0 (pa_cons (pe_call FD hr (by rfl) gD kD bD .nil pass0 (pa_cons (pv 0) (pa_cons (pv 1) pa_nil))) pa_nil)))) (pss_one (ps_ret pe_bl)) pss_nil)))
      (C8.pss_cut (ps_setLc (i := 2) (own := [("e", 6)]) (g := gName 6) (tt := tYes) rfl scLaw.nd rfl rfl (sw_true rfl rfl rfl (by decide +kernel)) (pi_list (pe_call FM hr (by rfl) gM kM bM .nil pass0 (pa_cons pe_str (pa_cons pe_int pa_nil)))) (blkOk_by (N := ["script", "at", "told", "value", "lookup", "due", "e"]) (sc := defScope (top 31)) (by decide +kernel))
        (fun _ _ _ _ _ => pg_name (i := 6) scLaw.nd rfl (Or.inl rfl)) (fun _ _ _ _ _ => pts_nil) (fun _ _ _ _ _ => pe_call FB hr (by rfl) gB kB bB .nil pass0 (pa_cons (pv 6) pa_nil)))
      (C8.pss_cut (ps_par (i := 3) (j := 4) (by rfl) scLaw.nd rfl rfl (by decide) rfl rfl (pa_cons (pe_op op_cat (pe_lst (pa_cons pe_bl pa_nil)) (pe_op op_rep (pe_lst (pa_cons pe_bl pa_nil)) pe_int)) (pa_cons (pe_op op_cat (pe_op op_cat (pe_op op_rep (pe_lst (pa_cons pe_bl pa_nil)) pe_int) (pe_lst (pa_cons pe_bl pa_nil))) (pe_op op_rep (pe_lst (pa_cons pe_bl pa_nil)) pe_int)) pa_nil)) (by rfl))
      (C8.pss_cut (ps_set (i := 5) scLaw.nd rfl (.inl rfl) (pe_op op_cat (pe_op op_rep (pe_lst (pa_cons (pv 3) pa_nil)) pe_int) (pe_lst (pa_cons (pe_lst (pa_cons pe_bl (pa_cons pe_bl (pa_cons pe_bl (pa_cons pe_bl (pa_cons pe_bl (pa_cons pe_bl (pa_cons pe_bl pa_nil))))))))
          (pa_cons (pe_op op_cat (pe_lst (pa_cons pe_bl (pa_cons pe_bl (pa_cons pe_bl (pa_cons pe_bl pa_nil))))) (pe_op op_rep (pe_lst (pa_cons pe_bl pa_nil)) pe_int)) pa_nil)))))
      (pss_one (ps_ret (pe_cmpR (op_eqD hr.units) (pv 2) (pe_op op_cat (pv 5) (pe_lst (pa_cons (pv 4) (pa_cons (pv 4) (pa_cons (pe_op op_cat (pe_op op_rep (pe_lst (pa_cons pe_bl pa_nil)) pe_int) (pe_lst (pa_cons pe_bl (pa_cons pe_bl (pa_cons pe_bl pa_nil)))))
          (pa_cons (pe_op op_cat (pe_op op_rep (pe_lst (pa_cons pe_bl pa_nil)) pe_int) (pe_lst (pa_cons pe_bl (pa_cons pe_bl (pa_cons pe_bl pa_nil))))) pa_nil)))))) (nomark _)))))))), ?_⟩
    refine ⟨fun σ' H' => ∃ at', σ' = [some (.ref p), at', none, none, none, none, none] ∧ Same H H', ?_, ?_⟩
    · refine ⟨_, rfl, p, _, rfl, .inl hS, _, _, rfl, _, _, rfl, ?_⟩
      have bd : ∀ m : Int, -(2 ^ 62) ≤ (if (if m < 5 then m else 5) > 1 then (if m < 5 then m else 5) else 1) ∧ (if (if m < 5 then m else 5) > 1 then (if m < 5 then m else 5) else 1) < (2 : Int) ^ 62 := fun m => by
        have e2 : (2 : Int) ^ 62 = 4611686018427387904 := by decide
        split <;> (try split) <;> omega
      refine ⟨_, rfl, (bd _).1, (bd _).2, for_range (lo := 0) (fun i σ' H' => ∃ at', σ' = [some (.ref p), at', none, none, none, none, none] ∧ Same H H') ⟨_, rfl, Same.refl _⟩ (fun i σ' H' hi hP => ?_) (fun σ' H' hP => hP)⟩
      obtain ⟨at', rfl, s1⟩ := hP
      refine ⟨_, rfl, _, rfl, p, ns, i, by rw [Int.zero_add]; rfl, s1.seq hS, fun dd a b c nd => ⟨dd, a, b, c, rfl, upd_same, fun H2 k2 => ⟨true, rfl, ite2 (fun e => by cases e) (fun _ => ⟨_, rfl, s1.trans fun y o e => k2 y o (ne_of_none e nd) (by rw [upd_ne (ne_of_none e nd)]; exact e)⟩)⟩⟩⟩
    rintro σ1 H1 ⟨at1, rfl, s1⟩
    refine ⟨fun σ' H' => ∃ (D : Addr) (ls : List V), σ' = [some (.ref p), at1, some (.ref D), none, none, none, none] ∧ H' D = some (.lst ls) ∧ Rows H' ls (toldB 16), ?_, ?_⟩
    · refine ⟨.str "x", .int 3, rfl, fun H2 l es s2 le ma hl => ⟨l, rfl, ⟨_, .of hl⟩, fun D nD => lc_list (xs := es) (fun m H' => Same H2 H' ∧ ∃ ls, H' D = some (.lst ls) ∧ Rows (hid D H') ls (toldB m)) ⟨same_upd nD, [], upd_same, .nil⟩ (fun i H' hi hP => .of (hP.1 _ _ hl)) (fun i x H' hx hP => ?_) (fun H' hP => ?_)⟩⟩
      · obtain ⟨s3, ls, hD, rw⟩ := hP
        have hi : i < 16 := by
          have z := (List.getElem?_eq_some_iff.mp hx).1
          omega
        obtain ⟨e, d0, rfl, at0⟩ := ((ma.same s3).get hx).is
        rw [Nat.zero_add] at at0
        refine ⟨rfl, _, rfl, e, i, d0, rfl, hi, at0, fun H4 l4 s4 e4 => ?_⟩
        have hlen : ls.length = i := by rw [rw.length, toldB_len]
        have n4 : l4 ≠ D := fun z => by
          have z2 := s4 _ _ hD
          rw [← z, e4, basL_eq i hi] at z2
          have z3 := Option.some.inj z2
          injection z3 with z3
          rw [← z3] at rw
          exact rows_no rw
        refine ⟨ls, s4 _ _ hD, by rw [hlen]; exact small1000 (by omega), fun y o z => ?_, ls ++ [.ref l4], upd_same, ?_⟩
        · rw [upd_ne (ne_of_none z nD)]
          exact s4 _ _ (s3 _ _ z)
        · rw [toldB_succ]
          refine Rows.append (.cons ⟨l4, rfl, ?_⟩ .nil) (rw.same (hid_same fun y o n z => ?_))
          · rw [hid_ne n4, upd_ne n4]
            exact e4
          · rw [upd_ne n]
            exact s4 _ _ z
      · obtain ⟨s3, ls, hD, rw⟩ := hP
        have e : es.length = 16 := le
        rw [e] at rw
        exact ⟨D, ls, rfl, hD, rw.same hid_out⟩
    rintro σ2 H2 ⟨D, ls, rfl, hD, rows⟩
    refine ⟨fun σ' H' => ∃ v w, σ' = [some (.ref p), at1, some (.ref D), some v, some w, none, none] ∧ Same H2 H' ∧ Row H' v valB ∧ Row H' w lookB, ?_, ?_⟩
    · refine ers_cons (H0 := H2) (er_cat (er_lst (ebs_cons eb_c ebs_nil) (by decide)) (er_rep (k := 6) (er_lst (ebs_cons eb_c ebs_nil) (by decide)) (by decide)) (by decide)) (ers_cons (er_cat (er_cat (er_rep (k := 3) (er_lst (ebs_cons eb_c ebs_nil) (by decide)) (by decide)) (er_lst (ebs_cons eb_c ebs_nil) (by decide)) (by decide)) (er_rep (k := 3) (er_lst (ebs_cons eb_c ebs_nil) (by decide)) (by decide)) (by decide)) ers_nil) H2 _ (Same.refl _) fun H3 vs s3 r3 => ?_
      cases r3 with
      | cons ra r3 =>
        cases r3 with
        | cons rb r3 =>
          cases r3
          exact ⟨_, _, rfl, _, _, rfl, s3, ra, rb⟩
    rintro σ3 H3 ⟨v, w', rfl, s3, rv, rw3⟩
    refine ⟨fun σ' H' => ∃ l5 xs, σ' = [some (.ref p), at1, some (.ref D), some v, some w', some (.ref l5), none] ∧ Same H3 H' ∧ H' l5 = some (.lst xs) ∧ Rows H' xs dueB, ?_, ?_⟩
    · refine ⟨_, rfl, by show 1 ≤ sizeLine; decide, fun l0 n0 => ⟨l0, 10, _, rfl, rfl, upd_same, by decide, by decide, by show 10 ≤ sizeLine; decide, fun l1 n1 => ?_⟩⟩
      have s1' := (same_upd (o := .lst [v]) n0).trans (same_upd (o := .lst [v, v, v, v, v, v, v, v, v, v]) n1)
      refine ers_cons (er_lst (ebs_cons eb_c (ebs_cons eb_c (ebs_cons eb_c (ebs_cons eb_c (ebs_cons eb_c (ebs_cons eb_c (ebs_cons eb_c ebs_nil))))))) (by decide)) (ers_cons (er_cat (er_lst (ebs_cons eb_c (ebs_cons eb_c (ebs_cons eb_c (ebs_cons eb_c ebs_nil)))) (by decide)) (er_rep (k := 3) (er_lst (ebs_cons eb_c ebs_nil) (by decide)) (by decide)) (by decide)) ers_nil) _ _ (Same.refl _) fun H5 ys s5 r5 => ?_
      have hy : ys.length = 2 := r5.length
      refine ⟨by rw [hy]; decide, fun l2 n2 => ⟨l1, l2, [v, v, v, v, v, v, v, v, v, v], ys, rfl, rfl, same_upd n2 _ _ (s5 _ _ upd_same), upd_same, by rw [hy]; show 10 + 2 ≤ sizeLine; decide, fun l3 n3 => ?_⟩⟩
      have s6 := (same_upd (o := .lst ys) n2).trans (same_upd (o := .lst ([v, v, v, v, v, v, v, v, v, v] ++ ys)) n3)
      have rv6 := rv.same ((s1'.trans s5).trans s6)
      exact ⟨l3, _, rfl, (s1'.trans s5).trans s6, upd_same, Rows.append (r5.same s6) (.cons rv6 (.cons rv6 (.cons rv6 (.cons rv6 (.cons rv6 (.cons rv6 (.cons rv6 (.cons rv6 (.cons rv6 (.cons rv6 .nil))))))))))⟩
    rintro σ4 H4 ⟨l5, xs, rfl, s4, e5, r5⟩
    have rw4 := rw3.same s4
    refine ⟨_, rfl, _, rfl, ers_cons (H0 := H4) (er_var rfl rw4) (ers_cons (er_var rfl rw4) (ers_cons (er_cat (er_rep (k := 4) (er_lst (ebs_cons eb_c ebs_nil) (by decide)) (by decide)) (er_lst (ebs_cons eb_c (ebs_cons eb_c (ebs_cons eb_c ebs_nil))) (by decide)) (by decide)) (ers_cons (er_cat (er_rep (k := 4) (er_lst (ebs_cons eb_c ebs_nil) (by decide)) (by decide)) (er_lst (ebs_cons eb_c (ebs_cons eb_c (ebs_cons eb_c ebs_nil))) (by decide)) (by decide)) ers_nil))) H4 _ (Same.refl _) fun H6 ys s6 r6 => ?_⟩
    have hy : ys.length = 4 := r6.length
    have hx : xs.length = 12 := r5.length
    refine ⟨by rw [hy]; decide, fun l7 n7 => ⟨l5, l7, xs, ys, rfl, rfl, same_upd n7 _ _ (s6 _ _ e5), upd_same, by rw [hx, hy]; show 12 + 4 ≤ sizeLine; decide, fun l8 n8 => ?_⟩⟩
    have s8 := (same_upd (o := .lst ys) n7).trans (same_upd (o := .lst (xs ++ ys)) n8)
    have r8 : Rows _ (xs ++ ys) (dueB ++ endB) := Rows.append (r6.same s8) (r5.same (s6.trans s8))
    rw [told_due] at r8
    have s9 := ((s3.trans s4).trans s6).trans s8
    refine ⟨_, _, .lst (.of (s9 _ _ hD)) (rows.same s9).dp, .lst (.of upd_same) r8.dp, told_shaped, told_shaped, ?_⟩
    exact Eq.mp (congrArg (fun t => Q (.bl t) _) told_eqv.symm) (q _)
end
end K0

/-! ### K6 -/
set_option Elab.async false
set_option linter.all false
set_option maxRecDepth 100000
set_option maxHeartbeats 0
/-! The head: what the classes of the top are, told by a Hook of its own; the run of the top. -/
namespace K0
open PySem PySem.Spec PyProof.Rows L2
def clsBody (s : Stmt) : Stmt := match s with
  | .ClassDef _ _ _ b _ _ _ _ _ _ _ => b.getD 0 (.Pass ⟨0, 0, 0, 0⟩)
  | _ => .Pass ⟨0, 0, 0, 0⟩
def ini (j : Nat) : Stmt := clsBody (top (j + 1))
def nmC (j : Nat) : Str := match j with
  | 0 => "DressError"
  | 1 => "InvalidText"
  | 2 => "InvalidHole"
  | 3 => "InvalidDress"
  | 4 => "InvalidCleaner"
  | 5 => "InvalidRoad"
  | 6 => "InvalidStanding"
  | 7 => "InvalidLines"
  | 8 => "InvalidOperation"
  | 9 => "ParseError"
  | 10 => "InvalidNumber"
  | 11 => "UnknownName"
  | 12 => "InvalidFilling"
  | 13 => "NothingToUndo"
  | 14 => "Refused"
  | _ => "TooMany"
def cA (K : PySem.W.Frag) (j : Nat) : Addr := He.ga K (nmC j)
def bmL (j : Nat) : List Value := match j with
  | 9 => He.veBase
  | 10 => [.type "IndexError", .type "LookupError", .type "Exception", .type "BaseException", .type "object"]
  | 11 => [.type "KeyError", .type "LookupError", .type "Exception", .type "BaseException", .type "object"]
  | 12 => [.type "LookupError", .type "Exception", .type "BaseException", .type "object"]
  | 13 => [.type "LookupError", .type "Exception", .type "BaseException", .type "object"]
  | 14 => [.type "ArithmeticError", .type "Exception", .type "BaseException", .type "object"]
  | _ => [.type "OverflowError", .type "ArithmeticError", .type "Exception", .type "BaseException", .type "object"]
def newN (j : Nat) : String := match j with
  | 9 => "ValueError.__new__"
  | 10 => "IndexError.__new__"
  | 11 => "LookupError.__new__"
  | 12 => "LookupError.__new__"
  | 13 => "LookupError.__new__"
  | 14 => "ArithmeticError.__new__"
  | _ => "OverflowError.__new__"
def iniB (K : PySem.W.Frag) (j : Nat) : Bool :=
  He.eqO (PySem.W.findIn K (.ref (cA K j)) (fldN j)) (some none) && (PySem.W.excInitIn K (cA K j) (bmL j) (newN j) && (PySem.W.excOver K (cA K j) (bmL j) && (He.eqO (PySem.W.findIn K (.ref (cA K j)) "__setattr__") (some (some (.builtin "object.__setattr__"))) &&
  (He.eqO (PySem.W.findIn K (.ref (cA K j)) "__init__") (some (some (.ref (He.ma K (cA K j) "__init__")))) && decide (PySem.W.typeIn K (.ref (He.ma K (cA K j) "__init__")) = some (.type "function"))))))
def okB (K : PySem.W.Frag) : Bool :=
  ((List.range 16).all fun j => xfB K (cA K j)) && (((List.range 16).all fun i => (List.range 16).all fun j => decide (PySem.W.kitOne K (.ref (cA K j)) (.ref (cA K i)) = some (isK i j)) && decide (PySem.W.exmOne K (.ref (cA K j)) (.ref (cA K i)) = some (isK i j))) &&
  (((List.range 7).all fun t => (List.range 16).all fun j => decide (PySem.W.kitOne K (.ref (cA K j)) (.type (bnm t)) = some (isB t j))) && (((List.range 9).all fun j => PySem.W.excIn K (cA K j) He.veBase "ValueError.__new__") &&
  (((List.range 7).all fun t => iniB K (t + 9)) && sysB K))))
abbrev dfi (x q : Str) (j : Nat) : He.DefD := ⟨(x, some "__init__"), "__init__", q, defArgs (ini j), defBody (ini j), defScope (ini j), [], []⟩
def fnA : List He.DefD := fn ++ [dfi "ParseError" "ParseError.__init__" 9, dfi "InvalidNumber" "InvalidNumber.__init__" 10, dfi "UnknownName" "UnknownName.__init__" 11, dfi "InvalidFilling" "InvalidFilling.__init__" 12, dfi "NothingToUndo" "NothingToUndo.__init__" 13, dfi "Refused" "Refused.__init__" 14, dfi "TooMany" "TooMany.__init__" 15]
abbrev AlA : Type := He.AlD × Bool
def obsA (K : PySem.W.Frag) : AlA := (He.obsD fa fnA K, okB K)
def SaysA (K : PySem.W.Frag) : Prop := obsA K = (He.valD fnA, true)
def obsAG (g : Addr → Option Obj) : AlA := obsA (He.frG g (sysModules :: He.asD g 5))
def hookA : PySem.W.Hook where
  α := AlA
  obs := fun s => obsAG s.heap.get?
  val := fun _ => (He.valD fnA, true)
  says := fun _ h => ∃ K : PySem.W.Frag, K.In h ∧ SaysA K
  of := fun _ _ e => ⟨_, He.frG_in, e⟩
  keeps := fun _ _ _ ⟨K, hK, c⟩ k => ⟨K, PySem.W.Frag.In.keeps hK k, c⟩
def obA (s : PySem.W.SharedT) : AlA := obsAG (HandSHeadRun.getT s)
theorem obA_eq (s : PySem.W.SharedT) : obA s = hookA.obs s.abs := by
  have e : HandSHeadRun.getT s = s.abs.heap.get? := funext (HandSHeadRun.getT_eq s)
  show obsAG _ = obsAG _
  rw [e]
theorem runA (w : World) : HandSHeadRun.RunEq R (PySem.W.view R.prog [31]) hookA obA 20000 names w := by
  intro os
  kernel_rfl
end K0

/-! ### K7 -/
set_option Elab.async false
set_option linter.all false
set_option maxRecDepth 100000
set_option maxHeartbeats 0
/-! The facts unpacked; each def keeps its promise; the end. -/
namespace K0
open PySem PySem.Spec PyProof.Rows L2
def baseN (j : Nat) : String := match j with
  | 9 => "ValueError"
  | 10 => "IndexError"
  | 11 => "LookupError"
  | 12 => "LookupError"
  | 13 => "LookupError"
  | 14 => "ArithmeticError"
  | _ => "OverflowError"
def initN (j : Nat) : String := match j with
  | 9 => "ValueError.__init__"
  | 10 => "IndexError.__init__"
  | 11 => "LookupError.__init__"
  | 12 => "LookupError.__init__"
  | 13 => "LookupError.__init__"
  | 14 => "ArithmeticError.__init__"
  | _ => "OverflowError.__init__"
theorem base_facts : ∀ j, 9 ≤ j → j < 16 → ∃ bB, PySem.ExcBaseFacts (baseN j) (newN j) (initN j) bB
  | 9, _, _ => ⟨_, PySem.F.excBase_ValueError⟩
  | 10, _, _ => ⟨_, PySem.F.excBase_IndexError⟩
  | 11, _, _ => ⟨_, PySem.F.excBase_LookupError⟩
  | 12, _, _ => ⟨_, PySem.F.excBase_LookupError⟩
  | 13, _, _ => ⟨_, PySem.F.excBase_LookupError⟩
  | 14, _, _ => ⟨_, PySem.F.excBase_ArithmeticError⟩
  | 15, _, _ => ⟨_, PySem.F.excBase_OverflowError⟩
  | 0, h, _ => by omega
  | 1, h, _ => by omega
  | 2, h, _ => by omega
  | 3, h, _ => by omega
  | 4, h, _ => by omega
  | 5, h, _ => by omega
  | 6, h, _ => by omega
  | 7, h, _ => by omega
  | 8, h, _ => by omega
  | n + 16, _, h => by omega
theorem bm_pass (self : Value) : ∀ j, 9 ≤ j → j < 16 → refuseLoop self "__setattr__" (bmL j) = pure ()
  | 9, _, _ => by rfl
  | 10, _, _ => by rfl
  | 11, _, _ => by rfl
  | 12, _, _ => by rfl
  | 13, _, _ => by rfl
  | 14, _, _ => by rfl
  | 15, _, _ => by rfl
  | 0, h, _ => by omega
  | 1, h, _ => by omega
  | 2, h, _ => by omega
  | 3, h, _ => by omega
  | 4, h, _ => by omega
  | 5, h, _ => by omega
  | 6, h, _ => by omega
  | 7, h, _ => by omega
  | 8, h, _ => by omega
  | n + 16, _, h => by omega
theorem okB_ok {K : PySem.W.Frag} (h : okB K = true) : CK K (cA K) ∧ CN K (cA K) ∧ (∀ j, j < 9 → PySem.W.excIn K (cA K j) He.veBase "ValueError.__new__" = true) ∧ (∀ j, 9 ≤ j → j < 16 → iniB K j = true) ∧ sysB K = true := by
  unfold okB at h
  obtain ⟨h1, h⟩ := He.ba h
  obtain ⟨h2, h⟩ := He.ba h
  obtain ⟨h3, h⟩ := He.ba h
  obtain ⟨h4, h⟩ := He.ba h
  obtain ⟨h5, h6⟩ := He.ba h
  have r : ∀ {n j : Nat}, j < n → j ∈ List.range n := fun z => List.mem_range.mpr z
  have kk : ∀ i j, i < 16 → j < 16 → PySem.W.kitOne K (.ref (cA K j)) (.ref (cA K i)) = some (isK i j) ∧ PySem.W.exmOne K (.ref (cA K j)) (.ref (cA K i)) = some (isK i j) := fun i j hi hj => by
    obtain ⟨z1, z2⟩ := He.ba (List.all_eq_true.mp (List.all_eq_true.mp h2 i (r hi)) j (r hj))
    exact ⟨of_decide_eq_true z1, of_decide_eq_true z2⟩
  have ib : ∀ j, 9 ≤ j → j < 16 → iniB K j = true := fun j h9 h16 => by
    have z := List.all_eq_true.mp h5 (j - 9) (r (by omega))
    rw [show j - 9 + 9 = j by omega] at z
    exact z
  refine ⟨⟨fun j hj => xfB_ok (List.all_eq_true.mp h1 j (r hj)), fun i j hi hj => (kk i j hi hj).1, fun t j ht hj => of_decide_eq_true (List.all_eq_true.mp (List.all_eq_true.mp h3 t (r ht)) j (r hj))⟩, ⟨fun i j hi hj => (kk i j hi hj).2, fun j h9 h16 => ?_⟩, fun j hj => List.all_eq_true.mp h4 j (r hj), ib, h6⟩
  have z := ib j h9 h16
  unfold iniB at z
  exact He.eqO_ok (He.ba z).1
theorem bm_has : ∀ j, j < 16 → 9 ≤ j → (bmL j).contains (.type (baseN j)) = true ∧ (bmL j).contains (.type "AttributeError") = false ∧ (bmL j).contains (.type "NameError") = false ∧ (bmL j).contains (.type "object") = true := by decide +kernel
theorem xi_of {K : PySem.W.Frag} {j : Nat} (h9 : 9 ≤ j) (h16 : j < 16) (h : iniB K j = true) : XI K (cA K j) (He.ma K (cA K j) "__init__") (baseN j) (newN j) (initN j) (bmL j) (fldN j) := by
  unfold iniB at h
  obtain ⟨h1, h⟩ := He.ba h
  obtain ⟨h2, h⟩ := He.ba h
  obtain ⟨h3, h⟩ := He.ba h
  obtain ⟨h4, h⟩ := He.ba h
  obtain ⟨h5, h6⟩ := He.ba h
  obtain ⟨b1, b2, b3, b4⟩ := bm_has j h16 h9
  exact ⟨base_facts j h9 h16, b1, b2, b3, b4, fun self => bm_pass self j h9 h16, h2, h3, He.eqO_ok h4, He.eqO_ok h5, of_decide_eq_true h6, He.eqO_ok h1⟩
section
variable {P : Program} {w : World} {K : PySem.W.Frag} {mg : Str → Option Value} {base : Heap} {f C : Addr} {fd : FuncData} {B newId initId : String} {bmB : List Value}
theorem ok_ini9 (F : FunD K "__init__" "ParseError.__init__" (defArgs (ini 9)) (defBody (ini 9)) (defScope (ini 9)) [] [] f fd) (T : XI K C f B newId initId bmB (fldN 9)) (U : XF K C) : FnOk P w K mg base CX0 1 f fd ["self", fldN 9] (spInit C (fldN 9)) ∧ Binds K fd ["self", fldN 9] [] := by
  have sc : FnScope ["self", "number"] ["self", "number"] (defScope (ini 9)) := ⟨rfl, rfl, rfl, by decide +kernel, rfl, by decide +kernel, by decide +kernel⟩
  refine ⟨F.ok sc (fun vs H Q E h => ?_) (fun cdv A outer s H vs Q E hr h => ?_), F.bindsN fun _ _ _ _ _ _ us hl => match us, hl with | [_, _], _ => rfl⟩
  · obtain ⟨a, v, rfl, _⟩ := h
    rfl
  · obtain ⟨a, v, rfl, e, q⟩ := h
    exact ⟨_, PSs.nox (pss_one (ps_st T U (pv 0) (pv 1))), v, rfl, _, rfl, a, rfl, e, q⟩
theorem ok_ini10 (F : FunD K "__init__" "InvalidNumber.__init__" (defArgs (ini 10)) (defBody (ini 10)) (defScope (ini 10)) [] [] f fd) (T : XI K C f B newId initId bmB (fldN 10)) (U : XF K C) : FnOk P w K mg base CX0 1 f fd ["self", fldN 10] (spInit C (fldN 10)) ∧ Binds K fd ["self", fldN 10] [] := by
  have sc : FnScope ["self", "value"] ["self", "value"] (defScope (ini 10)) := ⟨rfl, rfl, rfl, by decide +kernel, rfl, by decide +kernel, by decide +kernel⟩
  refine ⟨F.ok sc (fun vs H Q E h => ?_) (fun cdv A outer s H vs Q E hr h => ?_), F.bindsN fun _ _ _ _ _ _ us hl => match us, hl with | [_, _], _ => rfl⟩
  · obtain ⟨a, v, rfl, _⟩ := h
    rfl
  · obtain ⟨a, v, rfl, e, q⟩ := h
    exact ⟨_, PSs.nox (pss_one (ps_st T U (pv 0) (pv 1))), v, rfl, _, rfl, a, rfl, e, q⟩
theorem ok_ini11 (F : FunD K "__init__" "UnknownName.__init__" (defArgs (ini 11)) (defBody (ini 11)) (defScope (ini 11)) [] [] f fd) (T : XI K C f B newId initId bmB (fldN 11)) (U : XF K C) : FnOk P w K mg base CX0 1 f fd ["self", fldN 11] (spInit C (fldN 11)) ∧ Binds K fd ["self", fldN 11] [] := by
  have sc : FnScope ["self", "name"] ["self", "name"] (defScope (ini 11)) := ⟨rfl, rfl, rfl, by decide +kernel, rfl, by decide +kernel, by decide +kernel⟩
  refine ⟨F.ok sc (fun vs H Q E h => ?_) (fun cdv A outer s H vs Q E hr h => ?_), F.bindsN fun _ _ _ _ _ _ us hl => match us, hl with | [_, _], _ => rfl⟩
  · obtain ⟨a, v, rfl, _⟩ := h
    rfl
  · obtain ⟨a, v, rfl, e, q⟩ := h
    exact ⟨_, PSs.nox (pss_one (ps_st T U (pv 0) (pv 1))), v, rfl, _, rfl, a, rfl, e, q⟩
theorem ok_ini12 (F : FunD K "__init__" "InvalidFilling.__init__" (defArgs (ini 12)) (defBody (ini 12)) (defScope (ini 12)) [] [] f fd) (T : XI K C f B newId initId bmB (fldN 12)) (U : XF K C) : FnOk P w K mg base CX0 1 f fd ["self", fldN 12] (spInit C (fldN 12)) ∧ Binds K fd ["self", fldN 12] [] := by
  have sc : FnScope ["self", "index"] ["self", "index"] (defScope (ini 12)) := ⟨rfl, rfl, rfl, by decide +kernel, rfl, by decide +kernel, by decide +kernel⟩
  refine ⟨F.ok sc (fun vs H Q E h => ?_) (fun cdv A outer s H vs Q E hr h => ?_), F.bindsN fun _ _ _ _ _ _ us hl => match us, hl with | [_, _], _ => rfl⟩
  · obtain ⟨a, v, rfl, _⟩ := h
    rfl
  · obtain ⟨a, v, rfl, e, q⟩ := h
    exact ⟨_, PSs.nox (pss_one (ps_st T U (pv 0) (pv 1))), v, rfl, _, rfl, a, rfl, e, q⟩
theorem ok_ini13 (F : FunD K "__init__" "NothingToUndo.__init__" (defArgs (ini 13)) (defBody (ini 13)) (defScope (ini 13)) [] [] f fd) (T : XI K C f B newId initId bmB (fldN 13)) (U : XF K C) : FnOk P w K mg base CX0 1 f fd ["self", fldN 13] (spInit C (fldN 13)) ∧ Binds K fd ["self", fldN 13] [] := by
  have sc : FnScope ["self", "many"] ["self", "many"] (defScope (ini 13)) := ⟨rfl, rfl, rfl, by decide +kernel, rfl, by decide +kernel, by decide +kernel⟩
  refine ⟨F.ok sc (fun vs H Q E h => ?_) (fun cdv A outer s H vs Q E hr h => ?_), F.bindsN fun _ _ _ _ _ _ us hl => match us, hl with | [_, _], _ => rfl⟩
  · obtain ⟨a, v, rfl, _⟩ := h
    rfl
  · obtain ⟨a, v, rfl, e, q⟩ := h
    exact ⟨_, PSs.nox (pss_one (ps_st T U (pv 0) (pv 1))), v, rfl, _, rfl, a, rfl, e, q⟩
theorem ok_ini14 (F : FunD K "__init__" "Refused.__init__" (defArgs (ini 14)) (defBody (ini 14)) (defScope (ini 14)) [] [] f fd) (T : XI K C f B newId initId bmB (fldN 14)) (U : XF K C) : FnOk P w K mg base CX0 1 f fd ["self", fldN 14] (spInit C (fldN 14)) ∧ Binds K fd ["self", fldN 14] [] := by
  have sc : FnScope ["self", "text"] ["self", "text"] (defScope (ini 14)) := ⟨rfl, rfl, rfl, by decide +kernel, rfl, by decide +kernel, by decide +kernel⟩
  refine ⟨F.ok sc (fun vs H Q E h => ?_) (fun cdv A outer s H vs Q E hr h => ?_), F.bindsN fun _ _ _ _ _ _ us hl => match us, hl with | [_, _], _ => rfl⟩
  · obtain ⟨a, v, rfl, _⟩ := h
    rfl
  · obtain ⟨a, v, rfl, e, q⟩ := h
    exact ⟨_, PSs.nox (pss_one (ps_st T U (pv 0) (pv 1))), v, rfl, _, rfl, a, rfl, e, q⟩
theorem ok_ini15 (F : FunD K "__init__" "TooMany.__init__" (defArgs (ini 15)) (defBody (ini 15)) (defScope (ini 15)) [] [] f fd) (T : XI K C f B newId initId bmB (fldN 15)) (U : XF K C) : FnOk P w K mg base CX0 1 f fd ["self", fldN 15] (spInit C (fldN 15)) ∧ Binds K fd ["self", fldN 15] [] := by
  have sc : FnScope ["self", "limit"] ["self", "limit"] (defScope (ini 15)) := ⟨rfl, rfl, rfl, by decide +kernel, rfl, by decide +kernel, by decide +kernel⟩
  refine ⟨F.ok sc (fun vs H Q E h => ?_) (fun cdv A outer s H vs Q E hr h => ?_), F.bindsN fun _ _ _ _ _ _ us hl => match us, hl with | [_, _], _ => rfl⟩
  · obtain ⟨a, v, rfl, _⟩ := h
    rfl
  · obtain ⟨a, v, rfl, e, q⟩ := h
    exact ⟨_, PSs.nox (pss_one (ps_st T U (pv 0) (pv 1))), v, rfl, _, rfl, a, rfl, e, q⟩
end
end K0

/-! ### K8 -/
set_option Elab.async false
set_option linter.all false
set_option maxRecDepth 100000
set_option maxHeartbeats 0
namespace K0
open PySem PySem.Spec PyProof.Rows L2
theorem facts {P : Program} {w : World} {K : PySem.W.Frag} {h : Heap} {mg : Str → Option Value} {f : Addr} (X : K.In h) (G : h.Ns mainGlobals mg) (hfa : mg ("law" : Str) = some (.ref f)) (c : SaysA K) :
    ∃ fd : FuncData, (∀ (s : Shared) (v : Value), BindsTo s fd ⟨[v], []⟩ [("script", v)]) ∧ ∀ base : Heap, K.In base → base.Ns mainGlobals mg → FnG P w K mg base CX0 6 f fd ["script"] (spLaw K) := by
  have d : He.SaysD fa fnA K := congrArg (fun z : AlA => z.1) c
  obtain ⟨U, N, E0', IB, SB⟩ := okB_ok (show okB K = true from congrArg (fun z : AlA => z.2) c)
  obtain ⟨fdDi, FDi⟩ := d.def_ 0 (d := dfn "_law_dice" 18) rfl
  obtain ⟨fdRo, FRo⟩ := d.def_ 1 (d := dfn "_law_roll" 19) rfl
  obtain ⟨fdOn, FOn⟩ := d.def_ 2 (d := dfn "_law_one_of" 20) rfl
  obtain ⟨fdAl, FAl⟩ := d.def_ 3 (d := dfn "_law_all_signs" 21) rfl
  obtain ⟨fdWo, FWo⟩ := d.def_ 4 (d := dfn "_law_word" 22) rfl
  obtain ⟨fdOd, FOd⟩ := d.def_ 5 (d := dfn "_law_odd" 23) rfl
  obtain ⟨fdMa, FMa⟩ := d.def_ 6 (d := dfn "_law_made" 24) rfl
  obtain ⟨fdKi, FKi⟩ := d.def_ 7 (d := dfn "_law_kinds" 25) rfl
  obtain ⟨fdBa, FBa⟩ := d.def_ 8 (d := dfn "_law_bases" 26) rfl
  obtain ⟨fdRa, FRa⟩ := d.def_ 9 (d := dfn "_law_raise" 27) rfl
  obtain ⟨fdCa, FCa⟩ := d.def_ 10 (d := dfn "_law_caught" 28) rfl
  obtain ⟨fdBy, FBy⟩ := d.def_ 11 (d := dfn "_law_by_base" 29) rfl
  obtain ⟨fdRi, FRi⟩ := d.def_ 12 (d := dfn "_law_right" 30) rfl
  obtain ⟨fdLa, FLa⟩ := d.def_ 13 (d := dfn "law" 31) rfl
  obtain ⟨fd9, F9⟩ := d.def_ 14 (d := dfi "ParseError" "ParseError.__init__" 9) rfl
  obtain ⟨fd10, F10⟩ := d.def_ 15 (d := dfi "InvalidNumber" "InvalidNumber.__init__" 10) rfl
  obtain ⟨fd11, F11⟩ := d.def_ 16 (d := dfi "UnknownName" "UnknownName.__init__" 11) rfl
  obtain ⟨fd12, F12⟩ := d.def_ 17 (d := dfi "InvalidFilling" "InvalidFilling.__init__" 12) rfl
  obtain ⟨fd13, F13⟩ := d.def_ 18 (d := dfi "NothingToUndo" "NothingToUndo.__init__" 13) rfl
  obtain ⟨fd14, F14⟩ := d.def_ 19 (d := dfi "Refused" "Refused.__init__" 14) rfl
  obtain ⟨fd15, F15⟩ := d.def_ 20 (d := dfi "TooMany" "TooMany.__init__" 15) rfl
  have gDi := He.glo_ok X G (d.fact 0 (f := .glo "_law_dice") rfl)
  have bDi : Binds K fdDi ["script", "at"] [] := FDi.bindsN fun _ _ _ _ _ _ us hl => match us, hl with | [_, _], _ => rfl
  have gRo := He.glo_ok X G (d.fact 1 (f := .glo "_law_roll") rfl)
  have bRo : Binds K fdRo ["dice", "total"] [] := FRo.bindsN fun _ _ _ _ _ _ us hl => match us, hl with | [_, _], _ => rfl
  have gOn := He.glo_ok X G (d.fact 2 (f := .glo "_law_one_of") rfl)
  have bOn : Binds K fdOn ["dice", "items"] [] := FOn.bindsN fun _ _ _ _ _ _ us hl => match us, hl with | [_, _], _ => rfl
  have gAl := He.glo_ok X G (d.fact 3 (f := .glo "_law_all_signs") rfl)
  have bAl : Binds K fdAl [] [] := FAl.bindsN fun _ _ _ _ _ _ us hl => match us, hl with | [], _ => rfl
  have gWo := He.glo_ok X G (d.fact 4 (f := .glo "_law_word") rfl)
  have bWo : Binds K fdWo ["dice", "signs", "upto"] [] := FWo.bindsN fun _ _ _ _ _ _ us hl => match us, hl with | [_, _, _], _ => rfl
  have gOd := He.glo_ok X G (d.fact 5 (f := .glo "_law_odd") rfl)
  have bOd : Binds K fdOd ["dice"] [] := FOd.bindsN fun _ _ _ _ _ _ us hl => match us, hl with | [_], _ => rfl
  have gMa := He.glo_ok X G (d.fact 6 (f := .glo "_law_made") rfl)
  have bMa : Binds K fdMa ["word", "value"] [] := FMa.bindsN fun _ _ _ _ _ _ us hl => match us, hl with | [_, _], _ => rfl
  have gKi := He.glo_ok X G (d.fact 7 (f := .glo "_law_kinds") rfl)
  have bKi : Binds K fdKi ["e"] [] := FKi.bindsN fun _ _ _ _ _ _ us hl => match us, hl with | [_], _ => rfl
  have gBa := He.glo_ok X G (d.fact 8 (f := .glo "_law_bases") rfl)
  have bBa : Binds K fdBa ["e"] [] := FBa.bindsN fun _ _ _ _ _ _ us hl => match us, hl with | [_], _ => rfl
  have gRa := He.glo_ok X G (d.fact 9 (f := .glo "_law_raise") rfl)
  have bRa : Binds K fdRa ["kind", "value"] [] := FRa.bindsN fun _ _ _ _ _ _ us hl => match us, hl with | [_, _], _ => rfl
  have gCa := He.glo_ok X G (d.fact 10 (f := .glo "_law_caught") rfl)
  have bCa : Binds K fdCa ["kind", "value"] [] := FCa.bindsN fun _ _ _ _ _ _ us hl => match us, hl with | [_, _], _ => rfl
  have gBy := He.glo_ok X G (d.fact 11 (f := .glo "_law_by_base") rfl)
  have bBy : Binds K fdBy ["kind", "value"] [] := FBy.bindsN fun _ _ _ _ _ _ us hl => match us, hl with | [_, _], _ => rfl
  have gRi := He.glo_ok X G (d.fact 12 (f := .glo "_law_right") rfl)
  have bRi : Binds K fdRi ["dice"] [] := FRi.bindsN fun _ _ _ _ _ _ us hl => match us, hl with | [_], _ => rfl
  have gLa := He.glo_ok X G (d.fact 13 (f := .glo "law") rfl)
  have bLa : Binds K fdLa ["script"] [] := FLa.bindsN fun _ _ _ _ _ _ us hl => match us, hl with | [_], _ => rfl
  have mabs := He.free_ok X G (d.fact 30 (f := .free "abs") rfl)
  have mint := He.free_ok X G (d.fact 31 (f := .free "int") rfl)
  have mmax := He.free_ok X G (d.fact 32 (f := .free "max") rfl)
  have mmin := He.free_ok X G (d.fact 33 (f := .free "min") rfl)
  have mlen := He.free_ok X G (d.fact 34 (f := .free "len") rfl)
  have mrange := He.free_ok X G (d.fact 35 (f := .free "range") rfl)
  have misinstance := He.free_ok X G (d.fact 36 (f := .free "isinstance") rfl)
  have mrepr := He.free_ok X G (d.fact 37 (f := .free "repr") rfl)
  have menumerate := He.free_ok X G (d.fact 38 (f := .free "enumerate") rfl)
  have mValueError := He.free_ok X G (d.fact 39 (f := .free "ValueError") rfl)
  have mKeyError := He.free_ok X G (d.fact 40 (f := .free "KeyError") rfl)
  have mIndexError := He.free_ok X G (d.fact 41 (f := .free "IndexError") rfl)
  have mLookupError := He.free_ok X G (d.fact 42 (f := .free "LookupError") rfl)
  have mArithmeticError := He.free_ok X G (d.fact 43 (f := .free "ArithmeticError") rfl)
  have mOverflowError := He.free_ok X G (d.fact 44 (f := .free "OverflowError") rfl)
  have mRuntimeError := He.free_ok X G (d.fact 45 (f := .free "RuntimeError") rfl)
  have T : CG mg (cA K) := ⟨He.glo_ok X G (d.fact 14 (f := .glo "DressError") rfl), He.glo_ok X G (d.fact 15 (f := .glo "InvalidText") rfl), He.glo_ok X G (d.fact 16 (f := .glo "InvalidHole") rfl), He.glo_ok X G (d.fact 17 (f := .glo "InvalidDress") rfl), He.glo_ok X G (d.fact 18 (f := .glo "InvalidCleaner") rfl), He.glo_ok X G (d.fact 19 (f := .glo "InvalidRoad") rfl), He.glo_ok X G (d.fact 20 (f := .glo "InvalidStanding") rfl), He.glo_ok X G (d.fact 21 (f := .glo "InvalidLines") rfl), He.glo_ok X G (d.fact 22 (f := .glo "InvalidOperation") rfl), He.glo_ok X G (d.fact 23 (f := .glo "ParseError") rfl), He.glo_ok X G (d.fact 24 (f := .glo "InvalidNumber") rfl), He.glo_ok X G (d.fact 25 (f := .glo "UnknownName") rfl), He.glo_ok X G (d.fact 26 (f := .glo "InvalidFilling") rfl), He.glo_ok X G (d.fact 27 (f := .glo "NothingToUndo") rfl), He.glo_ok X G (d.fact 28 (f := .glo "Refused") rfl), He.glo_ok X G (d.fact 29 (f := .glo "TooMany") rfl), mValueError, mKeyError, mIndexError, mLookupError, mArithmeticError, mOverflowError, mRuntimeError, misinstance⟩
  have e := hfa.symm.trans gLa
  cases e
  have b := FunD.bindsA (ps := ["script"]) FLa fun _ _ _ _ _ _ us hl => match us, hl with | [_], _ => rfl
  refine ⟨fdLa, fun s v => b s [v] rfl, fun base _ _ => ?_⟩
  have M : CM P w K mg base (cA K) := ⟨E0', fun j h9 h16 => by
    have x := xi_of h9 h16 (IB j h9 h16)
    have u := U.xf j h16
    match j, h9, h16, x, u with
    | 9, _, _, x, u => exact (ok_ini9 F9 x u).elim fun y z => ⟨_, _, _, _, _, fd9, x, y, z⟩
    | 10, _, _, x, u => exact (ok_ini10 F10 x u).elim fun y z => ⟨_, _, _, _, _, fd10, x, y, z⟩
    | 11, _, _, x, u => exact (ok_ini11 F11 x u).elim fun y z => ⟨_, _, _, _, _, fd11, x, y, z⟩
    | 12, _, _, x, u => exact (ok_ini12 F12 x u).elim fun y z => ⟨_, _, _, _, _, fd12, x, y, z⟩
    | 13, _, _, x, u => exact (ok_ini13 F13 x u).elim fun y z => ⟨_, _, _, _, _, fd13, x, y, z⟩
    | 14, _, _, x, u => exact (ok_ini14 F14 x u).elim fun y z => ⟨_, _, _, _, _, fd14, x, y, z⟩
    | 15, _, _, x, u => exact (ok_ini15 F15 x u).elim fun y z => ⟨_, _, _, _, _, fd15, x, y, z⟩
    | n + 16, _, h, _, _ => omega⟩
  have roll : ∀ k, FnOk P w K mg base CX0 (k + 1) _ fdRo ["dice", "total"] spRoll := fun k => ok_roll FRo mint
  have one : ∀ k, FnOk P w K mg base CX0 (k + 2) _ fdOn ["dice", "items"] (spOne K) := fun k => ok_one FOn (roll k) gRo FRo.kp bRo mlen
  have made : ∀ k, FnOk P w K mg base CX0 (k + 3) _ fdMa ["word", "value"] (spMade (cA K)) := fun k => ok_made FMa T U M
  have raise : FnOk P w K mg base (L2.CX P w) 3 _ fdRa ["kind", "value"] (spRaise (cA K)) := ok_raise (k := 0) FRa T U M
  have caught : FnG P w K mg base CX0 4 _ fdCa ["kind", "value"] (spCaught K) := ok_caught (n := 0) FCa T U N SB mrepr raise gRa FRa.kp bRa (ok_kindsE (k := 2) FKi T U) gKi FKi.kp bKi
  have right : FnG P w K mg base CX0 5 _ fdRi ["dice"] spRight := ok_right (n := 0) FRi U N SB mrepr mrange menumerate (roll 3) gRo FRo.kp bRo (one 2) gOn FOn.kp bOn (ok_all FAl) gAl FAl.kp bAl (ok_word (k := 1) FWo (one 1) gOn FOn.kp bOn mmin mrange) gWo FWo.kp bWo
    (ok_odd (k := 1) FOd (one 1) gOn FOn.kp bOn) gOd FOd.kp bOd (made 1) gMa FMa.kp bMa (ok_kinds (k := 3) FKi T U) gKi FKi.kp bKi caught gCa FCa.kp bCa (ok_by_base (n := 0) FBy T N raise gRa FRa.kp bRa) gBy FBy.kp bBy
  exact ok_law (n := 0) FLa mrange mmax mmin mlen (ok_dice (k := 4) FDi mlen mint mabs mmax) gDi FDi.kp bDi right gRi FRi.kp bRi (made 2) gMa FMa.kp bMa (ok_bases (k := 4) FBa T U) gBa FBa.kp bBa
end K0

/-! ### K9 -/
set_option Elab.async false
set_option linter.all false
set_option maxRecDepth 100000
set_option maxHeartbeats 0
namespace K0
open PySem PySem.Spec PyProof.Rows L2
/-- the end over a head by facts, for a promise that is kept where nothing is being shown -/
theorem walkG {l : PySem.W.OpenLaw} {n k : Nat} {q : Program} {loose : List Str} {XP : (Str → Option Value) → Heap → Prop} {YP : World → Heap → Prop} {d : DefRec} {x : Str}
    (hn : l.most = some n) (hn2 : n ≤ sizeLine) (hdf : d.params.defaults = []) (room : Room k callerA)
    (F : ∀ (w : World) (mg : Str → Option Value) (f : Addr) (h : Heap), YP w h → h.Ns mainGlobals mg → mg d.name = some (.ref f) → ∃ K : PySem.W.Frag, K.In h ∧
      ∃ fd : FuncData, (∀ (s : Shared) (u : Value), BindsTo s fd ⟨[u], []⟩ [(x, u)]) ∧ ∀ base : Heap, K.In base → base.Ns mainGlobals mg → FnG l.prog w K mg base CX0 k f fd [x] (spLaw K)) :
    PySem.W.WalkO q loose XP YP l.row.toRowW d [] (fun f vs => PySem.call f vs) := by
  refine Att.attach_call hn hdf fun w s₀ s₁ mg mb f o pm cd doc a vs ns G Y ho hd hcd hmg hobj its len gens => ?_
  obtain ⟨K, KX, fd, b, G2⟩ := F w mg f _ Y G.T.g hmg
  exact lawG KX G.T.g G.T.b G.T.builtins G.T.nolimit gens hobj its (Nat.le_trans len hn2) room G2 b (fun H _ seq => ⟨a, ns, rfl, seq, fun _ => rfl⟩) fun H e s' z => z
end K0
open PySem PySem.W PySem.Calls PyProof.Rows
theorem PySem.Challenge.cw_cleandress_k00_errors_holds : PySem.Challenge.rw_cleandress_k00_errors.Holds := by
  w_on; o_law
  refine HandSHeadRun.head_any (r := K0.R) (q := view K0.R.prog [31]) (H := K0.hookA) (ob := K0.obA) (M := 20000) (loose := K0.names) (d := HandSHeadRun.topDef K0.R.prog 31) (kwd := []) K0.obA_eq
    (by kernel_rfl) (fun s => by kernel_rfl) K0.runA (by kernel_rfl) (by kernel_rfl) (by kernel_rfl) (by rfl) (by first | assumption | decide +kernel) (by decide +kernel) ⟨rfl, rfl, rfl, rfl, rfl, by decide +kernel⟩ ?hw ?hc
  case hw => w_witness2
  case hc =>
    refine K0.walkG (l := PySem.Challenge.rw_cleandress_k00_errors) (n := 63) (k := 6) (x := "script") rfl (by decide) (by kernel_rfl) ⟨rfl, by decide, by decide⟩ ?F
    intro w mg f h Y G hmg0
    obtain ⟨K, KX, c⟩ := Y
    have hmg : mg ("law" : PySem.Str) = some (.ref f) := by
      have e : (HandSHeadRun.topDef K0.R.prog 31).name = ("law" : PySem.Str) := by kernel_rfl
      rw [← e]
      exact hmg0
    exact ⟨K, KX, K0.facts KX G hmg c⟩
