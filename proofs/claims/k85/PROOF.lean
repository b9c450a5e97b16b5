import PyProof.Rows.All
import Wide.All
import OpenK.AllK
import Wide.FinOn
import HandS.ForMost
import HandS.ForExc
import HandS.Codes
import HandS.Wide
import HandS.Gcd
import HandS.Flow
import HandS.IsInst
import HandS.ExcInit
import HandS.ExcField
import HandS.ExcIs
import HandS.Defaults
import HandS.MakeKw
import HandS.MakeKwOnly
import HandS.TryOnly
import HandS.EndBits
import KE.KExcIs
import KE.KOpsOwn
import HandS.OwnEq
import HandS.Star
import OpenK.KOps
import HandS.ClsMeth
import HandS.Conv
import HandS.TupAny
import HandS.Style
import HandS.Property
import OpenK.KMore
import KE.KExcMore
import HandS.ExcValue
import HandS.HotCalls
import HandS.Deep
import KE.OsRunLaw
import PySem.Challenge.RW_seriessquares_k85_numbers_set_and_added
set_option Elab.async false
set_option linter.all false
set_option maxRecDepth 100000
set_option maxHeartbeats 4000000
-- needs KE.OsRunLaw
namespace Sq
open PySem PySem.W
theorem splitRun {α β γ : Type} {x : Option α} {f : α → β} {g : α → γ} {a : β} {b : γ} (h1 : x.map f = some a) (h2 : x.map g = some b) : x.map (fun s => (f s, g s)) = some (a, b) := by
  cases x with
  | none => cases h1
  | some v =>
    cases h1
    cases h2
    rfl
theorem splitF {α β γ : Type} {x : Option α} {f : α → β × γ} {a : β × γ} {a1 : β} {a2 : γ} (e : a = (a1, a2)) (h1 : x.map (fun s => (f s).1) = some a1) (h2 : x.map (fun s => (f s).2) = some a2) : x.map f = some a := by
  cases x with
  | none => cases h1
  | some v =>
    have e1 : (f v).1 = a1 := Option.some.inj h1
    have e2 : (f v).2 = a2 := Option.some.inj h2
    rw [e]
    exact congrArg some (Prod.ext e1 e2)
abbrev RunP (H : Prop) := Σ' (R1 R2 R3 R4 : World → Prop), (∀ w, R1 w) → (∀ w, R2 w) → (∀ w, R3 w) → (∀ w, R4 w) → H
abbrev runP {H : Prop} {R1 R2 R3 R4 : World → Prop} (h : (∀ w, R1 w) → (∀ w, R2 w) → (∀ w, R3 w) → (∀ w, R4 w) → H) : RunP H := ⟨R1, R2, R3, R4, h⟩
end Sq
open PySem PySem.W PyProof.Rows
section
set_option hygiene false
local macro_rules | `(tactic| kernel_rfl) => `(tactic| exact hF.elim)
local macro_rules | `(tactic| kernel_rfl) => `(tactic| (rename_i w0; with_reducible refine Sq.splitRun ?_ (Sq.splitRun ?_ ?_); exact r1 w0; (refine Sq.splitF rfl ?_ ?_; exact r2 w0; exact r3 w0); exact r4 w0))
set_option maxRecDepth 100000 in
set_option maxHeartbeats 0 in
@[reducible] noncomputable def Sq.hd0 : Sq.RunP (False → PySem.Challenge.rw_seriessquares_k85_numbers_set_and_added.Holds) := by
  apply Sq.runP
  intro r1 r2 r3 r4 hF
  w_on; o_law; k_headL; (case hw => w_witness2)
  all_goals exact hF.elim
end
set_option maxHeartbeats 0 in
theorem Sq.run_1 : ∀ w : World, Sq.hd0.1 w := fun w => by kernel_rfl
set_option maxHeartbeats 0 in
theorem Sq.run_2 : ∀ w : World, Sq.hd0.2.1 w := fun w => by kernel_rfl
set_option maxHeartbeats 0 in
theorem Sq.run_3 : ∀ w : World, Sq.hd0.2.2.1 w := fun w => by kernel_rfl
set_option maxHeartbeats 0 in
theorem Sq.run_4 : ∀ w : World, Sq.hd0.2.2.2.1 w := fun w => by kernel_rfl

namespace Sq
open PySem L2
def top (i : Nat) : Stmt := PySem.Challenge.pw_seriessquares_k85_numbers_set_and_added.main.body.getD i (.Pass ⟨0, 0, 0, 0⟩)
abbrev s_stream : Stmt := top 46
abbrev s_draw : Stmt := top 47
abbrev s_lisint : Stmt := top 45
/-- the heap stands but at p -/
def But (p : Addr) (H H' : Hp) : Prop := ∀ b o, H b = some o → b ≠ p → H' b = some o
theorem But.refl (p : Addr) (H : Hp) : But p H H := fun _ _ h _ => h
theorem But.trans {p : Addr} {H H1 H2 : Hp} (a : But p H H1) (b : But p H1 H2) : But p H H2 := fun c o h n => b c o (a c o h n) n
theorem But.upd {p : Addr} {H H1 : Hp} {o : HO} (a : But p H H1) : But p H (upd H1 p o) := fun c u h n => (upd_ne n).trans (a c u h n)
theorem But.new {p q : Addr} {H H1 : Hp} {o : HO} (a : But p H H1) (n : H1 q = none) : But p H (L2.upd H1 q o) := fun c u h nc => (upd_ne (ne_of_none (a c u h nc) n)).trans (a c u h nc)
theorem Same.but {p : Addr} {H H1 : Hp} (a : Same H H1) : But p H H1 := fun c u h _ => a c u h
/-- a stream that was drawn from at most n times -/
def StrAt (H : Hp) (p : Addr) (n : Nat) : Prop := ∃ (i c k : Int) (b : Bool), H p = some (.lst [.int i, .int c, .int k, .bl b]) ∧ 0 ≤ i ∧ (b = false → i < 1000000000000000000) ∧ 0 ≤ c ∧ c ≤ (n : Int) ∧ 0 ≤ k ∧ k ≤ 5
theorem StrAt.le {H : Hp} {p : Addr} {n m : Nat} (h : StrAt H p n) (l : n ≤ m) : StrAt H p m := by
  obtain ⟨i, c, k, b, h1, h2, h3, h4, h5, h6⟩ := h
  exact ⟨i, c, k, b, h1, h2, h3, h4, by omega, h6⟩
theorem StrAt.same {H H' : Hp} {p : Addr} {n : Nat} (S : StrAt H p n) (s : Same H H') : StrAt H' p n := by
  obtain ⟨i, c, k, b, h1, r⟩ := S
  exact ⟨i, c, k, b, s _ _ h1, r⟩
theorem StrAt.ne {H : Hp} {p q : Addr} {n : Nat} (S : StrAt H p n) (hq : H q = none) : q ≠ p := by
  obtain ⟨i, c, k, b, h1, _⟩ := S
  exact (ne_of_none h1 hq).symm
def spDraw : Sp := fun vs H Q _ => ∃ (p : Addr) (n : Int) (m : Nat), vs = [.ref p, .int n] ∧ 0 < n ∧ n < 1073741824 ∧ StrAt H p m ∧ m < 1000 ∧ ∀ v H', 0 ≤ v → v < n → StrAt H' p (m + 1) → But p H H' → Q (.int v) H'
def spStream (K : PySem.W.Frag) : Sp := fun vs H Q _ => ∃ (s : Addr) (ns : List Int) (k : Int), vs = [.ref s, .int k] ∧ SqL K H s (ns.map V.int) ∧ 0 ≤ k ∧ k ≤ 5 ∧ ∀ p H', H p = none → StrAt H' p 0 → Same H H' → Q (.ref p) H'
structure DTx (mg : Str → Option Value) : Prop where
  b_len : mg "len" = none
  b_abs : mg "abs" = none
  b_int : mg "int" = none
  b_range : mg "range" = none
theorem same_new {H H1 : Hp} {q : Addr} {o : HO} (a : Same H H1) (n : H1 q = none) : Same H (L2.upd H1 q o) := fun c u h => (upd_ne (ne_of_none (a c u h) n)).trans (a c u h)
theorem same_at {H H1 : Hp} {q : Addr} {o : HO} (a : Same H H1) (n : H q = none) : Same H (L2.upd H1 q o) := fun c u h => (upd_ne (ne_of_none h n)).trans (a c u h)
theorem take_map (ns : List Int) (k : Nat) : cutV (ns.map V.int) none (some ((k : Nat) : Int)) = (ns.take k).map V.int := by
  unfold cutV
  rw [HT.sIx_none, HT.sIx_nat, List.drop_zero, List.length_map, List.map_take]
  rw [Nat.sub_zero]
  by_cases h : k ≤ ns.length
  · rw [Nat.min_eq_left h]
  · rw [Nat.min_eq_right (by omega), List.take_of_length_le (by simp), List.take_of_length_le (by simp; omega)]
theorem map_get {ns : List Int} {i : Nat} {y : V} (hi : (ns.map V.int)[i]? = some y) : ∃ z, ns[i]? = some z ∧ y = V.int z := by
  rw [List.getElem?_map] at hi
  cases e : ns[i]? with
  | none =>
    rw [e] at hi
    cases hi
  | some z =>
    rw [e] at hi
    exact ⟨z, rfl, (Option.some.inj hi).symm⟩
theorem take_more {α : Type} {l : List α} {i : Nat} {x : α} (h : l[i]? = some x) : l.take (i + 1) = l.take i ++ [x] := by
  rw [List.take_add_one, h]
  rfl
theorem seq_at {K : PySem.W.Frag} {H : Hp} {a b : Addr} {xs : List V} {o : HO} (h : SqL K H a xs) (n : b ≠ a) : SqL K (upd H b o) a xs := by
  rcases h with (h | ⟨o, h⟩) | h
  · exact .inl (.inl ((upd_ne n.symm).trans h))
  · exact .inl (.inr ⟨o, (upd_ne n.symm).trans h⟩)
  · exact .inr h
theorem fmod_lt (x : Int) {y : Int} (h : y ≠ 0) : (x.fmod y).natAbs < y.natAbs := by
  have e := Int.fmod_eq_emod (a := x) (b := y)
  have h1 := Int.emod_nonneg x h
  have h2 := Int.emod_lt x h
  by_cases c : 0 ≤ y ∨ y ∣ x
  · rw [if_pos c] at e
    omega
  · rw [if_neg c] at e
    have h3 : ¬ y ∣ x := fun d => c (.inr d)
    have h4 : x % y ≠ 0 := fun z => h3 (Int.dvd_of_emod_eq_zero z)
    omega
theorem gcd_fmod (x y : Int) : Int.gcd y (x.fmod y) = Int.gcd x y := by
  rw [Int.fmod_def, Int.gcd_sub_mul_left_right, Int.gcd_comm]
/-- is it an int, no bool: for a value whose type is known -/
def isI : V → Bool
  | .int _ => true
  | _ => false
def IsTy (K : PySem.W.Frag) (H : Hp) (x : V) : Prop := ∃ t b1 b2, TyX K H x t ∧ PySem.W.kitOne K t (.type "int") = some b1 ∧ PySem.W.kitOne K t (.type "bool") = some b2 ∧ (b1 && !b2) = isI x
theorem IsTy.int {K : PySem.W.Frag} {H : Hp} (i : Int) : IsTy K H (.int i) := ⟨.type "int", true, false, .base (.int i), kit_ty (by decide +kernel), kit_ty (by decide +kernel), rfl⟩
theorem IsTy.bl {K : PySem.W.Frag} {H : Hp} (i : Bool) : IsTy K H (.bl i) := ⟨.type "bool", true, true, .base (.bl i), kit_ty (by decide +kernel), kit_ty (by decide +kernel), rfl⟩
theorem IsTy.non {K : PySem.W.Frag} {H : Hp} : IsTy K H .non := ⟨.type "NoneType", false, false, .base .non, kit_ty (by decide +kernel), kit_ty (by decide +kernel), rfl⟩
theorem IsTy.str {K : PySem.W.Frag} {H : Hp} (z : Str) : IsTy K H (.str z) := ⟨.type "str", false, false, .base (.str z), kit_ty (by decide +kernel), kit_ty (by decide +kernel), rfl⟩
theorem IsTy.lst {K : PySem.W.Frag} {H : Hp} {a : Addr} {xs : List V} (e : H a = some (.lst xs)) : IsTy K H (.ref a) := ⟨.type "list", false, false, .base (.lst e), kit_ty (by decide +kernel), kit_ty (by decide +kernel), rfl⟩
theorem IsTy.tup {K : PySem.W.Frag} {H : Hp} {a : Addr} {xs : List V} (e : H a = some (.tup xs)) : IsTy K H (.ref a) := ⟨.type "tuple", false, false, .base (.tup e), kit_ty (by decide +kernel), kit_ty (by decide +kernel), rfl⟩
theorem IsTy.dK {K : PySem.W.Frag} {H : Hp} {a : Addr} {xs : List (Key × V)} (e : H a = some (.dK xs)) : IsTy K H (.ref a) := ⟨.type "dict", false, false, .base (.dK e), kit_ty (by decide +kernel), kit_ty (by decide +kernel), rfl⟩
def spIsInt (K : PySem.W.Frag) : Sp := fun vs H Q _ => ∃ x, vs = [x] ∧ IsTy K H x ∧ Q (.bl (isI x)) H
structure ITx (mg : Str → Option Value) : Prop where
  b_isinstance : mg "isinstance" = none
  b_int : mg "int" = none
  b_bool : mg "bool" = none
section
variable {P : Program} {w : World} {K : PySem.W.Frag} {mg : Str → Option Value} {base : Heap}
theorem sc_draw : FnScope ["_law_stream_here", "_law_size", "_law_found", "_law_number"] ["_law_stream_here", "_law_size"] (defScope s_draw) := ⟨rfl, rfl, rfl, by decide +kernel, rfl, by decide +kernel, by decide +kernel⟩
theorem ok_draw {f : Addr} {fd : FuncData} (F : Fun K "_law_draw" "_law_draw" s_draw f fd) (T : DTx mg) : FnOk P w K mg base CX0 1 f fd ["_law_stream_here", "_law_size"] spDraw := by
  refine F.ok sc_draw (fun vs H Q E h => ?_) (fun cdv A outer s H vs Q E hr h => ?_)
  · obtain ⟨p, n, m, rfl, _⟩ := h
    rfl
  · obtain ⟨p, n, m, rfl, hn0, hn1, ⟨i, c, kk, b, hp, i0, i1, c0, c1, k0, k5⟩, lm, k⟩ := h
    refine ⟨_, (pss_cons (ps_if (pt_val (pe_ix ix_list (pv 0) pe_int (fun _ _ => rfl)))
        (pss_cons (ps_set (i := 2) sc_draw.nd rfl (Or.inl rfl) (pe_op op_mod (pe_callTy call_int1 (by rfl) T.b_int (by decide +kernel) (pa_cons (pe_ix ix_list (pv 0) pe_int (fun _ _ => rfl)) pa_nil)) (pv 1)))
      (pss_cons (ps_asg (pe_op op_fdiv (pe_ix ix_list (pv 0) pe_int (fun _ _ => rfl)) (pv 1)) (pg_sub (pv 0) pe_int set_list))
      (pss_one (ps_ret (pv 2)))))
        pss_nil)
      (pss_cons (ps_asg (pe_op op_add (pe_ix ix_list (pv 0) pe_int (fun _ _ => rfl)) pe_int) (pg_sub (pv 0) pe_int set_list))
      (pss_cons (ps_set (i := 3) sc_draw.nd rfl (Or.inl rfl) (pe_op op_mod (pe_callTy call_int1 (by rfl) T.b_int (by decide +kernel) (pa_cons (pe_op op_pow (pe_op op_add (pe_op op_add (pe_op op_add (pe_ix ix_list (pv 0) pe_int (fun _ _ => rfl)) (pe_op op_mul pe_int (pe_ix ix_list (pv 0) pe_int (fun _ _ => rfl)))) (pe_op op_mul pe_int (pe_ix ix_list (pv 0) pe_int (fun _ _ => rfl)))) pe_int) pe_int) pa_nil)) pe_int))
      (pss_cons (ps_set (i := 3) sc_draw.nd rfl (Or.inl rfl) (pe_op op_mod (pe_callTy call_int1 (by rfl) T.b_int (by decide +kernel) (pa_cons (pe_op op_mul (pv 3) (pe_op op_add (pe_op op_fdiv (pv 3) pe_int) pe_int)) pa_nil)) pe_int))
      (pss_cons (ps_set (i := 3) sc_draw.nd rfl (Or.inl rfl) (pe_op op_mod (pe_callTy call_int1 (by rfl) T.b_int (by decide +kernel) (pa_cons (pe_op op_mul (pv 3) (pe_op op_add (pe_op op_fdiv (pv 3) pe_int) pe_int)) pa_nil)) pe_int))
      (pss_one (ps_ret (pe_op op_mod (pe_callTy call_int1 (by rfl) T.b_int (by decide +kernel) (pa_cons (pe_op op_fdiv (pv 3) pe_int) pa_nil)) (pv 1))))))))), ?_⟩
    refine ⟨_, rfl, _, _, _, _, rfl, rfl, SqL.of hp, rfl, _, rfl, ?_⟩
    cases b with
    | true =>
      refine iteT ?_
      refine ⟨_, rfl, _, _, _, _, rfl, rfl, SqL.of hp, rfl, .inl ⟨_, rfl, _, rfl, _, _, rfl, rfl, hn0, ?_⟩⟩
      refine ⟨_, rfl, _, _, _, _, rfl, rfl, SqL.of hp, rfl, _, rfl, _, _, rfl, rfl, ⟨hn0, hn1⟩, _, rfl, _, _, _, _, rfl, rfl, hp, rfl, ?_⟩
      exact ⟨_, rfl, k _ _ (Int.emod_nonneg _ (by omega)) (Int.emod_lt_of_pos _ hn0) ⟨_, c, kk, true, upd_same, Int.ediv_nonneg i0 (by omega), fun z => Bool.noConfusion z, c0, by omega, k0, k5⟩ (But.refl _ _).upd⟩
    | false =>
      refine iteF ?_
      have i2 := i1 rfl
      refine ⟨_, rfl, _, _, _, _, rfl, rfl, SqL.of hp, rfl, _, _, rfl, rfl, _, rfl, _, _, _, _, rfl, rfl, hp, rfl, ?_⟩
      have hp1 : upd H p (.lst [.int i, .int (c + 1), .int kk, .bl false]) p = some (.lst [.int i, .int (c + 1), .int kk, .bl false]) := upd_same
      have st : StrAt (upd H p (.lst [.int i, .int (c + 1), .int kk, .bl false])) p (m + 1) := ⟨i, c + 1, kk, false, hp1, i0, fun _ => i2, by omega, by omega, k0, k5⟩
      have bt : But p H (upd H p (.lst [.int i, .int (c + 1), .int kk, .bl false])) := (But.refl _ _).upd
      refine ⟨_, rfl, _, _, _, _, rfl, rfl, SqL.of hp1, rfl, _, rfl, _, _, _, _, rfl, rfl, SqL.of hp1, rfl, _, _, rfl, rfl, .inl ⟨by decide, by decide⟩, _, _, rfl, rfl, _, rfl, _, _, _, _, rfl, rfl, SqL.of hp1, rfl, _, _, rfl, rfl, .inl ⟨by decide, by decide⟩, _, _, rfl, rfl, _, _, rfl, rfl, _, _, rfl, rfl, ⟨by decide, by decide, ?_⟩, .inl ⟨_, rfl, ?_⟩⟩
      · have : (2 : Nat) ^ 64 = 18446744073709551616 := by decide
        show (i + 7919 * (c + 1) + 15485863 * kk + 1).natAbs < 2 ^ 64
        omega
      generalize (i + 7919 * (c + 1) + 15485863 * kk + 1) ^ Int.toNat 5 = x
      refine ⟨_, _, rfl, rfl, (by show (0 : Int) < 2147483647; decide), ?_⟩
      have a0 : 0 ≤ x % 2147483647 := Int.emod_nonneg _ (by decide)
      have a1 : x % 2147483647 < 2147483647 := Int.emod_lt_of_pos _ (by decide)
      generalize x % 2147483647 = a at *
      refine ⟨_, rfl, _, rfl, _, _, rfl, rfl, ⟨by decide, by decide⟩, _, _, rfl, rfl, _, _, rfl, rfl, ?_⟩
      refine ⟨.inl ⟨by omega, by omega⟩, .inl ⟨_, rfl, _, _, rfl, rfl, (by show (0 : Int) < 2147483629; decide), ?_⟩⟩
      generalize a * (a / 1009 + 69621) = y
      have b0 : 0 ≤ y % 2147483629 := Int.emod_nonneg _ (by decide)
      have b1 : y % 2147483629 < 2147483629 := Int.emod_lt_of_pos _ (by decide)
      generalize y % 2147483629 = b at *
      refine ⟨_, rfl, _, rfl, _, _, rfl, rfl, ⟨by decide, by decide⟩, _, _, rfl, rfl, _, _, rfl, rfl, ?_⟩
      refine ⟨.inl ⟨by omega, by omega⟩, .inl ⟨_, rfl, _, _, rfl, rfl, (by show (0 : Int) < 2147483399; decide), ?_⟩⟩
      generalize b * (b / 2003 + 40692) = z
      have d0 : 0 ≤ z % 2147483399 := Int.emod_nonneg _ (by decide)
      generalize z % 2147483399 = d at *
      refine ⟨_, rfl, _, _, rfl, rfl, ⟨by decide, by decide⟩, .inl ⟨_, rfl, _, rfl, _, _, rfl, rfl, hn0, ?_⟩⟩
      exact k _ _ (Int.emod_nonneg _ (by omega)) (Int.emod_lt_of_pos _ hn0) st bt
theorem sc_stream : FnScope ["_law_script", "_law_k", "_law_item"] ["_law_script", "_law_k"] (defScope s_stream) := ⟨rfl, rfl, rfl, by decide +kernel, rfl, by decide +kernel, by decide +kernel⟩
theorem ok_stream {f : Addr} {fd : FuncData} (F : Fun K "_law_stream" "_law_stream" s_stream f fd) (T : DTx mg) : FnOk P w K mg base CX0 1 f fd ["_law_script", "_law_k"] (spStream K) := by
  refine F.ok sc_stream (fun vs H Q E h => ?_) (fun cdv A outer s H vs Q E hr h => ?_)
  · obtain ⟨p, ns, kk, rfl, _⟩ := h
    rfl
  · obtain ⟨p, ns, kk, rfl, hp, k0, k5, k⟩ := h
    refine ⟨_, (pss_cons (ps_set (i := 2) sc_stream.nd rfl (Or.inl rfl) pe_int)
      (C8.pss_cut (ps_if (pt_cmpR op_lt (pv 1) (pe_callB call_len_seq (by rfl) T.b_len (by decide +kernel) (pa_cons (pv 0) pa_nil)) (nomark _))
        (pss_one (ps_set (i := 2) sc_stream.nd rfl (Or.inl rfl) (pe_callB call_abs (by rfl) T.b_abs (by decide +kernel) (pa_cons (pe_callTy call_int1 (by rfl) T.b_int (by decide +kernel) (pa_cons (pe_ix ix_list (pv 0) (pv 1) (fun _ _ => rfl)) pa_nil)) pa_nil))))
        pss_nil)
      (pss_one (ps_ret (pe_lst (pa_cons (pv 2) (pa_cons pe_int (pa_cons (pv 1) (pa_cons (pe_cmpR op_ge (pv 2) (pe_op op_pow pe_int pe_int) (nomark _)) pa_nil))))))))), ?_⟩
    refine ⟨fun σ H' => H' = H ∧ ∃ i : Int, σ = [some (.ref p), some (.int kk), some (.int i)] ∧ 0 ≤ i, ?_, ?_⟩
    · refine ⟨_, rfl, _, rfl, _, _, rfl, .inl hp, _, _, rfl, rfl, _, rfl, ?_⟩
      refine ite2 (fun c => ?_) (fun c => ⟨rfl, 0, rfl, Int.le_refl _⟩)
      have c2 : kk.toNat < ns.length := by
        have := of_decide_eq_true c
        rw [List.length_map] at this
        omega
      have hz : (ns.map V.int)[kk.toNat]? = some (V.int ns[kk.toNat]) := by
        rw [List.getElem?_map, List.getElem?_eq_getElem c2]
        rfl
      refine ⟨_, rfl, _, rfl, _, _, _, _, rfl, rfl, hp, at_of (j := kk.toNat) (by omega) hz, .inl ⟨_, rfl, _, rfl, ?_⟩⟩
      refine ⟨rfl, _, rfl, ?_⟩
      split <;> omega
    · rintro σ H' ⟨rfl, i, rfl, i0⟩
      refine ⟨_, rfl, _, rfl, _, rfl, _, _, rfl, rfl, ⟨by decide, by decide, by decide⟩, _, _, rfl, rfl, (by show 4 ≤ sizeLine; decide), fun q hq => ?_⟩
      refine k q _ hq ⟨i, 0, kk, _, upd_same, i0, fun z => ?_, by omega, by omega, k0, k5⟩ (same_new (Same.refl _) hq)
      have := of_decide_eq_false z
      have e : (10 : Int) ^ Int.toNat 18 = 1000000000000000000 := by decide
      omega
theorem sc_lisint : FnScope ["_law_value"] ["_law_value"] (defScope s_lisint) := ⟨rfl, rfl, rfl, by decide +kernel, rfl, by decide +kernel, by decide +kernel⟩
theorem ok_lisint {f : Addr} {fd : FuncData} (F : Fun K "_law_is_integer" "_law_is_integer" s_lisint f fd) (T : ITx mg) : FnOk P w K mg base CX0 1 f fd ["_law_value"] (spIsInt K) := by
  refine F.ok sc_lisint (fun vs H Q E h => ?_) (fun cdv A outer s H vs Q E hr h => ?_)
  · obtain ⟨x, rfl, _⟩ := h
    rfl
  · obtain ⟨x, rfl, ⟨t, b1, b2, ht, h1, h2, h3⟩, k⟩ := h
    refine ⟨_, pss_one (ps_ret (pe_and (pe_callB call_isi (by rfl) T.b_isinstance (by decide +kernel) (pa_cons (pv 0) (pa_cons (pe_bltn (v := .ty "int") (by rfl) T.b_int (by decide +kernel) rfl) pa_nil)))
      (pe_one (pe_not (pe_callB call_isi (by rfl) T.b_isinstance (by decide +kernel) (pa_cons (pv 0) (pa_cons (pe_bltn (v := .ty "bool") (by rfl) T.b_bool (by decide +kernel) rfl) pa_nil))))))), ?_⟩
    refine ⟨_, rfl, _, _, _, _, b1, rfl, .ty _, ht, h1, _, rfl, ?_⟩
    cases b1 with
    | false =>
      refine iteF ?_
      rw [← h3] at k
      exact k
    | true =>
      refine iteT ?_
      refine ⟨_, rfl, _, _, _, _, b2, rfl, .ty _, ht, h2, _, rfl, ?_⟩
      rw [← h3] at k
      exact k
end
end Sq
namespace Sq
open PySem L2 PyProof.Rows
abbrev s_noRatioInit : Stmt := inClass (top 4) 0
abbrev s_isint : Stmt := top 11
abbrev s_ratioInit : Stmt := inClass (top 19) 0
/-- // by any number but 0 whose size is below 2 ^ 9000 -/
def CDivZ (_ j : Int) : Prop := j ≠ 0 ∧ j.natAbs < 2 ^ 8000
theorem op_fdivZ {X : Cx} : OpR X (binaryOp .FloorDiv) (rI CDivZ fun i j => .int (i.fdiv j)) := opI fun i j _ _ _ _ _ hc q =>
  floordiv_int hc.1 q (.inl (PyProof.noPylong_of_log2 (Nat.lt_of_lt_of_le (PySem.Flt.log2_lt_of (by decide) hc.2) (by decide))))
/-! ### the fraction in lowest terms -/
structure Low (a b t u : Int) : Prop where
  pos : 1 ≤ u
  cop : Int.gcd t u = 1
  val : t * b = a * u
  lt : t.natAbs ≤ a.natAbs
  lu : u.natAbs ≤ b.natAbs
theorem low_of {a b c : Int} (hb : b ≠ 0) (hc : c = (Int.gcd a b : Int) ∧ 0 < b ∨ c = -(Int.gcd a b : Int) ∧ b < 0) : Low a b (a.fdiv c) (b.fdiv c) := by
  have hg : 0 < Int.gcd a b := Int.gcd_pos_of_ne_zero_right a hb
  have da : c ∣ a := by
    rcases hc with ⟨rfl, _⟩ | ⟨rfl, _⟩
    · exact Int.gcd_dvd_left ..
    · exact Int.neg_dvd.mpr (Int.gcd_dvd_left ..)
  have db : c ∣ b := by
    rcases hc with ⟨rfl, _⟩ | ⟨rfl, _⟩
    · exact Int.gcd_dvd_right ..
    · exact Int.neg_dvd.mpr (Int.gcd_dvd_right ..)
  have c0 : c ≠ 0 := by omega
  obtain ⟨t, ht⟩ := da
  obtain ⟨u, hu⟩ := db
  have et : a.fdiv c = t := by rw [ht]; exact Int.mul_fdiv_cancel_left _ c0
  have eu : b.fdiv c = u := by rw [hu]; exact Int.mul_fdiv_cancel_left _ c0
  rw [et, eu]
  have cn : c.natAbs = Int.gcd a b := by omega
  have c1 : 1 ≤ c.natAbs := by omega
  have gcu : Int.gcd a b = c.natAbs * Int.gcd t u := by
    rw [ht, hu, Int.gcd_mul_left]
  refine ⟨?_, ?_, ?_, ?_, ?_⟩
  · have : 0 < u := by
      rcases hc with ⟨h1, h2⟩ | ⟨h1, h2⟩
      · refine Int.pos_of_mul_pos_right (a := c) ?_ (by omega)
        rw [← hu]
        exact h2
      · refine Int.pos_of_mul_pos_right (a := -c) ?_ (by omega)
        rw [Int.neg_mul, ← hu]
        omega
    omega
  · rw [cn] at gcu
    exact (Nat.eq_of_mul_eq_mul_left hg (by rw [Nat.mul_one]; exact gcu)).symm
  · rw [ht, hu, Int.mul_assoc, Int.mul_left_comm]
  · rw [ht, Int.natAbs_mul]
    exact Nat.le_mul_of_pos_left _ c1
  · rw [hu, Int.natAbs_mul]
    exact Nat.le_mul_of_pos_left _ c1
/-! ### the objects -/
def rfl_ (t u : Int) : List (Str × V) := putF "bottom" (.int u) (putF "top" (.int t) [])
theorem tb : ¬ (("top" : Str) = "bottom") := by decide +kernel
theorem rf_top (t u : Int) : (rfl_ t u).lookup ("top" : Str) = some (.int t) := by
  unfold rfl_
  rw [lookup_putF, if_neg tb, lookup_putF, if_pos rfl]
theorem rf_bottom (t u : Int) : (rfl_ t u).lookup ("bottom" : Str) = some (.int u) := by
  unfold rfl_
  rw [lookup_putF, if_pos rfl]
theorem rf_no (t u : Int) {m : Str} (h1 : ¬ m = "bottom") (h2 : ¬ m = "top") : (rfl_ t u).lookup m = none := by
  unfold rfl_
  rw [lookup_putF, if_neg h1, lookup_putF, if_neg h2]
  rfl
def RatAt (C : Addr) (H : Hp) (x : Addr) (t u : Int) : Prop := ∃ dx, H x = some (.ins C dx (rfl_ t u))
/-- what a NoRatio carries -/
def wordAt (z : Str) : HO := .xd [(("word" : Str), .str z)]
/-- the word that is due, if any -/
def dueW (u v : V) : Option Str := if isI u then (if isI v then (if v = .int 0 then some "zero" else none) else some "bottom") else some "top"
def spRatioInit (K : PySem.W.Frag) (C CN : Addr) : Sp := fun vs H Q E => ∃ (x dx : Addr) (u v : V), vs = [.ref x, u, v] ∧ H x = some (.ins C dx []) ∧ IsTy K H u ∧ IsTy K H v ∧ (∀ b, v = .int b → b.natAbs < 2 ^ 8000) ∧
  (∀ z, dueW u v = some z → ∀ d, H d = none → E (.ref CN) (some d) (upd H d (wordAt z))) ∧
  (∀ a b, u = .int a → v = .int b → b ≠ 0 → ∀ t w H', Low a b t w → RatAt C H' x t w → But x H H' → Q .non H')
def spWordInit (CN : Addr) : Sp := fun vs H Q _ => ∃ (a : Addr) (y : V), vs = [.ref a, y] ∧ H a = some (exo a CN none) ∧ ∀ dx, H dx = none → dx ≠ a → Q .non (upd (upd H dx (exd dx [(("word" : Str), y)])) a (exo a CN (some dx)))
/-- the class of an error with the field word -/
structure NTx (K : PySem.W.Frag) (mg : Str → Option Value) (CN fN : Addr) : Prop where
  oex : OexC K CN
  nw : PySem.W.findIn K (.ref CN) "word" = some none
  iC : PySem.W.findIn K (.ref CN) "__init__" = some (some (.ref fN))
  tI : PySem.W.typeIn K (.ref fN) = some (.type "function")
structure CTx (K : PySem.W.Frag) (C : Addr) : Prop where
  cl : Cls K C
  nT : NoAttr K C "top"
  nB : NoAttr K C "bottom"
section
variable {P : Program} {w : World} {K : PySem.W.Frag} {mg : Str → Option Value} {base : Heap}
theorem sc_noRatioInit : FnScope ["self", "word"] ["self", "word"] (defScope s_noRatioInit) := ⟨rfl, rfl, rfl, by decide +kernel, rfl, by decide +kernel, by decide +kernel⟩
theorem ok_noRatioInit {f CN fN : Addr} {fd : FuncData} (F : Fun K "__init__" "NoRatio.__init__" s_noRatioInit f fd) (T : NTx K mg CN fN) : FnOk P w K mg base CX0 1 f fd ["self", "word"] (spWordInit CN) := by
  refine F.ok sc_noRatioInit (fun vs H Q E h => ?_) (fun cdv A outer s H vs Q E hr h => ?_)
  · obtain ⟨x, y, rfl, _⟩ := h
    rfl
  · obtain ⟨a, y, rfl, ha, k⟩ := h
    refine ⟨_, pss_one (ps_ost (pv 0) (pv 1)), ?_⟩
    exact ⟨_, rfl, _, rfl, a, CN, rfl, T.oex, T.nw, .inl ⟨ha, fun dx h1 h2 => k dx h1 h2⟩⟩
theorem sc_isint : FnScope ["value"] ["value"] (defScope s_isint) := ⟨rfl, rfl, rfl, by decide +kernel, rfl, by decide +kernel, by decide +kernel⟩
theorem ok_isint {f : Addr} {fd : FuncData} (F : Fun K "is_an_integer" "is_an_integer" s_isint f fd) (T : ITx mg) : FnOk P w K mg base CX0 1 f fd ["value"] (spIsInt K) := by
  refine F.ok sc_isint (fun vs H Q E h => ?_) (fun cdv A outer s H vs Q E hr h => ?_)
  · obtain ⟨x, rfl, _⟩ := h
    rfl
  · obtain ⟨x, rfl, ⟨t, b1, b2, ht, h1, h2, h3⟩, k⟩ := h
    refine ⟨_, pss_one (ps_ret (pe_and (pe_callB call_isi (by rfl) T.b_isinstance (by decide +kernel) (pa_cons (pv 0) (pa_cons (pe_bltn (v := .ty "int") (by rfl) T.b_int (by decide +kernel) rfl) pa_nil)))
      (pe_one (pe_not (pe_callB call_isi (by rfl) T.b_isinstance (by decide +kernel) (pa_cons (pv 0) (pa_cons (pe_bltn (v := .ty "bool") (by rfl) T.b_bool (by decide +kernel) rfl) pa_nil))))))), ?_⟩
    refine ⟨_, rfl, _, _, _, _, b1, rfl, .ty _, ht, h1, _, rfl, ?_⟩
    cases b1 with
    | false =>
      refine iteF ?_
      rw [← h3] at k
      exact k
    | true =>
      refine iteT ?_
      refine ⟨_, rfl, _, _, _, _, b2, rfl, .ty _, ht, h2, _, rfl, ?_⟩
      rw [← h3] at k
      exact k
end
end Sq
namespace Sq
open PySem L2 PyProof.Rows
theorem xd_eq {H : Hp} {a d CN : Addr} {y : V} (ha : H a = none) (n : d ≠ a) : upd (L2.del (upd (upd (upd H a (exo a CN none)) d (exd d [(("word" : Str), y)])) a (exo a CN (some d))) a) d (.xd [(("word" : Str), y)]) = upd H d (.xd [(("word" : Str), y)]) := by
  funext b
  by_cases h1 : b = d
  · subst h1
    rw [upd_same, upd_same]
  · rw [upd_ne h1, upd_ne h1]
    by_cases h2 : b = a
    · subst h2
      rw [del_same, ha]
    · rw [del_ne h2, upd_ne h2, upd_ne h1, upd_ne h2]
theorem mkO_read {CN : Addr} {z : Str} {H : Hp} {E : XK} (h : ∀ d, H d = none → E (.ref CN) (some d) (upd H d (wordAt z))) : ∀ a, H a = none → spWordInit CN (.ref a :: ([.str z] ++ [])) (upd H a (exo a CN none))
    (fun v H2 => v = .non ∧ ∃ (d : Addr) (fs : List (Str × V)), H2 a = some (exo a CN (some d)) ∧ H2 d = some (exd d fs) ∧ H d = none ∧ E (.ref CN) (some d) (upd (L2.del H2 a) d (.xd fs))) (fun _ _ _ => False) := fun a ha => by
  refine ⟨a, _, rfl, upd_same, fun dx h1 h2 => ⟨rfl, dx, [(("word" : Str), V.str z)], upd_same, ?_, ?_, ?_⟩⟩
  · exact (upd_ne h2).trans upd_same
  · rw [upd_ne h2] at h1
    exact h1
  · rw [upd_ne h2] at h1
    rw [xd_eq ha h2]
    exact h dx h1
theorem isI_int : ∀ {u : V}, isI u = true → ∃ a, u = .int a
  | .int i, _ => ⟨i, rfl⟩
  | .non, h => by cases h
  | .bl _, h => by cases h
  | .str _, h => by cases h
  | .byt _, h => by cases h
  | .flt _, h => by cases h
  | .ref _, h => by cases h
  | .ty _, h => by cases h
structure GTx (mg : Str → Option Value) (CN : Addr) : Prop where
  g_gcd : mg "gcd" = some (.builtin "math.gcd")
  m_NoRatio : mg "NoRatio" = some (.ref CN)
section
variable {P : Program} {w : World} {K : PySem.W.Frag} {mg : Str → Option Value} {base : Heap}
theorem sc_ratioInit : FnScope ["self", "top", "bottom", "common"] ["self", "top", "bottom"] (defScope s_ratioInit) := ⟨rfl, rfl, rfl, by decide +kernel, rfl, by decide +kernel, by decide +kernel⟩
theorem ok_ratioInit {f C CN fN fI : Addr} {fd fdN fdI : FuncData} (F : FunD K "__init__" "Ratio.__init__" (defArgs s_ratioInit) (defBody s_ratioInit) (defScope s_ratioInit) [.int 1] [] f fd) (T : CTx K C) (N : NTx K mg CN fN) (G : GTx mg CN)
    (G_N : FnOk P w K mg base CX0 1 fN fdN ["self", "word"] (spWordInit CN)) (b_N : Binds K fdN ["self", "word"] [])
    (G_I : FnOk P w K mg base CX0 1 fI fdI ["value"] (spIsInt K)) (m_I : mg "is_an_integer" = some (.ref fI)) (k_I : PySem.W.keepIn K (.ref fI) = true) (b_I : Binds K fdI ["value"] []) :
    FnOk P w K mg base (L2.CX P w) 3 f fd ["self", "top", "bottom"] (spRatioInit K C CN) := by
  refine F.ok sc_ratioInit (fun vs H Q E h => ?_) (fun cdv A outer s H vs Q E hr h => ?_)
  · obtain ⟨x, dx, u, v, rfl, _⟩ := h
    rfl
  · obtain ⟨x, dx, u, v, rfl, hx, tu, tv, hs, kE, kQ⟩ := h
    have hr1 : Room 1 _ := hr.mono (by decide)
    have raise := fun (z : Str) => (mkO_read (CN := CN) (z := z) (H := H) (E := E))
    refine ⟨_, (pss_cons (ps_if (pt_not (pt_val (pe_call G_I hr1 rfl m_I k_I b_I .nil pass0 (pa_cons (pv 1) pa_nil)))) (pss_one (ps_raise rfl (takes_of rfl rfl rfl rfl) (pmk_oex N.oex N.iC N.tI G_N hr b_N .nil pass0 rfl G.m_NoRatio (pa_cons pe_str pa_nil)))) pss_nil)
      (pss_cons (ps_if (pt_not (pt_val (pe_call G_I hr1 rfl m_I k_I b_I .nil pass0 (pa_cons (pv 2) pa_nil)))) (pss_one (ps_raise rfl (takes_of rfl rfl rfl rfl) (pmk_oex N.oex N.iC N.tI G_N hr b_N .nil pass0 rfl G.m_NoRatio (pa_cons pe_str pa_nil)))) pss_nil)
      (pss_cons (ps_if (pt_cmpR op_eq (pv 2) pe_int (nomark _)) (pss_one (ps_raise rfl (takes_of rfl rfl rfl rfl) (pmk_oex N.oex N.iC N.tI G_N hr b_N .nil pass0 rfl G.m_NoRatio (pa_cons pe_str pa_nil)))) pss_nil)
      (pss_cons (ps_set (i := 3) sc_ratioInit.nd rfl (Or.inl rfl) (pe_callBfun cr_gcd rfl G.g_gcd (pa_cons (pv 1) (pa_cons (pv 2) pa_nil))))
      (C8.pss_cut (ps_if (pt_cmpR op_lt (pv 2) pe_int (nomark _)) (pss_one (ps_set (i := 3) sc_ratioInit.nd rfl (Or.inl rfl) (pe_un un_neg (pv 3)))) pss_nil)
      (pss_cons (ps_fld (pv 0) (pe_op op_fdivZ (pv 1) (pv 3)) rfl)
      (pss_one (ps_fld (pv 0) (pe_op op_fdivZ (pv 2) (pv 3)) rfl)))))))), ?_⟩
    refine ⟨_, rfl, u, rfl, tu, _, rfl, ?_⟩
    cases eu : isI u with
    | false =>
      refine iteT ⟨by decide, raise "top" ?_⟩
      exact kE "top" (by unfold dueW; rw [eu]; rfl)
    | true =>
      refine iteF ⟨_, rfl, v, rfl, tv, _, rfl, ?_⟩
      cases ev : isI v with
      | false =>
        refine iteT ⟨by decide, raise "bottom" ?_⟩
        exact kE "bottom" (by unfold dueW; rw [eu, ev]; rfl)
      | true =>
        obtain ⟨a, rfl⟩ : ∃ a, u = .int a := by
          exact isI_int eu
        obtain ⟨b, rfl⟩ : ∃ b, v = .int b := by
          exact isI_int ev
        refine iteF ⟨_, rfl, rfl, _, rfl, ?_⟩
        refine ite2 (fun c => ?_) (fun c => ?_)
        · refine ⟨by decide, raise "zero" ?_⟩
          have e : b = 0 := by simpa using c
          subst e
          exact kE "zero" rfl
        · have hb : b ≠ 0 := fun e => c (by simp [e])
          refine ⟨_, rfl, _, rfl, a, b, rfl, ?_⟩
          refine ⟨fun σ H' => H' = H ∧ ∃ c : Int, σ = [some (.ref x), some (.int a), some (.int b), some (.int c)] ∧ (c = (Int.gcd a b : Int) ∧ 0 < b ∨ c = -(Int.gcd a b : Int) ∧ b < 0), ?_, ?_⟩
          · refine ⟨_, rfl, _, _, rfl, rfl, _, rfl, ?_⟩
            refine ite2 (fun c1 => ?_) (fun c1 => ?_)
            · refine ⟨_, rfl, _, rfl, rfl, _, rfl, .inr ⟨rfl, of_decide_eq_true c1⟩⟩
            · have c2 : ¬ b < 0 := fun e => c1 (decide_eq_true e)
              exact ⟨rfl, _, rfl, .inl ⟨rfl, by omega⟩⟩
          · rintro σ H' ⟨rfl, g, rfl, hg⟩
            have L := low_of hb hg
            have hgb : Int.gcd a b ≤ b.natAbs := Nat.le_of_dvd (by omega) (Int.gcd_dvd_natAbs_right ..)
            have hgp : 0 < Int.gcd a b := Int.gcd_pos_of_ne_zero_right a hb
            have cz : CDivZ a g := ⟨by omega, by have := hs b rfl; omega⟩
            refine ⟨_, rfl, _, rfl, _, _, rfl, rfl, cz, _, rfl, x, C, dx, [], rfl, hx, T.cl, T.nT, (by show 0 < 1000; decide), ?_⟩
            refine ⟨_, rfl, _, rfl, _, _, rfl, rfl, cz, _, rfl, x, C, dx, _, rfl, upd_same, T.cl, T.nB, (by show 1 < 1000; decide), ?_⟩
            exact kQ a b rfl rfl hb _ _ _ L ⟨dx, upd_same⟩ (But.refl x _).upd.upd
end
end Sq

namespace Sq
open PySem L2 PyProof.Rows
/-- C(..) in a try's body: what leaves is wished for at the slots -/
def tMkS (C : Addr) (sp : Sp) (dvs : List V) (W : L2.St → XK) (t : TA) : TE := fun σ H Q => t σ H fun vs H1 => ∀ y dy, H1 y = none → H1 dy = none → dy ≠ y →
  sp (.ref y :: (vs ++ dvs)) (upd (upd H1 dy (.own y)) y (.ins C dy [])) (fun v H2 => v = .non ∧ Q (.ref y) H2) (W σ)
theorem pe_mkS {X : Cx} {CX : CXT} {k : Nat} {f C : Addr} {fd : FuncData} {ps : List Str} {sp : Sp} {dvs : List V} {ds : List Value} {W : L2.St → XK} {x : Str} {p pos : Pos} {e : Expr} {es : List Expr} {t : TA}
    (M : Mk X.K C f) (G : FnOk X.prog X.w X.K X.mg X.base CX k f fd ps sp) (room : Room (k + 1) X.A) (gl : Gl X x) (mx : X.mg x = some (.ref C)) (bi : Binds X.K fd ps ds) (dv : Vals dvs ds) (ok : ∀ σ, PassesAt CX X σ (W σ))
    (ha : PA X (e :: es) t) (nd : (x == ("__debug__" : Str)) = false := by decide) (st : starEach (e :: es) X.env = (false, eval e X.env) :: starEach es X.env := by rfl)
    (pl : (backTo pos (starEach es X.env)).any (·.1) = false := by rfl) : PE X (.Call (.Name x p) (e :: es) [] pos) (tMkS C sp dvs W t) := by
  refine ⟨fun pins s σ H Q I h => wpAny_Call_Name_kw (ld_glob I gl mx (PySem.W.callWith_K (h₀ := X.base) I.ok.mod.kin M.kp (thn (ha.run pos pins s σ H _ I h) fun us s1 hh => ?_) st pl) nd)⟩
  obtain ⟨vs, H1, I1, r, q⟩ := hh
  refine ⟨I1.kIn, ?_⟩
  have n1 : H1 (s1.heap.objs.size + 1) = none := I1.hok.fresh (Nat.le_succ _)
  have n0 : H1 s1.heap.objs.size = none := I1.hok.fresh (Nat.le_refl _)
  have want := q _ _ n1 n0 (Nat.ne_of_lt (Nat.lt_succ_self _))
  have J := Inv.made (C := C) I1
  have rr : Vals (V.ref (s1.heap.objs.size + 1) :: (vs ++ dvs)) (Value.ref (s1.heap.objs.size + 1) :: (us ++ ds)) := Paired.cons rfl (Vals.append r dv)
  have lens : (Value.ref (s1.heap.objs.size + 1) :: us ++ ds).length = ps.length := (rr.length.symm.trans (G.len _ _ _ _ want))
  have run := G.run _ X.stack _ _ ⟨Value.ref (s1.heap.objs.size + 1) :: us, []⟩ (Value.ref (s1.heap.objs.size + 1) :: (us ++ ds)) _ _ (W σ) (room.make C us []) (J.env0.make C us []) (bi _ (Value.ref (s1.heap.objs.size + 1) :: us) J.kIn lens) rr want
  refine wpAny_call (make_map (f := f) I1.kIn M.makes M.init (beq_iff_eq.mp M.fn) (codeAny_mono run fun res s2 out => ?_))
  cases res with
  | error er => exact ok σ pins _ _ er s2 J out
  | ok flow =>
    cases flow with
    | ret val =>
      obtain ⟨v, H3, J3, rv, ev, z⟩ := J.after out
      cases ev
      exact ⟨rv, V.ref (s1.heap.objs.size + 1), H3, J3, rfl, z⟩
    | next => cases out
    | brk => cases out
    | cont => cases out
/-- isinstance(e, c), e the caught error with its own dict -/
structure EIx (K : PySem.W.Frag) (D : Addr) : Prop where
  hcl : (PySem.W.clsIn K D).isSome = true
  hga : PySem.W.findIn K (.ref D) "__getattribute__" = some (some (.builtin "BaseException.__getattribute__"))
  hgt : PySem.W.findIn K (.ref D) "__getattr__" = some none
  hsub : PySem.W.subIn K (.ref D) (.type "BaseException") = some true
  ha : PySem.W.findIn K (.ref D) "__class__" = some (some (.builtin "object.__class__"))
  hn : PySem.W.specialIn K (.builtin "object.__class__") "__get__" = some (some (.builtin "getset_descriptor.__get__"))
  htk : PySem.W.takesIn K (.builtin "object.__class__") = some true
  hm : PySem.W.mroIn K D (.type "object") = some true
def rIsX (K : PySem.W.Frag) (D a : Addr) (cls : Value) (d : Option Addr) : List V → Hp → VK → Prop := fun xs H Q => ∃ (c : V) (cv : Value) (b : Bool) (dd : Addr) (fs : List (Str × V)), xs = [.ref a, c] ∧ ClsV c cv ∧ PySem.W.kitOne K (.ref D) cv = some b ∧
  cls = .ref D ∧ d = some dd ∧ H dd = some (.xd fs) ∧ Q (.bl b) H
theorem call_isX {X : Cx} {a D : Addr} {oe : Obj} {cls : Value} {d : Option Addr} {pn : List (Addr × Obj)} (C : EIx X.K D) (hz : Zc cls d oe) (hf : ∃ vs, oe.data = .fields vs) : CallR (X.suite a ((a, oe) :: pn)) (.builtin "isinstance") (rIsX X.K D a cls d) := by
  intro pins s σ H xs us Q I r h
  obtain ⟨c, cv, b, dd, fs, rfl, hcv, e, ec, ed, hd, q⟩ := h
  obtain ⟨x1, x2, e1, r1, r2⟩ : ∃ x1 x2, us = [x1, x2] ∧ RelV (.ref a) x1 ∧ RelV c x2 := by
    cases r with
    | cons rx rr =>
      cases rr with
      | cons rt rn =>
        cases rn
        exact ⟨_, _, rfl, rx, rt⟩
  subst e1
  have e1 : x1 = Value.ref a := r1
  subst e1
  have e2 := hcv.eq r2
  subst e2
  obtain ⟨hget, _⟩ := I.pin (a, oe) (List.mem_append.mpr (.inl List.mem_cons_self))
  obtain ⟨vs, hv⟩ := hf
  obtain ⟨mA, hns, _⟩ := (show ObjOk X.prog X.w H s.heap dd (.xd fs) from I.hok dd _ hd)
  obtain ⟨od, ho, _⟩ := lookIn_ns hns
  have J : PySem.W.InstAt s.heap a oe D (some od) := ⟨hget, hz.1.trans ec, by unfold PySem.W.notCls; rw [hv], by rw [hz.2, ed]; exact ho⟩
  exact PySem.W.kia_one (PySem.W.kitx_exc C.hcl C.hga C.hgt C.hsub C.ha C.hn C.htk C.hm) I.kIn J e (fun z => nomatch z) fun tk => ⟨.bl b, H, I.kept (t' := tk) fun _ _ z => z, rfl, q⟩
structure ITy (K : PySem.W.Frag) (C : Addr) : Prop where
  ha : PySem.W.findIn K (.ref C) "__class__" = some (some (.builtin "object.__class__"))
  hn : PySem.W.specialIn K (.builtin "object.__class__") "__get__" = some (some (.builtin "getset_descriptor.__get__"))
  htk : PySem.W.takesIn K (.builtin "object.__class__") = some true
  hm : PySem.W.mroIn K C (.type "object") = some true
  kI : PySem.W.kitOne K (.ref C) (.type "int") = some false
  kB : PySem.W.kitOne K (.ref C) (.type "bool") = some false
theorem kit_self {K : PySem.W.Frag} {C : Addr} : PySem.W.kitOne K (.ref C) (.ref C) = some true := by
  unfold PySem.W.kitOne
  rw [if_pos (by simp)]
theorem RatAt.ty {K : PySem.W.Frag} {C : Addr} {H : Hp} {x : Addr} {t u : Int} (T : CTx K C) (Y : ITy K C) (h : RatAt C H x t u) : TyX K H (.ref x) (.ref C) := by
  obtain ⟨dx, h⟩ := h
  exact .base (.ins h T.cl Y.ha Y.hn Y.htk Y.hm)
theorem RatAt.isTy {K : PySem.W.Frag} {C : Addr} {H : Hp} {x : Addr} {t u : Int} (T : CTx K C) (Y : ITy K C) (h : RatAt C H x t u) : IsTy K H (.ref x) := ⟨_, _, _, h.ty T Y, Y.kI, Y.kB, rfl⟩
theorem mul_ok {a b : Int} (ha : a.natAbs < 2 ^ 4000) (hb : b.natAbs < 2 ^ 4000) : CMulW a b := wide_mul ha hb (by decide) (by decide) (by decide)
theorem IsTy.same {K : PySem.W.Frag} {H H' : Hp} {x : V} (s : Same H H') (h : IsTy K H x) : IsTy K H' x := by
  obtain ⟨t, b1, b2, ty, h1, h2, h3⟩ := h
  refine ⟨t, b1, b2, ?_, h1, h2, h3⟩
  cases ty with
  | base b =>
    refine .base ?_
    cases b with
    | non => exact .non
    | bl => exact .bl _
    | int => exact .int _
    | str => exact .str _
    | flt => exact .flt _
    | lst e => exact .lst (s _ _ e)
    | frz e => exact .frz (s _ _ e)
    | tup e => exact .tup (s _ _ e)
    | dK e => exact .dK (s _ _ e)
    | dT e => exact .dT (s _ _ e)
    | ins e c1 c2 c3 c4 c5 => exact .ins (s _ _ e) c1 c2 c3 c4 c5
  | byt => exact .byt _
  | set e => exact .set (s _ _ e)
  | kList e c => exact .kList e c
  | kTuple e c => exact .kTuple e c
  | kDict e c => exact .kDict e c
  | fTuple e => exact .fTuple (s _ _ e)
  | fDict e => exact .fDict (s _ _ e)
theorem same_made {H H1 : Hp} {x dx C : Addr} (nx : H x = none) (nd : H dx = none) (k : But x (upd (upd H dx (.own x)) x (.ins C dx [])) H1) : Same H H1 := fun b o e =>
  k b o (by rw [upd_ne (ne_of_none e nx), upd_ne (ne_of_none e nd)]; exact e) (ne_of_none e nx)
theorem same_pair {H : Hp} {x dx C : Addr} (nx : H x = none) (nd : H dx = none) (ne : dx ≠ x) : Same H (upd (upd H dx (.own x)) x (.ins C dx [])) := same_new (same_new (Same.refl H) nd) ((upd_ne ne.symm).trans nx)
theorem due_none {a b : Int} (hb : b ≠ 0) : dueW (.int a) (.int b) = none := by
  unfold dueW
  have : ¬ (V.int b = V.int 0) := fun e => hb (V.int.inj e)
  simp [isI, this]
theorem due_top {u v : V} (h : isI u = false) : dueW u v = some ("top" : Str) := by
  unfold dueW
  simp [h]
theorem due_bottom {a : Int} {v : V} (h : isI v = false) : dueW (.int a) v = some ("bottom" : Str) := by
  unfold dueW
  rw [if_pos (show isI (.int a) = true from rfl), h, if_neg Bool.false_ne_true]
theorem mk_go {K : PySem.W.Frag} {C CN x dx : Addr} {H : Hp} {a b : Int} {Q : VK} {E : XK} (hb : b ≠ 0) (sb : b.natAbs < 2 ^ 8000) (nx : H x = none) (ndx : H dx = none) (_ne : dx ≠ x) (k : ∀ t u H', Low a b t u → RatAt C H' x t u → Same H H' → Q .non H') :
    spRatioInit K C CN [.ref x, .int a, .int b] (upd (upd H dx (.own x)) x (.ins C dx [])) Q E :=
  ⟨x, dx, _, _, rfl, upd_same, .int _, .int _, fun b' e => (by cases e; exact sb), fun z hz => (by rw [due_none hb] at hz; cases hz), fun a' b' ea eb _ t w H' L R Bt => by
    cases ea
    cases eb
    exact k t w H' L R (same_made nx ndx Bt)⟩
def spLaw (K : PySem.W.Frag) : Sp := fun vs H Q _ => ∃ (a : Addr) (ns : List Int), vs = [.ref a] ∧ SqL K H a (ns.map V.int) ∧ ns.length ≤ 63 ∧ ∀ H', Q (.bl true) H'
end Sq

namespace Sq
open PySem L2 PyProof.Rows
/-- o.m(..) in a try's body: what leaves is wished for at the slots -/
def tMtS (C : Addr) (m : Str) (sp : Sp) (W : L2.St → XK) (to : TE) (t : TA) : TE := fun σ H Q => to σ H fun x H1 => ∃ a dy fs, x = .ref a ∧ H1 a = some (.ins C dy fs) ∧ fs.lookup m = none ∧ t σ H1 fun vs H2 => sp (x :: vs) H2 Q (W σ)
theorem pe_mtS {X : Cx} {CX : CXT} {k : Nat} {f C : Addr} {fd : FuncData} {ps : List Str} {sp : Sp} {W : L2.St → XK} {m : Str} {apos pos : Pos} {o e : Expr} {es : List Expr} {to : TE} {t : TA} {pl : Sem Bool}
    (ho : PE X o to) (cl : Cls X.K C) (me : Meth X.K C m f) (G : FnOk X.prog X.w X.K X.mg X.base CX k f fd ps sp) (room : Room k X.A) (bi : Binds X.K fd ps []) (ok : ∀ σ, PassesAt CX X σ (W σ)) (ha : PA X (e :: es) t)
    (st : starEach (e :: es) X.env = (false, eval e X.env) :: starEach es X.env := by rfl) (np : (backTo pos (starEach es X.env)).any (·.1) = false := by rfl)
    (ev : eval (.Call (.Attribute o m apos) (e :: es) [] pos) X.env = (do let ov ← eval o X.env; standAt apos.atName; let (f, first) ← holding [ov] (getMethod ov m pl); callWith pos f first (backTo pos (starEach (e :: es) X.env)) (backToKw pos (keywordEach [] X.env))) := by rfl) :
    PE X (.Call (.Attribute o m apos) (e :: es) [] pos) (tMtS C m sp W to t) := by
  refine ⟨fun pins s σ H Q I h => PySem.W.methodCall_KW (pl := pl) (thn (ho.run pins s σ H _ I h) fun u s1 hh => ?_) ev⟩
  obtain ⟨x, H1, I1, rx, a, dy, fs, ex, ea, l, q⟩ := hh
  cases ex
  cases rx
  refine getmeth_ok I1 ea cl me l (PySem.W.callWith_K (first := [.ref a]) (h₀ := X.base) I.ok.mod.kin me.kp (thn (ha.run pos pins s1 σ H1 _ I1 q) fun us s2 h2 => ?_) st np)
  obtain ⟨vs, H2, I2, r, q2⟩ := h2
  exact ⟨I2.kIn, run_fnS (us := .ref a :: us) (vs := .ref a :: vs) G room bi (ok σ) I2 (.cons rfl r) q2⟩
/-! ### sizes by powers of two -/
def B (n : Nat) (x : Int) : Prop := x.natAbs < 2 ^ n
theorem B_le {n m : Nat} {x : Int} (h : B n x) (hn : n ≤ m) : B m x := Nat.lt_of_lt_of_le h (Nat.pow_le_pow_right (by decide) hn)
theorem B_mul {n m : Nat} {x y : Int} (h : B n x) (h' : B m y) : B (n + m) (x * y) := wide_lt h h'
theorem B_add {n m : Nat} {x y : Int} (h : B n x) (h' : B m y) : B (max n m + 1) (x + y) := by
  have a := B_le h (Nat.le_max_left n m)
  have b := B_le h' (Nat.le_max_right n m)
  unfold B at *
  rw [Nat.pow_succ]
  omega
theorem B_neg {n : Nat} {x : Int} (h : B n x) : B n (-x) := by
  unfold B at *
  omega
theorem B_sub {n m : Nat} {x y : Int} (h : B n x) (h' : B m y) : B (max n m + 1) (x - y) := by
  have := B_add h (B_neg h')
  rw [← Int.sub_eq_add_neg] at this
  exact this
theorem B_abs {n : Nat} {x y : Int} (h : B n x) (hy : y.natAbs ≤ x.natAbs) : B n y := Nat.lt_of_le_of_lt hy h
theorem mulB {n m : Nat} {x y : Int} (h : B n x) (h' : B m y) (hs : n + m + 2 ≤ 1000000) : CMulW x y := wide_mul (B_le h (Nat.le_succ n)) (B_le h' (Nat.le_succ m)) (Nat.succ_pos _) (Nat.succ_pos _) (by omega)
end Sq

namespace Sq
open PySem L2 PyProof.Rows
theorem cmpBack_of {X : Cx} {pins : List (Addr × Obj)} {σ : L2.St} {Q : VK} {u : Value} {s' : Shared} (h : EP X pins σ Q u s') : PySem.W.CmpBack (EP X pins σ Q) u s' := by
  cases u with
  | notImplemented =>
    obtain ⟨v, _, _, r, _⟩ := h
    cases v with
    | non => cases r
    | bl _ => cases r
    | ref _ => cases r
    | ty _ => cases r
    | int _ => obtain ⟨_, e⟩ := r; cases e
    | str _ => obtain ⟨_, e⟩ := r; cases e
    | byt _ => obtain ⟨_, e⟩ := r; cases e
    | flt _ => obtain ⟨_, e⟩ := r; cases e
  | _ => exact h
/-- an operator of an own class, found by its name -/
structure OwnOp (K : PySem.W.Frag) (C f : Addr) (nm : Str) : Prop where
  at_ : PySem.W.findIn K (.ref C) nm = some (some (.ref f))
  fn : PySem.W.isFn K (.ref f) = true
section
variable {X : Cx} {CX : CXT} {k : Nat} {f C : Addr} {fd : FuncData} {ps : List Str} {sp : Sp} {E : XK}
theorem inst_at {pins : List (Addr × Obj)} {σ : L2.St} {H : Hp} {s : Shared} {a C dx : Addr} {fs : List (Str × V)} (I : Inv X pins σ H s) (h : H a = some (.ins C dx fs)) : ∃ od, PySem.W.InstAt s.heap a (PySem.W.instObj C dx) C (some od) := by
  obtain ⟨mA, J, _⟩ := ins_get I.hok h
  obtain ⟨od, J, _⟩ := J.look
  exact ⟨od, J⟩
/-- a + b, both of the class at C -/
def rOwn2 (C : Addr) (sp : Sp) (E : XK) : R2 := fun x y H Q => ∃ a b dx dy fs gs, x = .ref a ∧ y = .ref b ∧ H a = some (.ins C dx fs) ∧ H b = some (.ins C dy gs) ∧ sp [x, y] H Q E
theorem op_own2 {op : Operator} (hc : PySem.W.selfFirst X.K C = true) (O : OwnOp X.K C f (PySem.dunder op.info.2)) (G : FnOk X.prog X.w X.K X.mg X.base CX k f fd ps sp) (hr : Room k X.A) (hb : Binds X.K fd ps []) (hx : Passes CX X E) :
    OpR X (binaryOp op) (rOwn2 C sp E) := by
  rintro pins s σ H x y v u Q I rx ry ⟨a, b, dx, dy, fs, gs, rfl, rfl, ha, hb', hsp⟩
  cases rx
  cases ry
  obtain ⟨od, J⟩ := inst_at I ha
  obtain ⟨od', J'⟩ := inst_at I hb'
  obtain ⟨m, hF⟩ := I.fr
  refine PySem.W.binop_K hF I.ok.mod.kin J J'.type hc O.at_ O.fn ?_
  exact wpAny_mono (run_fn (us := [.ref a, .ref b]) (vs := [.ref a, .ref b]) G hr hb .nil hx I (.cons rfl (.cons rfl .nil)) hsp) (fun _ _ h => cmpBack_of h) fun _ _ z => z
/-- a + i, a of the class at C, i an int -/
structure IntOp (K : PySem.W.Frag) (C : Addr) (nm : String) : Prop where
  h1 : ∃ fo, PySem.W.findIn K (.type "int") (PySem.dunder nm) = some fo
  h2 : ∃ ro, PySem.W.findIn K (.type "int") (dunderR nm) = some ro
  hsub : PySem.W.subIn K (.type "int") (.ref C) = some false
  hr : ∃ g : Addr, PySem.W.findIn K (.ref C) (dunderR nm) = some (some (.ref g))
def rOwnI (C : Addr) (sp : Sp) (E : XK) : R2 := fun x y H Q => ∃ a i dx fs, x = .ref a ∧ y = .int i ∧ H a = some (.ins C dx fs) ∧ sp [x, y] H Q E
theorem op_ownI {op : Operator} (hc : PySem.W.selfFirst X.K C = true) (O : OwnOp X.K C f (PySem.dunder op.info.2)) (N : IntOp X.K C op.info.2) (G : FnOk X.prog X.w X.K X.mg X.base CX k f fd ps sp) (hr : Room k X.A) (hb : Binds X.K fd ps []) (hx : Passes CX X E) :
    OpR X (binaryOp op) (rOwnI C sp E) := by
  rintro pins s σ H x y v u Q I rx ry ⟨a, i, dx, fs, rfl, rfl, ha, hsp⟩
  cases rx
  obtain ⟨t, rfl⟩ := ry
  obtain ⟨od, J⟩ := inst_at I ha
  obtain ⟨m, hF⟩ := I.fr
  obtain ⟨fo, h1⟩ := N.h1
  obtain ⟨ro, h2⟩ := N.h2
  obtain ⟨g, h3⟩ := N.hr
  refine PySem.W.ksp_binT (T := "int") hF I.ok.mod.kin J rfl hc O.at_ O.fn h3 (.inr ⟨g, rfl⟩) h1 h2 N.hsub ?_
  exact wpAny_mono (run_fn (us := [.ref a, .int i t]) (vs := [.ref a, .int i]) G hr hb .nil hx I (.cons rfl (.cons ⟨t, rfl⟩ .nil)) hsp) (fun _ _ h => cmpBack_of h) fun _ _ z => z
/-- -a -/
def rOwn1 (C : Addr) (sp : Sp) (E : XK) : V → Hp → VK → Prop := fun x H Q => ∃ a dx fs, x = .ref a ∧ H a = some (.ins C dx fs) ∧ sp [x] H Q E
theorem un_own (O : OwnOp X.K C f "__neg__") (G : FnOk X.prog X.w X.K X.mg X.base CX k f fd ps sp) (hr : Room k X.A) (hb : Binds X.K fd ps []) (hx : Passes CX X E) : UnR X (unaryOp .USub) (rOwn1 C sp E) := by
  rintro pins s σ H x v Q I rx ⟨a, dx, fs, rfl, ha, hsp⟩
  cases rx
  obtain ⟨od, J⟩ := inst_at I ha
  obtain ⟨m, hF⟩ := I.fr
  refine PySem.W.ksp_neg hF I.ok.mod.kin J O.at_ O.fn ?_
  exact run_fn (us := [.ref a]) (vs := [.ref a]) G hr hb .nil hx I (.cons rfl .nil) hsp
end
end Sq
namespace Sq
open PySem L2 PyProof.Rows
/-- a built-in operator of ints, upon an object that holds no int: NotImplemented -/
def SNot (a : Addr) : PySem.Spec := fun _ R s => (∃ o, s.heap.get? a = some o ∧ o.data = .plain) ∧ R (.ok (.ret .notImplemented)) s
theorem bin_not {nm : String} {g : Int → Int → Sem Fin} {i : Int} {t : Tok} {a : Addr} : Meets (Builtin.Int.intBinary nm g false ⟨[.int i t, .ref a], []⟩) (SNot a) := by
  rintro prog w A R s ⟨⟨o, ho, hd⟩, q⟩
  unfold Builtin.Int.intBinary
  refine wpAny_bind (wpAny_of_eq (a := ((Value.int i t : Value), [Value.ref a])) (by first | rfl | (simp only [slotArgs]; rfl)) ?_)
  refine wpAny_bind (wpAny_of_eq (a := i) (by rfl) ?_)
  refine wpAny_bind (wpAny_bind (wpAny_load ho ?_))
  rw [hd]
  exact wpAny_pure (wpAny_bind (wpAny_rule (wpAny_pure q)))
section
variable {X : Cx} {CX : CXT} {k : Nat} {f C : Addr} {fd : FuncData} {ps : List Str} {sp : Sp} {E : XK}
/-- i + a, i an int, a of the class at C -/
def rIOwn (C : Addr) (sp : Sp) (E : XK) : R2 := fun x y H Q => ∃ a i dx fs, x = .int i ∧ y = .ref a ∧ H a = some (.ins C dx fs) ∧ sp [y, x] H Q E
theorem bin1_right {M : Model} {A : Around} {E : Value → Shared → Prop} {s : Shared} {K : PySem.W.Frag} {a C f : Addr} {ox : Obj} {od : Option Obj} {nm : String} {i : Int} {t : Tok} {id : String} {Q : Option Value → Shared → Prop}
    (Y : K.In s.heap) (I : PySem.W.InstAt s.heap a ox C od) (hc : PySem.W.selfFirst K C = true) (fT : fillsNumberSlot (.type "int") nm = pure true) (sl : Slot "int" (PySem.dunder nm) id)
    (h0 : PySem.W.findIn K (.ref C) (PySem.dunder nm) = some (some (.ref f))) {g : Addr} (hs : PySem.W.findIn K (.ref C) (dunderR nm) = some (some (.ref g))) (hf : PySem.W.isFn K (.ref g) = true) (hsub : PySem.W.subIn K (.ref C) (.type "int") = some false)
    (hcall : wpAny M A (call (.builtin id) [.int i t, .ref a]) (fun v s' => v = .notImplemented ∧ s' = s) E s)
    (h : wpAny M A (call (.ref g) [.ref a, .int i t]) (PySem.W.CmpBack fun v s' => Q (some v) s') E s) : wpAny M A (binaryOp1 nm (.int i t) (.ref a)) Q E s := by
  obtain ⟨cd, rest, hcd, hm⟩ := PySem.W.ksp_first hc
  have L1 : PySem.W.Looks M s.heap (typeOf (.ref a)) (.ref C) := I.type
  have L2 : PySem.W.Looks M s.heap (fillsNumberSlot (.ref C) nm) true := PySem.W.fills_K Y hcd hm h0
  have L3 : PySem.W.Looks M s.heap (isSubtype (.ref C) (.type "int")) false := PySem.W.looks_subIn Y hsub
  have two : wpAny M A (tryMethod (.ref a) (dunderR nm) (.int i t)) (fun r s' => ∃ v, r = some v ∧ Q (some v) s') E s := PySem.W.ksp_try Y I hs hf h
  simp only [binaryOp1]
  refine wpAny_bind (wpAny_of_eq (a := Value.type "int") rfl (wpAny_bind (L1.here (wpAny_bind (wpAny_of_eq fT ?_)))))
  have ne : (Value.type "int" == Value.ref C) = false := Bool.eq_false_iff.mpr fun q => by cases beq_iff_eq.mp q
  simp only [ne, Bool.false_eq_true, if_false]
  refine wpAny_bind (L2.here ?_)
  simp only [Bool.and_self, if_true]
  refine wpAny_bind (L3.here ?_)
  have hpy : numberSlotInPython (.type "int") nm = pure false := rfl
  simp only [Bool.false_eq_true, if_false, pure_bind, Bool.not_false, Bool.and_self, if_true, hpy]
  refine wpAny_bind (m := tryMethod (.int i t) _ _) ?_
  have hT : s.TypeIs (.int i t) "int" := typeIs_int s i t
  unfold tryMethod
  refine wpAny_bind (wpAny_callSpecial?_slot hT sl (wpAny_mono hcall (fun v s1 h1 => ?_) fun _ _ z => z))
  obtain ⟨rfl, rfl⟩ := h1
  refine wpAny_pure (wpAny_bind (wpAny_mono two (fun r s2 h2 => ?_) fun _ _ z => z))
  obtain ⟨v, rfl, q⟩ := h2
  exact wpAny_bind (wpAny_rule (wpAny_pure q))
end
end Sq
namespace Sq
open PySem L2 PyProof.Rows
/-- what the class must say for i + a -/
structure RevOp (K : PySem.W.Frag) (C f g : Addr) (nm : String) : Prop where
  h0 : PySem.W.findIn K (.ref C) (PySem.dunder nm) = some (some (.ref f))
  hs : PySem.W.findIn K (.ref C) (dunderR nm) = some (some (.ref g))
  hf : PySem.W.isFn K (.ref g) = true
  hsub : PySem.W.subIn K (.ref C) (.type "int") = some false
/-- the built-in side of an operator of ints -/
structure BltOp (op : Operator) : Prop where
  fT : fillsNumberSlot (.type "int") op.info.2 = pure true
  sl : ∃ id B, Slot "int" (PySem.dunder op.info.2) id ∧ entryFor table id = some B ∧ (∀ a b : Value, argsOk id ⟨[a, b], []⟩) ∧ ∃ nm g, ∀ args, B args = Builtin.Int.intBinary nm g false args
theorem blt_add : BltOp .Add := ⟨F.fills_int_add, _, _, F.slot_int_add, F.entry_int_add, F.args_int_add_2, _, _, fun _ => rfl⟩
theorem blt_sub : BltOp .Sub := ⟨F.fills_int_sub, _, _, F.slot_int_sub, F.entry_int_sub, F.args_int_sub_2, _, _, fun _ => rfl⟩
theorem blt_mul : BltOp .Mult := ⟨F.fills_int_mul, _, _, F.slot_int_mul, F.entry_int_mul, F.args_int_mul_2, _, _, fun _ => rfl⟩
section
variable {X : Cx} {CX : CXT} {k : Nat} {f C : Addr} {fd : FuncData} {ps : List Str} {sp : Sp} {E : XK}
theorem bin_of1 {M : Model} {A : Around} {E : Value → Shared → Prop} {s : Shared} {op : Operator} {a b : Value} {Q : Value → Shared → Prop} (h : wpAny M A (binaryOp1 op.info.2 a b) (fun r s' => ∃ v, r = some v ∧ Q v s') E s) : wpAny M A (binaryOp op a b) Q E s := by
  rcases hi : op.info with ⟨sym, nm⟩
  rw [hi] at h
  simp only [binaryOp, hi]
  refine wpAny_holding (wpAny_bind (wpAny_mono h (fun r s' hr => ?_) fun _ _ z => z))
  obtain ⟨v, rfl, q⟩ := hr
  exact wpAny_pure q
theorem op_Iown {op : Operator} {g : Addr} (hc : PySem.W.selfFirst X.K C = true) (B : BltOp op) (R : RevOp X.K C f g op.info.2) (G : FnOk X.prog X.w X.K X.mg X.base CX k g fd ps sp) (hr : Room k X.A) (hb : Binds X.K fd ps []) (hx : Passes CX X E) :
    OpR X (binaryOp op) (rIOwn C sp E) := by
  rintro pins s σ H x y v u Q I rx ry ⟨a, i, dx, fs, rfl, rfl, ha, hsp⟩
  cases ry
  obtain ⟨t, rfl⟩ := rx
  obtain ⟨od, J⟩ := inst_at I ha
  obtain ⟨id, Bf, sl, en, ar, nm, gg, hB⟩ := B.sl
  refine bin_of1 (bin1_right I.kIn J hc B.fT sl R.h0 R.hs R.hf R.hsub ?_ ?_)
  · refine call_meets sl (typeIs_int s i t) en (ar _ _) (S := SNot a) ?_ ⟨⟨_, J.at_, rfl⟩, rfl, rfl⟩
    rw [hB]
    exact bin_not
  · refine wpAny_mono (run_fn (us := [.ref a, .int i t]) (vs := [.ref a, .int i]) G hr hb .nil hx I (.cons rfl (.cons ⟨t, rfl⟩ .nil)) hsp) (fun u s' h => ?_) fun _ _ z => z
    have c := cmpBack_of h
    cases u with
    | notImplemented => exact c.elim
    | _ => exact ⟨_, rfl, c⟩
/-- the class has only itself and object above it -/
structure MroOk (K : PySem.W.Frag) (C : Addr) (cd : ClassData) : Prop where
  hc : PySem.W.clsIn K C = some cd
  hm : cd.mro = [.ref C, .type "object"]
structure NoIn (K : PySem.W.Frag) (C : Addr) (nm : String) : Prop where
  h1 : PySem.W.findIn K (.ref C) (dunderI nm) = some none
  h2 : PySem.W.findIn K (.type "object") (dunderI nm) = some none
theorem no_inplace {K : PySem.W.Frag} {M : Model} {h : Heap} {cd : ClassData} {nm : String} {add : Bool} (Y : K.In h) (O : MroOk K C cd) (N : NoIn K C nm) : PySem.W.Looks M h (fillsInplaceSlot (.ref C) nm add) false := by
  intro A Q E s kk q
  have Lm : PySem.W.Looks M h (mroOf (.ref C)) cd.mro := (PySem.W.looks_clsIn Y O.hc).andThen (f := fun cd => pure cd.mro) .now
  have L1 : PySem.W.Looks M h (typeLookup (.ref C) (dunderI nm)) none := PySem.W.looks_findIn Y N.h1
  have L2 : PySem.W.Looks M h (typeLookup (.type "object") (dunderI nm)) none := PySem.W.looks_findIn Y N.h2
  unfold fillsInplaceSlot
  refine wpAny_bind (Lm A _ E s kk ?_)
  rw [O.hm, List.anyM_cons]
  refine wpAny_bind (wpAny_bind (L1 A _ E s kk (wpAny_pure ?_)))
  rw [if_neg Bool.false_ne_true, List.anyM_cons]
  refine wpAny_bind (wpAny_bind (L2 A _ E s kk (wpAny_pure ?_)))
  rw [if_neg Bool.false_ne_true, List.anyM_nil]
  exact wpAny_pure q
theorem inplace_of1 {M : Model} {A : Around} {E : Value → Shared → Prop} {s : Shared} {K : PySem.W.Frag} {op : Operator} {a : Addr} {b : Value} {ox : Obj} {od : Option Obj} {cd : ClassData} {Q : Value → Shared → Prop} (Y : K.In s.heap) (I : PySem.W.InstAt s.heap a ox C od) (O : MroOk K C cd) (N : NoIn K C op.info.2)
    (h : wpAny M A (binaryOp1 op.info.2 (.ref a) b) (fun r s' => ∃ v, r = some v ∧ Q v s') E s) : wpAny M A (inplaceOp op (.ref a) b) Q E s := by
  have L1 : PySem.W.Looks M s.heap (typeOf (.ref a)) (.ref C) := I.type
  have L2 : PySem.W.Looks M s.heap (fillsInplaceSlot (.ref C) op.info.2 (op == .Add)) false := no_inplace Y O N
  unfold inplaceOp
  refine wpAny_holding (wpAny_bind (L1.here (wpAny_bind (L2.here ?_))))
  simp only [Bool.false_eq_true, if_false]
  refine wpAny_bind (wpAny_mono h (fun r s' hr => ?_) fun _ _ z => z)
  obtain ⟨v, rfl, q⟩ := hr
  exact wpAny_pure q
theorem bin1_two {M : Model} {A : Around} {E : Value → Shared → Prop} {s : Shared} {K : PySem.W.Frag} {a : Addr} {b : Value} {ox : Obj} {od : Option Obj} {nm : String} {Q : Option Value → Shared → Prop} (Y : K.In s.heap) (I : PySem.W.InstAt s.heap a ox C od)
    (hb : PySem.W.Looks M s.heap (typeOf b) (.ref C)) (hc : PySem.W.selfFirst K C = true) (O : OwnOp K C f (PySem.dunder nm)) (h : wpAny M A (call (.ref f) [.ref a, b]) (PySem.W.CmpBack fun v s' => Q (some v) s') E s) : wpAny M A (binaryOp1 nm (.ref a) b) Q E s := by
  obtain ⟨cd, rest, hcd, hm⟩ := PySem.W.ksp_first hc
  have L1 : PySem.W.Looks M s.heap (typeOf (.ref a)) (.ref C) := I.type
  have L2 : PySem.W.Looks M s.heap (fillsNumberSlot (.ref C) nm) true := PySem.W.fills_K Y hcd hm O.at_
  have one : wpAny M A (tryMethod (.ref a) (PySem.dunder nm) b) (fun r s' => ∃ v, r = some v ∧ Q (some v) s') E s := PySem.W.ksp_try Y I O.at_ O.fn h
  simp only [binaryOp1]
  refine wpAny_bind (L1.here (wpAny_bind (hb.here (wpAny_bind (L2.here ?_)))))
  simp only [beq_self_eq_true, if_true]
  refine wpAny_bind (wpAny_pure ?_)
  simp only [Bool.and_false, Bool.false_eq_true, if_false, Bool.false_and, pure_bind, if_true]
  refine wpAny_bind (wpAny_mono one (fun r s' hr => ?_) fun _ _ z => z)
  obtain ⟨v, rfl, q⟩ := hr
  exact wpAny_pure q
theorem bin1_int {M : Model} {A : Around} {E : Value → Shared → Prop} {s : Shared} {K : PySem.W.Frag} {a : Addr} {i : Int} {t : Tok} {ox : Obj} {od : Option Obj} {nm : String} {Q : Option Value → Shared → Prop} (Y : K.In s.heap) (I : PySem.W.InstAt s.heap a ox C od)
    (hc : PySem.W.selfFirst K C = true) (O : OwnOp K C f (PySem.dunder nm)) (N : IntOp K C nm) (h : wpAny M A (call (.ref f) [.ref a, .int i t]) (PySem.W.CmpBack fun v s' => Q (some v) s') E s) : wpAny M A (binaryOp1 nm (.ref a) (.int i t)) Q E s := by
  obtain ⟨cd, rest, hcd, hm⟩ := PySem.W.ksp_first hc
  obtain ⟨fo, h1⟩ := N.h1
  obtain ⟨ro, h2⟩ := N.h2
  obtain ⟨g, h3⟩ := N.hr
  have L1 : PySem.W.Looks M s.heap (typeOf (.ref a)) (.ref C) := I.type
  have L2 : PySem.W.Looks M s.heap (fillsNumberSlot (.ref C) nm) true := PySem.W.fills_K Y hcd hm O.at_
  have L3 : PySem.W.Looks M s.heap (fillsNumberSlot (.type "int") nm) ((fo.isSome && !isSeqSlot fo) || (ro.isSome && !isSeqSlot ro)) := PySem.W.ksp_fillsT Y h1 h2
  have L4 : PySem.W.Looks M s.heap (isSubtype (.type "int") (.ref C)) false := PySem.W.looks_subIn Y N.hsub
  have L5 : PySem.W.Looks M s.heap (numberSlotInPython (.ref C) nm) true := PySem.W.ksp_inPy Y O.at_ h3 (.inr ⟨g, rfl⟩)
  have L6 : PySem.W.Looks M s.heap (typeLookup (.type "int") (dunderR nm)) ro := PySem.W.looks_findIn Y h2
  have one : wpAny M A (tryMethod (.ref a) (PySem.dunder nm) (.int i t)) (fun r s' => ∃ v, r = some v ∧ Q (some v) s') E s := PySem.W.ksp_try Y I O.at_ O.fn h
  have ne : (Value.ref C == Value.type "int") = false := Bool.eq_false_iff.mpr fun q => by cases beq_iff_eq.mp q
  have hpy : numberSlotInPython (.type "int") nm = pure false := rfl
  simp only [binaryOp1]
  refine wpAny_bind (L1.here (wpAny_bind (wpAny_of_eq (a := Value.type "int") rfl (wpAny_bind (L2.here ?_)))))
  simp only [ne, Bool.false_eq_true, if_false]
  refine wpAny_bind (L3.here ?_)
  generalize ((fo.isSome && !isSeqSlot fo) || (ro.isSome && !isSeqSlot ro)) = right
  cases right with
  | false =>
    simp only [Bool.and_false, Bool.false_eq_true, if_false, Bool.false_and, pure_bind, if_true]
    refine wpAny_bind (wpAny_mono one (fun r s' hr => ?_) fun _ _ z => z)
    obtain ⟨v, rfl, q⟩ := hr
    exact wpAny_pure q
  | true =>
    simp only [Bool.and_self, if_true]
    refine wpAny_bind (L4.here ?_)
    simp only [Bool.false_eq_true, if_false, pure_bind, Bool.not_false, Bool.and_self, if_true]
    refine wpAny_bind (L5.here ?_)
    simp only [if_true, hpy, pure_bind, Bool.not_false]
    refine wpAny_bind (L6.here (wpAny_bind (wpAny_mono one (fun r s' hr => ?_) fun _ _ z => z)))
    obtain ⟨v, rfl, q⟩ := hr
    exact wpAny_pure q
theorem back_some {pins : List (Addr × Obj)} {σ : L2.St} {Q : VK} {u : Value} {s' : Shared} (h : EP X pins σ Q u s') : PySem.W.CmpBack (fun v s' => ∃ w, some v = some w ∧ EP X pins σ Q w s') u s' := by
  have c := cmpBack_of h
  cases u with
  | notImplemented => exact c.elim
  | _ => exact ⟨_, rfl, c⟩
theorem ip_own2 {op : Operator} {cd : ClassData} (hc : PySem.W.selfFirst X.K C = true) (M : MroOk X.K C cd) (N : NoIn X.K C op.info.2) (O : OwnOp X.K C f (PySem.dunder op.info.2)) (G : FnOk X.prog X.w X.K X.mg X.base CX k f fd ps sp) (hr : Room k X.A) (hb : Binds X.K fd ps []) (hx : Passes CX X E) :
    OpR X (inplaceOp op) (rOwn2 C sp E) := by
  rintro pins s σ H x y v u Q I rx ry ⟨a, b, dx, dy, fs, gs, rfl, rfl, ha, hb', hsp⟩
  cases rx
  cases ry
  obtain ⟨od, J⟩ := inst_at I ha
  obtain ⟨od', J'⟩ := inst_at I hb'
  exact inplace_of1 I.kIn J M N (bin1_two I.kIn J J'.type hc O (wpAny_mono (run_fn (us := [.ref a, .ref b]) (vs := [.ref a, .ref b]) G hr hb .nil hx I (.cons rfl (.cons rfl .nil)) hsp) (fun _ _ h => back_some h) fun _ _ z => z))
theorem ip_ownI {op : Operator} {cd : ClassData} (hc : PySem.W.selfFirst X.K C = true) (M : MroOk X.K C cd) (N : NoIn X.K C op.info.2) (O : OwnOp X.K C f (PySem.dunder op.info.2)) (NI : IntOp X.K C op.info.2) (G : FnOk X.prog X.w X.K X.mg X.base CX k f fd ps sp) (hr : Room k X.A) (hb : Binds X.K fd ps []) (hx : Passes CX X E) :
    OpR X (inplaceOp op) (rOwnI C sp E) := by
  rintro pins s σ H x y v u Q I rx ry ⟨a, i, dx, fs, rfl, rfl, ha, hsp⟩
  cases rx
  obtain ⟨t, rfl⟩ := ry
  obtain ⟨od, J⟩ := inst_at I ha
  exact inplace_of1 I.kIn J M N (bin1_int I.kIn J hc O NI (wpAny_mono (run_fn (us := [.ref a, .int i t]) (vs := [.ref a, .int i]) G hr hb .nil hx I (.cons rfl (.cons ⟨t, rfl⟩ .nil)) hsp) (fun _ _ h => back_some h) fun _ _ z => z))
/-- a == y by the class's own ==; y is of the class, or of a built-in class -/
def rOwnEq (K : PySem.W.Frag) (C : Addr) (sp : Sp) (E : XK) : R2 := fun x y H Q => ∃ a dx fs t, x = .ref a ∧ H a = some (.ins C dx fs) ∧ TyX K H y t ∧ PySem.W.notFirst K C t = true ∧ sp [x, y] H Q E
theorem op_ownEq (O : OwnOp X.K C f "__eq__") (G : FnOk X.prog X.w X.K X.mg X.base CX k f fd ps sp) (hr : Room k X.A) (hb : Binds X.K fd ps []) (hx : Passes CX X E) : OpR X (compareOp .Eq) (rOwnEq X.K C sp E) := by
  rintro pins s σ H x y v u Q I rx ry ⟨a, dx, fs, t, rfl, ha, hty, hn, hsp⟩
  cases rx
  obtain ⟨od, J⟩ := inst_at I ha
  obtain ⟨m, hF⟩ := I.fr
  obtain ⟨Pt, KX, hp, _⟩ := kit_of I ry hty
  show wpAny (model X.prog X.w) X.A (richCompare .Eq (.ref a) u) (EP X pins σ Q) X.xe s
  refine PySem.W.cmp_K (op := .Eq) (tb := t) hr.units0 hF I.ok.mod.kin J (KX.ty _ _ I.kIn hp) hn O.at_ O.fn ?_
  exact wpAny_mono (run_fn (us := [.ref a, u]) (vs := [.ref a, y]) G hr hb .nil hx I (.cons rfl (.cons ry .nil)) hsp) (fun _ _ h => cmpBack_of h) fun _ _ z => z
end
end Sq

namespace Sq
open PySem L2 PyProof.Rows
/-- one or the other rule -/
theorem op_or {X : Cx} {f : Value → Value → Sem Value} {r1 r2 : R2} (h1 : OpR X f r1) (h2 : OpR X f r2) : OpR X f (fun x y H Q => r1 x y H Q ∨ r2 x y H Q) := by
  rintro pins s σ H x y v u Q I rx ry (h | h)
  · exact h1 pins s σ H x y v u Q I rx ry h
  · exact h2 pins s σ H x y v u Q I rx ry h
/-- X(), X an own error class without an __init__ -/
theorem pmk_own0 {X : Cx} {C : Addr} {bmB : List Value} {B newId initId : String} {x : Str} {p pos : Pos} (F : ExcBaseFacts B newId initId bmB) (q : PySem.W.excIn X.K C bmB newId = true) (gC : X.mg x = some (.ref C)) (kC : PySem.W.keepIn X.K (.ref C) = true)
    (r : Raises X (.ref C)) (hg : Gl X x) (nd : (x == ("__debug__" : Str)) = false := by decide) : PMk X (.Call (.Name x p) [] [] pos) (fun _ H Q => Q (.ref C) none H) := by
  intro pins s σ H Q I h
  refine wpAny_Call_Name_kw (ld_glob I hg gC (PySem.W.callWith_K0 I.kIn kC ?_) nd)
  show wpAny _ _ (call (.ref C) []) _ _ _
  obtain ⟨bm, N, nm, qn, bs, hdct, sn, sub, ab, col, dd, k0, k1, k2, k3, k5, mN, hC, hN, hni, T⟩ := exc_obj I.kIn q
  obtain ⟨hp, g, d, t, os⟩ := s
  exact wpAny_call_exc_subT F T hC hN hni (fun h' e hm => mk_of I hm r h (I.hok.gone hm.new)) (Nat.zero_le _)
/-- what the class must say for a != b by its own == -/
structure NeOp (K : PySem.W.Frag) (C f : Addr) : Prop where
  eq : PySem.W.findIn K (.ref C) "__eq__" = some (some (.ref f))
  fn : PySem.W.isFn K (.ref f) = true
  ne : PySem.W.findIn K (.ref C) "__ne__" = some (some (.builtin "object.__ne__"))
  ob : PySem.W.mroIn K C (.type "object") = some true
section
variable {X : Cx} {CX : CXT} {k : Nat} {f C : Addr} {fd : FuncData} {ps : List Str} {sp : Sp} {E : XK}
theorem if_bound {M : Model} {A : Around} {E : Value → Shared → Prop} {s : Shared} {K : PySem.W.Frag} {x : Addr} {ox : Obj} {od : Option Obj} {name : Str} {id : String} {args : List Value} {Q : Option Value → Shared → Prop} (Y : K.In s.heap) (I : PySem.W.InstAt s.heap x ox C od)
    (hs : PySem.W.findIn K (.ref C) name = some (some (.builtin id))) (hb : ∀ self : Value, bindSpecial (.builtin id) self = pure (Value.builtin id, [self])) (h : wpAny M A (call (.builtin id) (.ref x :: args)) (fun v => Q (some v)) E s) : wpAny M A (callSpecialIfBound? (.ref x) name args) Q E s := by
  simp only [callSpecialIfBound?, bindSpecialIfBound?]
  refine wpAny_holding (wpAny_bind (wpAny_bind (wpAny_bind (I.type.here ((PySem.W.looks_findIn Y hs).here ?_)))))
  have fin : wpAny M A (call (.builtin id) ([.ref x] ++ args) >>= fun v => pure (some v)) Q E s := wpAny_bind (wpAny_mono h (fun v s' h' => wpAny_pure h') fun _ _ h' => h')
  refine wpAny_bind (wpAny_askSetting (wpAny_ite ?_))
  split
  · exact wpAny_bind (wpAny_of_eq (hb _) (wpAny_pure fin))
  · exact wpAny_tryCatch (wpAny_bind (wpAny_of_eq (hb _) (wpAny_pure fin)))
end
end Sq

namespace Sq
open PySem L2 PyProof.Rows
abbrev s_isnum : Stmt := top 17
abbrev s_asratio : Stmt := top 18
abbrev s_req : Stmt := inClass (top 19) 1
abbrev s_radd : Stmt := inClass (top 19) 2
abbrev s_rradd : Stmt := inClass (top 19) 3
abbrev s_rsub : Stmt := inClass (top 19) 4
abbrev s_rrsub : Stmt := inClass (top 19) 5
abbrev s_rmul : Stmt := inClass (top 19) 6
abbrev s_rrmul : Stmt := inClass (top 19) 7
abbrev s_rneg : Stmt := inClass (top 19) 8
abbrev s_rover : Stmt := inClass (top 19) 9
/-! ### mathematics -/
theorem low_int {i T U : Int} (L : Low i 1 T U) : T = i ∧ U = 1 := by
  have v := L.val
  have p := L.pos
  have c := L.cop
  rw [Int.mul_one] at v
  rw [v, Int.gcd_comm] at c
  have d : Int.gcd U (i * U) = U.natAbs := Int.gcd_eq_natAbs_left (Int.dvd_mul_left ..)
  rw [d] at c
  have u1 : U = 1 := by omega
  rw [u1, Int.mul_one] at v
  exact ⟨v, u1⟩
theorem cancel_r {x y z : Int} (hz : z ≠ 0) (h : x * z = y * z) : x = y := Int.eq_of_mul_eq_mul_right hz h
/-- the value of a fraction in lowest terms, over a further fraction's -/
theorem low_add {a b c d t u t' u' T U : Int} (L1 : Low a b t u) (L2 : Low c d t' u') (L : Low (t * u' + t' * u) (u * u') T U) : T * (b * d) = (a * d + c * b) * U := by
  have h1 := L1.val
  have h2 := L2.val
  have h := L.val
  have n : u * u' ≠ 0 := Int.mul_ne_zero (by have := L1.pos; omega) (by have := L2.pos; omega)
  refine cancel_r n ?_
  grind
theorem low_sub {a b c d t u t' u' T U : Int} (L1 : Low a b t u) (L2 : Low c d t' u') (L : Low (t * u' - t' * u) (u * u') T U) : T * (b * d) = (a * d - c * b) * U := by
  have h1 := L1.val
  have h2 := L2.val
  have h := L.val
  have n : u * u' ≠ 0 := Int.mul_ne_zero (by have := L1.pos; omega) (by have := L2.pos; omega)
  refine cancel_r n ?_
  grind
theorem low_mul {a b c d t u t' u' T U : Int} (L1 : Low a b t u) (L2 : Low c d t' u') (L : Low (t * t') (u * u') T U) : T * (b * d) = a * c * U := by
  have h1 := L1.val
  have h2 := L2.val
  have h := L.val
  have n : u * u' ≠ 0 := Int.mul_ne_zero (by have := L1.pos; omega) (by have := L2.pos; omega)
  refine cancel_r n ?_
  grind
theorem low_over {a b c d t u t' u' T U : Int} (L1 : Low a b t u) (L2 : Low c d t' u') (hd : d ≠ 0) (hc : c ≠ 0) (L : Low (t * u') (u * t') T U) : T * (b * c) = a * d * U := by
  have h1 := L1.val
  have h2 := L2.val
  have h := L.val
  have t0 : t' ≠ 0 := fun e => by
    rw [e, Int.zero_mul] at h2
    have := L2.pos
    exact Int.mul_ne_zero hc (by omega) h2.symm
  have n : u * t' ≠ 0 := Int.mul_ne_zero (by have := L1.pos; omega) t0
  refine cancel_r n (cancel_r hd ?_)
  grind
theorem low_neg {a b t u T U : Int} (L1 : Low a b t u) (L : Low (-t) u T U) : T * b = -a * U := by
  have h1 := L1.val
  have h := L.val
  have n : u ≠ 0 := by have := L1.pos; omega
  refine cancel_r n ?_
  grind
theorem low_one : Low t 1 t 1 := ⟨by decide, by simp, by omega, Nat.le_refl _, Nat.le_refl _⟩
theorem low_eq {a b c d t u t' u' : Int} (hb : b ≠ 0) (hd : d ≠ 0) (L1 : Low a b t u) (L2 : Low c d t' u') : (t = t' ∧ u = u') ↔ a * d = c * b := by
  have h1 := L1.val
  have h2 := L2.val
  have p1 := L1.pos
  have p2 := L2.pos
  constructor
  · rintro ⟨rfl, rfl⟩
    refine cancel_r (z := u) (by omega) ?_
    grind
  · intro h
    have n : b * d ≠ 0 := Int.mul_ne_zero hb hd
    have e : t * u' = t' * u := cancel_r n (by grind)
    have e' : t.natAbs * u'.natAbs = t'.natAbs * u.natAbs := by rw [← Int.natAbs_mul, ← Int.natAbs_mul, e]
    have c1 : Nat.Coprime u.natAbs t.natAbs := Nat.Coprime.symm L1.cop
    have c2 : Nat.Coprime u'.natAbs t'.natAbs := Nat.Coprime.symm L2.cop
    have d1 : u.natAbs ∣ u'.natAbs := c1.dvd_of_dvd_mul_left (by rw [e']; exact Nat.dvd_mul_left ..)
    have d2 : u'.natAbs ∣ u.natAbs := c2.dvd_of_dvd_mul_left (by rw [← e']; exact Nat.dvd_mul_left ..)
    have eu : u.natAbs = u'.natAbs := Nat.dvd_antisymm d1 d2
    have eu2 : u = u' := by omega
    subst eu2
    exact ⟨cancel_r (z := u) (by omega) e, rfl⟩
theorem low_eqI {a b t u w : Int} (hb : b ≠ 0) (L1 : Low a b t u) : (u = 1 ∧ t = w) ↔ a = w * b := by
  have h := low_eq hb (by decide) L1 (low_one (t := w))
  rw [Int.mul_one] at h
  rw [← h]
  constructor
  · rintro ⟨a, b⟩
    exact ⟨b, a⟩
  · rintro ⟨a, b⟩
    exact ⟨b, a⟩
/-- of at most 1,500 bits -/
def Fit (t : Int) : Prop := t.natAbs < 2 ^ 1500
theorem up {t : Int} (h : Fit t) : t.natAbs < 2 ^ 4000 := Nat.lt_of_lt_of_le h (Nat.pow_le_pow_right (by decide) (by decide))
theorem fit_up {t : Int} (h : Fit t) : t.natAbs < 2 ^ 8000 := Nat.lt_of_lt_of_le h (Nat.pow_le_pow_right (by decide) (by decide))
theorem big2 {t u : Int} (h : Fit t) (h' : Fit u) : (t * u).natAbs < 2 ^ 8000 := Nat.lt_of_lt_of_le (wide_lt h h') (Nat.pow_le_pow_right (by decide) (by decide))
theorem fit_one : Fit 1 := Nat.lt_of_lt_of_le (show (1 : Int).natAbs < 2 ^ 1 from by decide) (Nat.pow_le_pow_right (by decide) (by decide))
theorem mul_ne {a b : Int} (h : a ≠ 0) (h' : b ≠ 0) : a * b ≠ 0 := Int.mul_ne_zero h h'
/-- y is the number t / u: a Ratio, or an int -/
def NumAt (C : Addr) (H : Hp) (y : V) (t u : Int) : Prop := (∃ r, y = .ref r ∧ RatAt C H r t u) ∨ (y = .int t ∧ u = 1)
theorem RatAt.same {C : Addr} {H H' : Hp} {x : Addr} {t u : Int} (s : Same H H') (h : RatAt C H x t u) : RatAt C H' x t u := by
  obtain ⟨dx, h⟩ := h
  exact ⟨dx, s _ _ h⟩
theorem NumAt.same {C : Addr} {H H' : Hp} {y : V} {t u : Int} (s : Same H H') (h : NumAt C H y t u) : NumAt C H' y t u := by
  rcases h with ⟨r, e, h⟩ | h
  · exact .inl ⟨r, e, h.same s⟩
  · exact .inr h
/-- isinstance(x, Ratio) of other things -/
structure KZx (K : PySem.W.Frag) (C : Addr) : Prop where
  kint : PySem.W.kitOne K (.type "int") (.ref C) = some false
  kstr : PySem.W.kitOne K (.type "str") (.ref C) = some false
  knon : PySem.W.kitOne K (.type "NoneType") (.ref C) = some false
def spIsNum (K : PySem.W.Frag) (C : Addr) : Sp := fun vs H Q _ => ∃ (y : V) (t : Value) (b : Bool), vs = [y] ∧ TyX K H y t ∧ PySem.W.kitOne K t (.ref C) = some b ∧ IsTy K H y ∧ Q (.bl (b || isI y)) H
theorem num_is {K : PySem.W.Frag} {C : Addr} {H : Hp} {y : V} {t u : Int} (T : CTx K C) (Y : ITy K C) (Z : KZx K C) (h : NumAt C H y t u) : ∃ (q : Value) (b : Bool), TyX K H y q ∧ PySem.W.kitOne K q (.ref C) = some b ∧ IsTy K H y ∧ (b || isI y) = true := by
  rcases h with ⟨r, rfl, h⟩ | ⟨rfl, _⟩
  · exact ⟨_, true, h.ty T Y, kit_self, h.isTy T Y, rfl⟩
  · exact ⟨.type "int", false, .base (.int _), Z.kint, .int _, rfl⟩
def spAsRatio (C : Addr) : Sp := fun vs H Q _ => ∃ (y : V) (t u : Int), vs = [y] ∧ NumAt C H y t u ∧ t.natAbs < 2 ^ 8000 ∧ ∀ r H', RatAt C H' r t u → Same H H' → Q (.ref r) H'
section
variable {P : Program} {w : World} {K : PySem.W.Frag} {mg : Str → Option Value} {base : Heap}
theorem sc_isnum : FnScope ["value"] ["value"] (defScope s_isnum) := ⟨rfl, rfl, rfl, by decide +kernel, rfl, by decide +kernel, by decide +kernel⟩
theorem ok_isnum {f C fI : Addr} {fd fdI : FuncData} (F : Fun K "is_number" "is_number" s_isnum f fd) (B : ITx mg) (m_C : mg "Ratio" = some (.ref C))
    (G_I : FnOk P w K mg base CX0 1 fI fdI ["value"] (spIsInt K)) (m_I : mg "is_an_integer" = some (.ref fI)) (k_I : PySem.W.keepIn K (.ref fI) = true) (b_I : Binds K fdI ["value"] []) : FnOk P w K mg base CX0 2 f fd ["value"] (spIsNum K C) := by
  refine F.ok sc_isnum (fun vs H Q E h => ?_) (fun cdv A outer s H vs Q E hr h => ?_)
  · obtain ⟨y, t, b, rfl, _⟩ := h
    rfl
  · obtain ⟨y, t, b, rfl, ty, kb, it, k⟩ := h
    refine ⟨_, pss_one (ps_ret (pe_or (pe_callB call_isi (by rfl) B.b_isinstance (by decide +kernel) (pa_cons (pv 0) (pa_cons (pe_glob (v := .ref C) rfl m_C rfl) pa_nil))) (pe_one (pe_call G_I hr rfl m_I k_I b_I .nil pass0 (pa_cons (pv 0) pa_nil))))), ?_⟩
    refine ⟨_, rfl, _, _, _, _, b, rfl, .own C, ty, kb, _, rfl, ?_⟩
    cases b with
    | true => exact iteT k
    | false => exact iteF ⟨_, rfl, _, rfl, it, k⟩
theorem sc_asratio : FnScope ["number"] ["number"] (defScope s_asratio) := ⟨rfl, rfl, rfl, by decide +kernel, rfl, by decide +kernel, by decide +kernel⟩
theorem ok_asratio {f C CN fR : Addr} {fd fdR : FuncData} {ds1 : List Value} (F : Fun K "as_ratio" "as_ratio" s_asratio f fd) (T : CTx K C) (Y : ITy K C) (Z : KZx K C) (B : ITx mg) (m_C : mg "Ratio" = some (.ref C)) (M : Mk K C fR)
    (G_R : FnOk P w K mg base (L2.CX P w) 3 fR fdR ["self", "top", "bottom"] (spRatioInit K C CN)) (b_R1 : Binds K fdR ["self", "top", "bottom"] ds1) (v_R1 : Vals [.int 1] ds1) : FnOk P w K mg base CX0 5 f fd ["number"] (spAsRatio C) := by
  refine F.ok sc_asratio (fun vs H Q E h => ?_) (fun cdv A outer s H vs Q E hr h => ?_)
  · obtain ⟨y, t, u, rfl, _⟩ := h
    rfl
  · obtain ⟨y, t, u, rfl, hy, st, k⟩ := h
    refine ⟨_, pss_cons (ps_if (pt_val (pe_callB call_isi (by rfl) B.b_isinstance (by decide +kernel) (pa_cons (pv 0) (pa_cons (pe_glob (v := .ref C) rfl m_C rfl) pa_nil)))) (pss_one (ps_ret (pv 0))) pss_nil)
      (pss_one (ps_ret (pe_make M G_R (hr.mono (by decide)) rfl m_C b_R1 v_R1 passL (pa_cons (pv 0) pa_nil)))), ?_⟩
    rcases hy with ⟨r, rfl, hr1⟩ | ⟨rfl, rfl⟩
    · refine ⟨_, rfl, _, _, _, _, true, rfl, .own C, hr1.ty T Y, kit_self, _, rfl, iteT ?_⟩
      exact ⟨_, rfl, k r H hr1 (Same.refl H)⟩
    · refine ⟨_, rfl, _, _, _, _, false, rfl, .own C, .base (.int _), Z.kint, _, rfl, iteF ?_⟩
      refine ⟨_, rfl, fun z dz nz ndz ne => mk_go (by decide) (fit_up fit_one) nz ndz ne fun a b H2 L R s2 => ⟨rfl, ?_⟩⟩
      obtain ⟨e1, e2⟩ := low_int L
      subst e1 e2
      exact k z H2 R s2
def spR_add (C : Addr) : Sp := fun vs H Q _ => ∃ (x : Addr) (y : V) (t u t' u' : Int), vs = [.ref x, y] ∧ RatAt C H x t u ∧ NumAt C H y t' u' ∧ 1 ≤ u ∧ 1 ≤ u' ∧ Fit t ∧ Fit u ∧ Fit t' ∧ Fit u' ∧
  ∀ z T U H', Low (t * u' + t' * u) (u * u') T U → RatAt C H' z T U → Same H H' → Q (.ref z) H'
theorem sc_radd : FnScope ["self", "other", "right"] ["self", "other"] (defScope s_radd) := ⟨rfl, rfl, rfl, by decide +kernel, rfl, by decide +kernel, by decide +kernel⟩
theorem ok_radd {f C CN fR fN fA : Addr} {fd fdR fdN fdA : FuncData} (F : Fun K "__add__" "Ratio.__add__" s_radd f fd) (T : CTx K C) (Y : ITy K C) (Z : KZx K C) (m_C : mg "Ratio" = some (.ref C)) (M : Mk K C fR)
    (G_R : FnOk P w K mg base (L2.CX P w) 3 fR fdR ["self", "top", "bottom"] (spRatioInit K C CN)) (b_R : Binds K fdR ["self", "top", "bottom"] [])
    (G_N : FnOk P w K mg base CX0 2 fN fdN ["value"] (spIsNum K C)) (m_N : mg "is_number" = some (.ref fN)) (k_N : PySem.W.keepIn K (.ref fN) = true) (b_N : Binds K fdN ["value"] [])
    (G_A : FnOk P w K mg base CX0 5 fA fdA ["number"] (spAsRatio C)) (m_A : mg "as_ratio" = some (.ref fA)) (k_A : PySem.W.keepIn K (.ref fA) = true) (b_A : Binds K fdA ["number"] []) :
    FnOk P w K mg base CX0 6 f fd ["self", "other"] (spR_add C) := by
  refine F.ok sc_radd (fun vs H Q E h => ?_) (fun cdv A outer s H vs Q E hr h => ?_)
  · obtain ⟨x, y, t, u, t', u', rfl, _⟩ := h
    rfl
  · obtain ⟨x, y, t, u, t', u', rfl, hx, hy, pu, pu', st, su, st', su', k⟩ := h
    refine ⟨_, (pss_cons (ps_if (pt_not (pt_val (pe_call G_N (hr.mono (by decide)) rfl m_N k_N b_N .nil pass0 (pa_cons (pv 1) pa_nil)))) (pss_one ps_never) pss_nil)
      (pss_cons (ps_set (i := 2) sc_radd.nd rfl (Or.inl rfl) (pe_call G_A hr rfl m_A k_A b_A .nil pass0 (pa_cons (pv 1) pa_nil)))
      (pss_one (ps_ret (pe_make M G_R (hr.mono (by decide)) rfl m_C b_R .nil passL (pa_cons (pe_op op_add (pe_op op_mulW (pe_fld (pv 0) rfl) (pe_fld (pv 2) rfl)) (pe_op op_mulW (pe_fld (pv 2) rfl) (pe_fld (pv 0) rfl))) (pa_cons (pe_op op_mulW (pe_fld (pv 0) rfl) (pe_fld (pv 2) rfl)) pa_nil))))))), ?_⟩
    obtain ⟨q, b, hq, kb, hi, hbi⟩ := num_is T Y Z hy
    refine ⟨_, rfl, y, q, b, rfl, hq, kb, hi, _, rfl, ?_⟩
    rw [hbi]
    refine iteF ?_
    refine ⟨_, rfl, y, t', u', rfl, hy, fit_up st', fun r H1 hr1 s1 => ?_⟩
    obtain ⟨dx, hx0⟩ := hx
    have hx1 := s1 _ _ hx0
    obtain ⟨dr, hr1⟩ := hr1
    refine ⟨_, rfl, x, C, dx, _, _, rfl, hx1, T.cl, T.nT, rf_top _ _, _, rfl, r, C, dr, _, _, rfl, hr1, T.cl, T.nB, rf_bottom _ _, _, _, rfl, rfl, mul_ok (up st) (up su'), ?_⟩
    refine ⟨_, rfl, r, C, dr, _, _, rfl, hr1, T.cl, T.nT, rf_top _ _, _, rfl, x, C, dx, _, _, rfl, hx1, T.cl, T.nB, rf_bottom _ _, _, _, rfl, rfl, mul_ok (up st') (up su), _, _, rfl, rfl, ?_⟩
    refine ⟨_, rfl, x, C, dx, _, _, rfl, hx1, T.cl, T.nB, rf_bottom _ _, _, rfl, r, C, dr, _, _, rfl, hr1, T.cl, T.nB, rf_bottom _ _, _, _, rfl, rfl, mul_ok (up su) (up su'), ?_⟩
    exact fun z dz nz ndz ne => mk_go (mul_ne (by omega) (by omega)) (big2 su su') nz ndz ne fun T U H2 L R s2 => ⟨rfl, k z T U H2 L R (s1.trans s2)⟩
def spR_sub (C : Addr) : Sp := fun vs H Q _ => ∃ (x : Addr) (y : V) (t u t' u' : Int), vs = [.ref x, y] ∧ RatAt C H x t u ∧ NumAt C H y t' u' ∧ 1 ≤ u ∧ 1 ≤ u' ∧ Fit t ∧ Fit u ∧ Fit t' ∧ Fit u' ∧
  ∀ z T U H', Low (t * u' - t' * u) (u * u') T U → RatAt C H' z T U → Same H H' → Q (.ref z) H'
theorem sc_rsub : FnScope ["self", "other", "right"] ["self", "other"] (defScope s_rsub) := ⟨rfl, rfl, rfl, by decide +kernel, rfl, by decide +kernel, by decide +kernel⟩
theorem ok_rsub {f C CN fR fN fA : Addr} {fd fdR fdN fdA : FuncData} (F : Fun K "__sub__" "Ratio.__sub__" s_rsub f fd) (T : CTx K C) (Y : ITy K C) (Z : KZx K C) (m_C : mg "Ratio" = some (.ref C)) (M : Mk K C fR)
    (G_R : FnOk P w K mg base (L2.CX P w) 3 fR fdR ["self", "top", "bottom"] (spRatioInit K C CN)) (b_R : Binds K fdR ["self", "top", "bottom"] [])
    (G_N : FnOk P w K mg base CX0 2 fN fdN ["value"] (spIsNum K C)) (m_N : mg "is_number" = some (.ref fN)) (k_N : PySem.W.keepIn K (.ref fN) = true) (b_N : Binds K fdN ["value"] [])
    (G_A : FnOk P w K mg base CX0 5 fA fdA ["number"] (spAsRatio C)) (m_A : mg "as_ratio" = some (.ref fA)) (k_A : PySem.W.keepIn K (.ref fA) = true) (b_A : Binds K fdA ["number"] []) :
    FnOk P w K mg base CX0 6 f fd ["self", "other"] (spR_sub C) := by
  refine F.ok sc_rsub (fun vs H Q E h => ?_) (fun cdv A outer s H vs Q E hr h => ?_)
  · obtain ⟨x, y, t, u, t', u', rfl, _⟩ := h
    rfl
  · obtain ⟨x, y, t, u, t', u', rfl, hx, hy, pu, pu', st, su, st', su', k⟩ := h
    refine ⟨_, (pss_cons (ps_if (pt_not (pt_val (pe_call G_N (hr.mono (by decide)) rfl m_N k_N b_N .nil pass0 (pa_cons (pv 1) pa_nil)))) (pss_one ps_never) pss_nil)
      (pss_cons (ps_set (i := 2) sc_rsub.nd rfl (Or.inl rfl) (pe_call G_A hr rfl m_A k_A b_A .nil pass0 (pa_cons (pv 1) pa_nil)))
      (pss_one (ps_ret (pe_make M G_R (hr.mono (by decide)) rfl m_C b_R .nil passL (pa_cons (pe_op op_sub (pe_op op_mulW (pe_fld (pv 0) rfl) (pe_fld (pv 2) rfl)) (pe_op op_mulW (pe_fld (pv 2) rfl) (pe_fld (pv 0) rfl))) (pa_cons (pe_op op_mulW (pe_fld (pv 0) rfl) (pe_fld (pv 2) rfl)) pa_nil))))))), ?_⟩
    obtain ⟨q, b, hq, kb, hi, hbi⟩ := num_is T Y Z hy
    refine ⟨_, rfl, y, q, b, rfl, hq, kb, hi, _, rfl, ?_⟩
    rw [hbi]
    refine iteF ?_
    refine ⟨_, rfl, y, t', u', rfl, hy, fit_up st', fun r H1 hr1 s1 => ?_⟩
    obtain ⟨dx, hx0⟩ := hx
    have hx1 := s1 _ _ hx0
    obtain ⟨dr, hr1⟩ := hr1
    refine ⟨_, rfl, x, C, dx, _, _, rfl, hx1, T.cl, T.nT, rf_top _ _, _, rfl, r, C, dr, _, _, rfl, hr1, T.cl, T.nB, rf_bottom _ _, _, _, rfl, rfl, mul_ok (up st) (up su'), ?_⟩
    refine ⟨_, rfl, r, C, dr, _, _, rfl, hr1, T.cl, T.nT, rf_top _ _, _, rfl, x, C, dx, _, _, rfl, hx1, T.cl, T.nB, rf_bottom _ _, _, _, rfl, rfl, mul_ok (up st') (up su), _, _, rfl, rfl, ?_⟩
    refine ⟨_, rfl, x, C, dx, _, _, rfl, hx1, T.cl, T.nB, rf_bottom _ _, _, rfl, r, C, dr, _, _, rfl, hr1, T.cl, T.nB, rf_bottom _ _, _, _, rfl, rfl, mul_ok (up su) (up su'), ?_⟩
    exact fun z dz nz ndz ne => mk_go (mul_ne (by omega) (by omega)) (big2 su su') nz ndz ne fun T U H2 L R s2 => ⟨rfl, k z T U H2 L R (s1.trans s2)⟩
def spR_mul (C : Addr) : Sp := fun vs H Q _ => ∃ (x : Addr) (y : V) (t u t' u' : Int), vs = [.ref x, y] ∧ RatAt C H x t u ∧ NumAt C H y t' u' ∧ 1 ≤ u ∧ 1 ≤ u' ∧ Fit t ∧ Fit u ∧ Fit t' ∧ Fit u' ∧
  ∀ z T U H', Low (t * t') (u * u') T U → RatAt C H' z T U → Same H H' → Q (.ref z) H'
theorem sc_rmul : FnScope ["self", "other", "right"] ["self", "other"] (defScope s_rmul) := ⟨rfl, rfl, rfl, by decide +kernel, rfl, by decide +kernel, by decide +kernel⟩
theorem ok_rmul {f C CN fR fN fA : Addr} {fd fdR fdN fdA : FuncData} (F : Fun K "__mul__" "Ratio.__mul__" s_rmul f fd) (T : CTx K C) (Y : ITy K C) (Z : KZx K C) (m_C : mg "Ratio" = some (.ref C)) (M : Mk K C fR)
    (G_R : FnOk P w K mg base (L2.CX P w) 3 fR fdR ["self", "top", "bottom"] (spRatioInit K C CN)) (b_R : Binds K fdR ["self", "top", "bottom"] [])
    (G_N : FnOk P w K mg base CX0 2 fN fdN ["value"] (spIsNum K C)) (m_N : mg "is_number" = some (.ref fN)) (k_N : PySem.W.keepIn K (.ref fN) = true) (b_N : Binds K fdN ["value"] [])
    (G_A : FnOk P w K mg base CX0 5 fA fdA ["number"] (spAsRatio C)) (m_A : mg "as_ratio" = some (.ref fA)) (k_A : PySem.W.keepIn K (.ref fA) = true) (b_A : Binds K fdA ["number"] []) :
    FnOk P w K mg base CX0 6 f fd ["self", "other"] (spR_mul C) := by
  refine F.ok sc_rmul (fun vs H Q E h => ?_) (fun cdv A outer s H vs Q E hr h => ?_)
  · obtain ⟨x, y, t, u, t', u', rfl, _⟩ := h
    rfl
  · obtain ⟨x, y, t, u, t', u', rfl, hx, hy, pu, pu', st, su, st', su', k⟩ := h
    refine ⟨_, (pss_cons (ps_if (pt_not (pt_val (pe_call G_N (hr.mono (by decide)) rfl m_N k_N b_N .nil pass0 (pa_cons (pv 1) pa_nil)))) (pss_one ps_never) pss_nil)
      (pss_cons (ps_set (i := 2) sc_rmul.nd rfl (Or.inl rfl) (pe_call G_A hr rfl m_A k_A b_A .nil pass0 (pa_cons (pv 1) pa_nil)))
      (pss_one (ps_ret (pe_make M G_R (hr.mono (by decide)) rfl m_C b_R .nil passL (pa_cons (pe_op op_mulW (pe_fld (pv 0) rfl) (pe_fld (pv 2) rfl)) (pa_cons (pe_op op_mulW (pe_fld (pv 0) rfl) (pe_fld (pv 2) rfl)) pa_nil))))))), ?_⟩
    obtain ⟨q, b, hq, kb, hi, hbi⟩ := num_is T Y Z hy
    refine ⟨_, rfl, y, q, b, rfl, hq, kb, hi, _, rfl, ?_⟩
    rw [hbi]
    refine iteF ?_
    refine ⟨_, rfl, y, t', u', rfl, hy, fit_up st', fun r H1 hr1 s1 => ?_⟩
    obtain ⟨dx, hx0⟩ := hx
    have hx1 := s1 _ _ hx0
    obtain ⟨dr, hr1⟩ := hr1
    refine ⟨_, rfl, x, C, dx, _, _, rfl, hx1, T.cl, T.nT, rf_top _ _, _, rfl, r, C, dr, _, _, rfl, hr1, T.cl, T.nT, rf_top _ _, _, _, rfl, rfl, mul_ok (up st) (up st'), ?_⟩
    refine ⟨_, rfl, x, C, dx, _, _, rfl, hx1, T.cl, T.nB, rf_bottom _ _, _, rfl, r, C, dr, _, _, rfl, hr1, T.cl, T.nB, rf_bottom _ _, _, _, rfl, rfl, mul_ok (up su) (up su'), ?_⟩
    exact fun z dz nz ndz ne => mk_go (mul_ne (by omega) (by omega)) (big2 su su') nz ndz ne fun T U H2 L R s2 => ⟨rfl, k z T U H2 L R (s1.trans s2)⟩
end
end Sq

namespace Sq
open PySem L2 PyProof.Rows
section
variable {P : Program} {w : World} {K : PySem.W.Frag} {mg : Str → Option Value} {base : Heap}
def spR_radd (C : Addr) : Sp := fun vs H Q _ => ∃ (x : Addr) (i t u : Int), vs = [.ref x, .int i] ∧ RatAt C H x t u ∧ 1 ≤ u ∧ Fit t ∧ Fit u ∧ Fit i ∧
  ∀ z T U H', Low (t * 1 + i * u) (u * 1) T U → RatAt C H' z T U → Same H H' → Q (.ref z) H'
theorem sc_rradd : FnScope ["self", "other"] ["self", "other"] (defScope s_rradd) := ⟨rfl, rfl, rfl, by decide +kernel, rfl, by decide +kernel, by decide +kernel⟩
theorem ok_rradd {f C fO fN : Addr} {fd fdO fdN : FuncData} (F : Fun K "__radd__" "Ratio.__radd__" s_rradd f fd) (T : CTx K C) (Y : ITy K C) (Z : KZx K C) (hc : PySem.W.selfFirst K C = true)
    (G_N : FnOk P w K mg base CX0 2 fN fdN ["value"] (spIsNum K C)) (m_N : mg "is_number" = some (.ref fN)) (k_N : PySem.W.keepIn K (.ref fN) = true) (b_N : Binds K fdN ["value"] [])
    (O : OwnOp K C fO (PySem.dunder Operator.Add.info.2)) (I : IntOp K C Operator.Add.info.2) (G_O : FnOk P w K mg base CX0 6 fO fdO ["self", "other"] (spR_add C)) (b_O : Binds K fdO ["self", "other"] []) :
    FnOk P w K mg base CX0 7 f fd ["self", "other"] (spR_radd C) := by
  refine F.ok sc_rradd (fun vs H Q E h => ?_) (fun cdv A outer s H vs Q E hr h => ?_)
  · obtain ⟨x, i, t, u, rfl, _⟩ := h
    rfl
  · obtain ⟨x, i, t, u, rfl, hx, pu, st, su, si, k⟩ := h
    refine ⟨_, (pss_cons (ps_if (pt_not (pt_val (pe_call G_N (hr.mono (by decide)) rfl m_N k_N b_N .nil pass0 (pa_cons (pv 1) pa_nil)))) (pss_one ps_never) pss_nil)
      (pss_one (ps_ret (pe_op (op_ownI (op := .Add) hc O I G_O hr b_O pass0) (pv 0) (pv 1))))), ?_⟩
    obtain ⟨q, b, hq, kb, hi, hbi⟩ := num_is (H := H) (y := .int i) (t := i) (u := 1) T Y Z (.inr ⟨rfl, rfl⟩)
    refine ⟨_, rfl, .int i, q, b, rfl, hq, kb, hi, _, rfl, ?_⟩
    rw [hbi]
    refine iteF ?_
    obtain ⟨dx, hx0⟩ := id hx
    exact ⟨_, rfl, _, rfl, x, i, dx, _, rfl, rfl, hx0, x, .int i, t, u, i, 1, rfl, hx, .inr ⟨rfl, rfl⟩, pu, by decide, st, su, si, fit_one, k⟩
def spR_rmul (C : Addr) : Sp := fun vs H Q _ => ∃ (x : Addr) (i t u : Int), vs = [.ref x, .int i] ∧ RatAt C H x t u ∧ 1 ≤ u ∧ Fit t ∧ Fit u ∧ Fit i ∧
  ∀ z T U H', Low (t * i) (u * 1) T U → RatAt C H' z T U → Same H H' → Q (.ref z) H'
theorem sc_rrmul : FnScope ["self", "other"] ["self", "other"] (defScope s_rrmul) := ⟨rfl, rfl, rfl, by decide +kernel, rfl, by decide +kernel, by decide +kernel⟩
theorem ok_rrmul {f C fO fN : Addr} {fd fdO fdN : FuncData} (F : Fun K "__rmul__" "Ratio.__rmul__" s_rrmul f fd) (T : CTx K C) (Y : ITy K C) (Z : KZx K C) (hc : PySem.W.selfFirst K C = true)
    (G_N : FnOk P w K mg base CX0 2 fN fdN ["value"] (spIsNum K C)) (m_N : mg "is_number" = some (.ref fN)) (k_N : PySem.W.keepIn K (.ref fN) = true) (b_N : Binds K fdN ["value"] [])
    (O : OwnOp K C fO (PySem.dunder Operator.Mult.info.2)) (I : IntOp K C Operator.Mult.info.2) (G_O : FnOk P w K mg base CX0 6 fO fdO ["self", "other"] (spR_mul C)) (b_O : Binds K fdO ["self", "other"] []) :
    FnOk P w K mg base CX0 7 f fd ["self", "other"] (spR_rmul C) := by
  refine F.ok sc_rrmul (fun vs H Q E h => ?_) (fun cdv A outer s H vs Q E hr h => ?_)
  · obtain ⟨x, i, t, u, rfl, _⟩ := h
    rfl
  · obtain ⟨x, i, t, u, rfl, hx, pu, st, su, si, k⟩ := h
    refine ⟨_, (pss_cons (ps_if (pt_not (pt_val (pe_call G_N (hr.mono (by decide)) rfl m_N k_N b_N .nil pass0 (pa_cons (pv 1) pa_nil)))) (pss_one ps_never) pss_nil)
      (pss_one (ps_ret (pe_op (op_ownI (op := .Mult) hc O I G_O hr b_O pass0) (pv 0) (pv 1))))), ?_⟩
    obtain ⟨q, b, hq, kb, hi, hbi⟩ := num_is (H := H) (y := .int i) (t := i) (u := 1) T Y Z (.inr ⟨rfl, rfl⟩)
    refine ⟨_, rfl, .int i, q, b, rfl, hq, kb, hi, _, rfl, ?_⟩
    rw [hbi]
    refine iteF ?_
    obtain ⟨dx, hx0⟩ := id hx
    exact ⟨_, rfl, _, rfl, x, i, dx, _, rfl, rfl, hx0, x, .int i, t, u, i, 1, rfl, hx, .inr ⟨rfl, rfl⟩, pu, by decide, st, su, si, fit_one, k⟩
def spR_rsub (C : Addr) : Sp := fun vs H Q _ => ∃ (x : Addr) (i t u : Int), vs = [.ref x, .int i] ∧ RatAt C H x t u ∧ 1 ≤ u ∧ Fit t ∧ Fit u ∧ Fit i ∧
  ∀ z T U H', Low (i * u - t * 1) (1 * u) T U → RatAt C H' z T U → Same H H' → Q (.ref z) H'
theorem sc_rrsub : FnScope ["self", "other"] ["self", "other"] (defScope s_rrsub) := ⟨rfl, rfl, rfl, by decide +kernel, rfl, by decide +kernel, by decide +kernel⟩
theorem ok_rrsub {f C fO fN fA : Addr} {fd fdO fdN fdA : FuncData} (F : Fun K "__rsub__" "Ratio.__rsub__" s_rrsub f fd) (T : CTx K C) (Y : ITy K C) (Z : KZx K C) (hc : PySem.W.selfFirst K C = true)
    (G_N : FnOk P w K mg base CX0 2 fN fdN ["value"] (spIsNum K C)) (m_N : mg "is_number" = some (.ref fN)) (k_N : PySem.W.keepIn K (.ref fN) = true) (b_N : Binds K fdN ["value"] [])
    (G_A : FnOk P w K mg base CX0 5 fA fdA ["number"] (spAsRatio C)) (m_A : mg "as_ratio" = some (.ref fA)) (k_A : PySem.W.keepIn K (.ref fA) = true) (b_A : Binds K fdA ["number"] [])
    (O : OwnOp K C fO (PySem.dunder Operator.Sub.info.2)) (G_O : FnOk P w K mg base CX0 6 fO fdO ["self", "other"] (spR_sub C)) (b_O : Binds K fdO ["self", "other"] []) :
    FnOk P w K mg base CX0 7 f fd ["self", "other"] (spR_rsub C) := by
  refine F.ok sc_rrsub (fun vs H Q E h => ?_) (fun cdv A outer s H vs Q E hr h => ?_)
  · obtain ⟨x, i, t, u, rfl, _⟩ := h
    rfl
  · obtain ⟨x, i, t, u, rfl, hx, pu, st, su, si, k⟩ := h
    refine ⟨_, (pss_cons (ps_if (pt_not (pt_val (pe_call G_N (hr.mono (by decide)) rfl m_N k_N b_N .nil pass0 (pa_cons (pv 1) pa_nil)))) (pss_one ps_never) pss_nil)
      (pss_one (ps_ret (pe_op (op_own2 (op := .Sub) hc O G_O hr b_O pass0) (pe_call G_A (hr.mono (by decide)) rfl m_A k_A b_A .nil pass0 (pa_cons (pv 1) pa_nil)) (pv 0))))), ?_⟩
    obtain ⟨q, b, hq, kb, hi, hbi⟩ := num_is (H := H) (y := .int i) (t := i) (u := 1) T Y Z (.inr ⟨rfl, rfl⟩)
    refine ⟨_, rfl, .int i, q, b, rfl, hq, kb, hi, _, rfl, ?_⟩
    rw [hbi]
    refine iteF ?_
    refine ⟨_, rfl, .int i, i, 1, rfl, .inr ⟨rfl, rfl⟩, fit_up si, fun r H1 hr1 s1 => ?_⟩
    obtain ⟨dx, hx0⟩ := id hx
    obtain ⟨dr, hr0⟩ := id hr1
    exact ⟨_, rfl, r, x, dr, dx, _, _, rfl, rfl, hr0, s1 _ _ hx0, r, .ref x, i, 1, t, u, rfl, hr1, .inl ⟨x, rfl, hx.same s1⟩, by decide, pu, si, fit_one, st, su, fun z T U H' L R s2 => k z T U H' L R (s1.trans s2)⟩
def spR_neg (C : Addr) : Sp := fun vs H Q _ => ∃ (x : Addr) (t u : Int), vs = [.ref x] ∧ RatAt C H x t u ∧ 1 ≤ u ∧ Fit u ∧ ∀ z T U H', Low (-t) u T U → RatAt C H' z T U → Same H H' → Q (.ref z) H'
theorem sc_rneg : FnScope ["self"] ["self"] (defScope s_rneg) := ⟨rfl, rfl, rfl, by decide +kernel, rfl, by decide +kernel, by decide +kernel⟩
theorem ok_rneg {f C CN fR : Addr} {fd fdR : FuncData} (F : Fun K "__neg__" "Ratio.__neg__" s_rneg f fd) (T : CTx K C) (Y : ITy K C) (Z : KZx K C) (m_C : mg "Ratio" = some (.ref C)) (M : Mk K C fR)
    (G_R : FnOk P w K mg base (L2.CX P w) 3 fR fdR ["self", "top", "bottom"] (spRatioInit K C CN)) (b_R : Binds K fdR ["self", "top", "bottom"] []) : FnOk P w K mg base CX0 5 f fd ["self"] (spR_neg C) := by
  refine F.ok sc_rneg (fun vs H Q E h => ?_) (fun cdv A outer s H vs Q E hr h => ?_)
  · obtain ⟨x, t, u, rfl, _⟩ := h
    rfl
  · obtain ⟨x, t, u, rfl, hx, pu, su, k⟩ := h
    refine ⟨_, pss_one (ps_ret (pe_make M G_R (hr.mono (by decide)) rfl m_C b_R .nil passL (pa_cons (pe_un un_neg (pe_fld (pv 0) rfl)) (pa_cons (pe_fld (pv 0) rfl) pa_nil)))), ?_⟩
    obtain ⟨dx, hx0⟩ := id hx
    refine ⟨_, rfl, x, C, dx, _, _, rfl, hx0, T.cl, T.nT, rf_top _ _, _, rfl, _, rfl, x, C, dx, _, _, rfl, hx0, T.cl, T.nB, rf_bottom _ _, ?_⟩
    exact fun z dz nz ndz ne => mk_go (by omega) (fit_up su) nz ndz ne fun T U H2 L R s2 => ⟨rfl, k z T U H2 L R s2⟩
def spR_over (C CN : Addr) : Sp := fun vs H Q E => ∃ (x : Addr) (y : V) (t u t' u' : Int), vs = [.ref x, y] ∧ RatAt C H x t u ∧ NumAt C H y t' u' ∧ 1 ≤ u ∧ 1 ≤ u' ∧ Fit t ∧ Fit u ∧ Fit t' ∧ Fit u' ∧
  (t' = 0 → ∀ H1 d, Same H H1 → H1 d = none → E (.ref CN) (some d) (upd H1 d (wordAt "zero"))) ∧
  (t' ≠ 0 → ∀ z T U H', Low (t * u') (u * t') T U → RatAt C H' z T U → Same H H' → Q (.ref z) H')
theorem sc_rover : FnScope ["self", "other", "right"] ["self", "other"] (defScope s_rover) := ⟨rfl, rfl, rfl, by decide +kernel, rfl, by decide +kernel, by decide +kernel⟩
theorem ok_rover {f C CN fR fA : Addr} {fd fdR fdA : FuncData} (F : Fun K "over" "Ratio.over" s_rover f fd) (T : CTx K C) (Y : ITy K C) (Z : KZx K C) (m_C : mg "Ratio" = some (.ref C)) (M : Mk K C fR)
    (G_R : FnOk P w K mg base (L2.CX P w) 3 fR fdR ["self", "top", "bottom"] (spRatioInit K C CN)) (b_R : Binds K fdR ["self", "top", "bottom"] [])
    (G_A : FnOk P w K mg base CX0 5 fA fdA ["number"] (spAsRatio C)) (m_A : mg "as_ratio" = some (.ref fA)) (k_A : PySem.W.keepIn K (.ref fA) = true) (b_A : Binds K fdA ["number"] []) : FnOk P w K mg base (L2.CX P w) 6 f fd ["self", "other"] (spR_over C CN) := by
  refine F.okX sc_rover (fun vs H Q E h => ?_) (fun cdv A outer s H vs Q E hr h => ?_)
  · obtain ⟨x, y, t, u, t', u', rfl, _⟩ := h
    rfl
  · obtain ⟨x, y, t, u, t', u', rfl, hx, hy, pu, pu', st, su, st', su', kE, k⟩ := h
    refine ⟨_, (pss_cons (ps_set (i := 2) sc_rover.nd rfl (Or.inl rfl) (pe_call G_A hr rfl m_A k_A b_A .nil pass0 (pa_cons (pv 1) pa_nil)))
      (pss_one (ps_ret (pe_make (E := E) M G_R (hr.mono (by decide)) rfl m_C b_R .nil (passes_call (takes_of rfl rfl rfl rfl) fun _ _ _ _ h => h) (pa_cons (pe_op op_mulW (pe_fld (pv 0) rfl) (pe_fld (pv 2) rfl)) (pa_cons (pe_op op_mulW (pe_fld (pv 0) rfl) (pe_fld (pv 2) rfl)) pa_nil)))))), ?_⟩
    refine ⟨_, rfl, y, t', u', rfl, hy, fit_up st', fun r H1 hr1 s1 => ?_⟩
    obtain ⟨dx, hx0⟩ := hx
    have hx1 := s1 _ _ hx0
    obtain ⟨dr, hr1⟩ := hr1
    refine ⟨_, rfl, x, C, dx, _, _, rfl, hx1, T.cl, T.nT, rf_top _ _, _, rfl, r, C, dr, _, _, rfl, hr1, T.cl, T.nB, rf_bottom _ _, _, _, rfl, rfl, mul_ok (up st) (up su'), ?_⟩
    refine ⟨_, rfl, x, C, dx, _, _, rfl, hx1, T.cl, T.nB, rf_bottom _ _, _, rfl, r, C, dr, _, _, rfl, hr1, T.cl, T.nT, rf_top _ _, _, _, rfl, rfl, mul_ok (up su) (up st'), ?_⟩
    intro z dz nz ndz ne
    by_cases h0 : t' = 0
    · have e0 : u * t' = 0 := by rw [h0, Int.mul_zero]
      refine ⟨z, dz, _, _, rfl, upd_same, .int _, .int _, fun b e => (by cases e; exact big2 su st'), fun w hw d hd => ?_, fun a b ea eb hb => (by cases eb; exact absurd e0 hb)⟩
      have hw1 : dueW (.int (t * u')) (.int (u * t')) = some w := hw
      rw [e0] at hw1
      have ew : w = "zero" := by
        have : dueW (.int (t * u')) (.int 0) = some ("zero" : Str) := rfl
        rw [this] at hw1
        exact (Option.some.inj hw1).symm
      subst ew
      exact kE h0 _ d (s1.trans (same_pair nz ndz ne)) hd
    · exact mk_go (mul_ne (by omega) h0) (big2 su st') nz ndz ne fun T U H2 L R s2 => ⟨rfl, k h0 z T U H2 L R (s1.trans s2)⟩
/-- self == other, other a number -/
def spR_eq (K : PySem.W.Frag) (C : Addr) : Sp := fun vs H Q _ => ∃ (x : Addr) (y : V) (t u : Int), vs = [.ref x, y] ∧ RatAt C H x t u ∧
  ((∃ r t' u', y = .ref r ∧ RatAt C H r t' u' ∧ Q (.bl (decide (t = t' ∧ u = u'))) H) ∨ (∃ i, y = .int i ∧ Q (.bl (decide (u = 1 ∧ t = i))) H) ∨
    (∃ q, TyX K H y q ∧ PySem.W.kitOne K q (.ref C) = some false ∧ IsTy K H y ∧ isI y = false ∧ Q (.bl false) H))
theorem sc_req : FnScope ["self", "other"] ["self", "other"] (defScope s_req) := ⟨rfl, rfl, rfl, by decide +kernel, rfl, by decide +kernel, by decide +kernel⟩
theorem dec_int2 (a b : Int) : decide (V.int a = V.int b) = decide (a = b) := by
  by_cases h : a = b
  · rw [h, decide_eq_true rfl, decide_eq_true rfl]
  · rw [decide_eq_false h, decide_eq_false fun e => h (V.int.inj e)]
theorem ok_req {f C fI : Addr} {fd fdI : FuncData} (F : Fun K "__eq__" "Ratio.__eq__" s_req f fd) (T : CTx K C) (Y : ITy K C) (Z : KZx K C) (B : ITx mg) (m_C : mg "Ratio" = some (.ref C))
    (G_I : FnOk P w K mg base CX0 1 fI fdI ["value"] (spIsInt K)) (m_I : mg "is_an_integer" = some (.ref fI)) (k_I : PySem.W.keepIn K (.ref fI) = true) (b_I : Binds K fdI ["value"] []) :
    FnOk P w K mg base CX0 2 f fd ["self", "other"] (spR_eq K C) := by
  refine F.ok sc_req (fun vs H Q E h => ?_) (fun cdv A outer s H vs Q E hr h => ?_)
  · obtain ⟨x, y, t, u, rfl, _⟩ := h
    rfl
  · obtain ⟨x, y, t, u, rfl, hx, h⟩ := h
    refine ⟨_, (pss_cons (ps_if (pt_val (pe_callB call_isi (by rfl) B.b_isinstance (by decide +kernel) (pa_cons (pv 1) (pa_cons (pe_glob (v := .ref C) rfl m_C rfl) pa_nil))))
        (pss_one (ps_ret (pe_and (pe_cmpR op_eq (pe_fld (pv 0) rfl) (pe_fld (pv 1) rfl) (nomark _)) (pe_one (pe_cmpR op_eq (pe_fld (pv 0) rfl) (pe_fld (pv 1) rfl) (nomark _)))))) pss_nil)
      (pss_one (ps_ret (pe_and (pe_call G_I hr rfl m_I k_I b_I .nil pass0 (pa_cons (pv 1) pa_nil)) (pe_and (pe_cmpR op_eq (pe_fld (pv 0) rfl) pe_int (nomark _)) (pe_one (pe_cmpR op_eq (pe_fld (pv 0) rfl) (pv 1) (nomark _)))))))), ?_⟩
    obtain ⟨dx, hx0⟩ := id hx
    rcases h with ⟨r, t', u', rfl, hr1, k⟩ | ⟨i, rfl, k⟩ | ⟨q, ty, kb, it, ni, k⟩
    · obtain ⟨dr, hr0⟩ := id hr1
      refine ⟨_, rfl, _, _, _, _, true, rfl, .own C, hr1.ty T Y, kit_self, _, rfl, iteT ?_⟩
      refine ⟨_, rfl, x, C, dx, _, _, rfl, hx0, T.cl, T.nT, rf_top _ _, _, rfl, r, C, dr, _, _, rfl, hr0, T.cl, T.nT, rf_top _ _, rfl, _, rfl, ?_⟩
      rw [dec_int2]
      by_cases e : t = t'
      · rw [decide_eq_true e]
        refine iteT ⟨_, rfl, x, C, dx, _, _, rfl, hx0, T.cl, T.nB, rf_bottom _ _, _, rfl, r, C, dr, _, _, rfl, hr0, T.cl, T.nB, rf_bottom _ _, rfl, ?_⟩
        show Q (.bl (decide (V.int u = V.int u'))) H
        rw [dec_int2]
        simp only [e, true_and] at k
        exact k
      · rw [decide_eq_false e]
        refine iteF ?_
        simp only [e, false_and, decide_false] at k
        exact k
    · refine ⟨_, rfl, _, _, _, _, false, rfl, .own C, .base (.int _), Z.kint, _, rfl, iteF ?_⟩
      refine ⟨_, rfl, _, rfl, .int i, _, rfl, iteT ?_⟩
      refine ⟨_, rfl, x, C, dx, _, _, rfl, hx0, T.cl, T.nB, rf_bottom _ _, rfl, _, rfl, ?_⟩
      rw [dec_int2]
      by_cases e : u = 1
      · rw [decide_eq_true e]
        refine iteT ⟨_, rfl, x, C, dx, _, _, rfl, hx0, T.cl, T.nT, rf_top _ _, _, rfl, rfl, ?_⟩
        show Q (.bl (decide (V.int t = V.int i))) H
        rw [dec_int2]
        simp only [e, true_and] at k
        exact k
      · rw [decide_eq_false e]
        refine iteF ?_
        simp only [e, false_and, decide_false] at k
        exact k
    · refine ⟨_, rfl, _, _, _, _, false, rfl, .own C, ty, kb, _, rfl, iteF ?_⟩
      refine ⟨_, rfl, y, rfl, it, _, rfl, ?_⟩
      rw [ni]
      exact iteF k
end
end Sq

namespace Sq
open PySem L2 PyProof.Rows
abbrev s_isprime : Stmt := top 30
abbrev s_inverse : Stmt := top 32
/-! ### primes -/
/-- no divisor from 2 on whose square is at most n -/
def isP (n : Nat) : Bool := (List.range 100).all fun d => !(decide (2 ≤ d) && decide (d * d ≤ n) && decide (n % d = 0))
def rt (n : Nat) : Bool := let r := Float64.isqrt n; Nat.ble (r * r) n && Nat.blt n ((r + 1) * (r + 1))
def chk : Nat → Nat → Bool
  | 0, _ => true
  | k + 1, b => rt (b + k) && chk k b
theorem chk_at {n : Nat} : ∀ {k b : Nat}, chk k b = true → b ≤ n → n < b + k → rt n = true
  | 0, b, _, h1, h2 => absurd h2 (by omega)
  | k + 1, b, h, h1, h2 => by
    obtain ⟨ha, hb⟩ := Bool.and_eq_true_iff.mp h
    by_cases e : n = b + k
    · rw [e]
      exact ha
    · exact chk_at hb h1 (by omega)
theorem chk0 : chk 100 0 = true := by decide +kernel
theorem chk1 : chk 100 100 = true := by decide +kernel
theorem chk2 : chk 100 200 = true := by decide +kernel
theorem chk3 : chk 100 300 = true := by decide +kernel
theorem chk4 : chk 100 400 = true := by decide +kernel
theorem chk5 : chk 100 500 = true := by decide +kernel
theorem chk6 : chk 100 600 = true := by decide +kernel
theorem chk7 : chk 100 700 = true := by decide +kernel
theorem chk8 : chk 100 800 = true := by decide +kernel
theorem chk9 : chk 100 900 = true := by decide +kernel
theorem chk10 : chk 100 1000 = true := by decide +kernel
theorem chk11 : chk 100 1100 = true := by decide +kernel
theorem chk12 : chk 100 1200 = true := by decide +kernel
theorem chk13 : chk 100 1300 = true := by decide +kernel
theorem chk14 : chk 100 1400 = true := by decide +kernel
theorem chk15 : chk 100 1500 = true := by decide +kernel
theorem chk16 : chk 100 1600 = true := by decide +kernel
theorem chk17 : chk 100 1700 = true := by decide +kernel
theorem chk18 : chk 100 1800 = true := by decide +kernel
theorem chk19 : chk 100 1900 = true := by decide +kernel
theorem chk20 : chk 100 2000 = true := by decide +kernel
theorem chk21 : chk 100 2100 = true := by decide +kernel
theorem chk22 : chk 100 2200 = true := by decide +kernel
theorem chk23 : chk 100 2300 = true := by decide +kernel
theorem chk24 : chk 100 2400 = true := by decide +kernel
theorem chk25 : chk 100 2500 = true := by decide +kernel
theorem chk26 : chk 100 2600 = true := by decide +kernel
theorem chk27 : chk 100 2700 = true := by decide +kernel
theorem chk28 : chk 100 2800 = true := by decide +kernel
theorem chk29 : chk 100 2900 = true := by decide +kernel
theorem chk30 : chk 100 3000 = true := by decide +kernel
theorem chk31 : chk 100 3100 = true := by decide +kernel
theorem chk32 : chk 100 3200 = true := by decide +kernel
theorem chk33 : chk 100 3300 = true := by decide +kernel
theorem chk34 : chk 100 3400 = true := by decide +kernel
theorem chk35 : chk 100 3500 = true := by decide +kernel
theorem chk36 : chk 100 3600 = true := by decide +kernel
theorem chk37 : chk 100 3700 = true := by decide +kernel
theorem chk38 : chk 100 3800 = true := by decide +kernel
theorem chk39 : chk 100 3900 = true := by decide +kernel
theorem chk40 : chk 100 4000 = true := by decide +kernel
theorem chk41 : chk 100 4100 = true := by decide +kernel
theorem chk42 : chk 100 4200 = true := by decide +kernel
theorem chk43 : chk 100 4300 = true := by decide +kernel
theorem chk44 : chk 100 4400 = true := by decide +kernel
theorem chk45 : chk 100 4500 = true := by decide +kernel
theorem chk46 : chk 100 4600 = true := by decide +kernel
theorem chk47 : chk 100 4700 = true := by decide +kernel
theorem chk48 : chk 100 4800 = true := by decide +kernel
theorem chk49 : chk 100 4900 = true := by decide +kernel
theorem chk50 : chk 100 5000 = true := by decide +kernel
theorem chk51 : chk 100 5100 = true := by decide +kernel
theorem chk52 : chk 100 5200 = true := by decide +kernel
theorem chk53 : chk 100 5300 = true := by decide +kernel
theorem chk54 : chk 100 5400 = true := by decide +kernel
theorem chk55 : chk 100 5500 = true := by decide +kernel
theorem chk56 : chk 100 5600 = true := by decide +kernel
theorem chk57 : chk 100 5700 = true := by decide +kernel
theorem chk58 : chk 100 5800 = true := by decide +kernel
theorem chk59 : chk 100 5900 = true := by decide +kernel
theorem chk60 : chk 100 6000 = true := by decide +kernel
theorem chk61 : chk 100 6100 = true := by decide +kernel
theorem chk62 : chk 100 6200 = true := by decide +kernel
theorem chk63 : chk 100 6300 = true := by decide +kernel
theorem chk64 : chk 100 6400 = true := by decide +kernel
theorem chk65 : chk 100 6500 = true := by decide +kernel
theorem chk66 : chk 100 6600 = true := by decide +kernel
theorem chk67 : chk 100 6700 = true := by decide +kernel
theorem chk68 : chk 100 6800 = true := by decide +kernel
theorem chk69 : chk 100 6900 = true := by decide +kernel
theorem chk70 : chk 100 7000 = true := by decide +kernel
theorem chk71 : chk 100 7100 = true := by decide +kernel
theorem chk72 : chk 100 7200 = true := by decide +kernel
theorem chk73 : chk 100 7300 = true := by decide +kernel
theorem chk74 : chk 100 7400 = true := by decide +kernel
theorem chk75 : chk 100 7500 = true := by decide +kernel
theorem chk76 : chk 100 7600 = true := by decide +kernel
theorem chk77 : chk 100 7700 = true := by decide +kernel
theorem chk78 : chk 100 7800 = true := by decide +kernel
theorem chk79 : chk 100 7900 = true := by decide +kernel
theorem chk80 : chk 100 8000 = true := by decide +kernel
theorem chk81 : chk 100 8100 = true := by decide +kernel
theorem chk82 : chk 100 8200 = true := by decide +kernel
theorem chk83 : chk 100 8300 = true := by decide +kernel
theorem chk84 : chk 100 8400 = true := by decide +kernel
theorem chk85 : chk 100 8500 = true := by decide +kernel
theorem chk86 : chk 100 8600 = true := by decide +kernel
theorem chk87 : chk 100 8700 = true := by decide +kernel
theorem chk88 : chk 100 8800 = true := by decide +kernel
theorem chk89 : chk 100 8900 = true := by decide +kernel
theorem chk90 : chk 100 9000 = true := by decide +kernel
theorem chk91 : chk 100 9100 = true := by decide +kernel
theorem chk92 : chk 100 9200 = true := by decide +kernel
theorem chk93 : chk 100 9300 = true := by decide +kernel
theorem chk94 : chk 100 9400 = true := by decide +kernel
theorem chk95 : chk 100 9500 = true := by decide +kernel
theorem chk96 : chk 100 9600 = true := by decide +kernel
theorem chk97 : chk 100 9700 = true := by decide +kernel
theorem chk98 : chk 100 9800 = true := by decide +kernel
theorem chk99 : chk 100 9900 = true := by decide +kernel
theorem chk_all : ∀ c, c < 100 → chk 100 (c * 100) = true := fun c hc => match c, hc with
  | 0, _ => chk0
  | 1, _ => chk1
  | 2, _ => chk2
  | 3, _ => chk3
  | 4, _ => chk4
  | 5, _ => chk5
  | 6, _ => chk6
  | 7, _ => chk7
  | 8, _ => chk8
  | 9, _ => chk9
  | 10, _ => chk10
  | 11, _ => chk11
  | 12, _ => chk12
  | 13, _ => chk13
  | 14, _ => chk14
  | 15, _ => chk15
  | 16, _ => chk16
  | 17, _ => chk17
  | 18, _ => chk18
  | 19, _ => chk19
  | 20, _ => chk20
  | 21, _ => chk21
  | 22, _ => chk22
  | 23, _ => chk23
  | 24, _ => chk24
  | 25, _ => chk25
  | 26, _ => chk26
  | 27, _ => chk27
  | 28, _ => chk28
  | 29, _ => chk29
  | 30, _ => chk30
  | 31, _ => chk31
  | 32, _ => chk32
  | 33, _ => chk33
  | 34, _ => chk34
  | 35, _ => chk35
  | 36, _ => chk36
  | 37, _ => chk37
  | 38, _ => chk38
  | 39, _ => chk39
  | 40, _ => chk40
  | 41, _ => chk41
  | 42, _ => chk42
  | 43, _ => chk43
  | 44, _ => chk44
  | 45, _ => chk45
  | 46, _ => chk46
  | 47, _ => chk47
  | 48, _ => chk48
  | 49, _ => chk49
  | 50, _ => chk50
  | 51, _ => chk51
  | 52, _ => chk52
  | 53, _ => chk53
  | 54, _ => chk54
  | 55, _ => chk55
  | 56, _ => chk56
  | 57, _ => chk57
  | 58, _ => chk58
  | 59, _ => chk59
  | 60, _ => chk60
  | 61, _ => chk61
  | 62, _ => chk62
  | 63, _ => chk63
  | 64, _ => chk64
  | 65, _ => chk65
  | 66, _ => chk66
  | 67, _ => chk67
  | 68, _ => chk68
  | 69, _ => chk69
  | 70, _ => chk70
  | 71, _ => chk71
  | 72, _ => chk72
  | 73, _ => chk73
  | 74, _ => chk74
  | 75, _ => chk75
  | 76, _ => chk76
  | 77, _ => chk77
  | 78, _ => chk78
  | 79, _ => chk79
  | 80, _ => chk80
  | 81, _ => chk81
  | 82, _ => chk82
  | 83, _ => chk83
  | 84, _ => chk84
  | 85, _ => chk85
  | 86, _ => chk86
  | 87, _ => chk87
  | 88, _ => chk88
  | 89, _ => chk89
  | 90, _ => chk90
  | 91, _ => chk91
  | 92, _ => chk92
  | 93, _ => chk93
  | 94, _ => chk94
  | 95, _ => chk95
  | 96, _ => chk96
  | 97, _ => chk97
  | 98, _ => chk98
  | 99, _ => chk99
  | n + 100, h => absurd h (by omega)
theorem root_ok (n : Nat) (h : n < 9974) : Float64.isqrt n * Float64.isqrt n ≤ n ∧ n < (Float64.isqrt n + 1) * (Float64.isqrt n + 1) := by
  have e : rt n = true := chk_at (chk_all (n / 100) (by omega)) (by omega) (by omega)
  obtain ⟨h1, h2⟩ := Bool.and_eq_true_iff.mp e
  exact ⟨Nat.le_of_ble_eq_true h1, by simpa [Nat.blt_eq] using h2⟩
theorem root_le {n d : Nat} (h : n < 9974) : d ≤ Float64.isqrt n ↔ d * d ≤ n := by
  obtain ⟨h1, h2⟩ := root_ok n h
  constructor
  · intro e
    exact Nat.le_trans (Nat.mul_le_mul e e) h1
  · intro e
    refine Nat.le_of_not_lt fun c => ?_
    have := Nat.mul_le_mul (Nat.succ_le_of_lt c) (Nat.succ_le_of_lt c)
    simp only [Nat.succ_eq_add_one] at this
    omega
theorem sq_lt {n d : Nat} (h : n < 9974) (e : d * d ≤ n) : d < 100 := by
  refine Nat.lt_of_not_le fun c => ?_
  have := Nat.mul_le_mul c c
  omega
theorem isP_no {n d : Nat} (h2 : 2 ≤ d) (hn : n < 9974) (hs : d * d ≤ n) (hm : n % d = 0) : isP n = false := by
  cases e : isP n with
  | false => rfl
  | true =>
    have q := List.all_eq_true.mp e d (List.mem_range.mpr (sq_lt hn hs))
    simp [h2, hs, hm] at q
theorem isP_yes {n : Nat} (h : ∀ d, 2 ≤ d → d * d ≤ n → n % d ≠ 0) : isP n = true := by
  refine List.all_eq_true.mpr fun d _ => ?_
  by_cases h2 : 2 ≤ d
  · by_cases hs : d * d ≤ n
    · simp [h2, hs, h d h2 hs]
    · simp [hs]
  · simp [h2]
theorem isP_at {n d : Nat} (h : isP n = true) (h2 : 2 ≤ d) (hn : n < 9974) (hs : d * d ≤ n) : n % d ≠ 0 := fun e => by
  rw [isP_no h2 hn hs e] at h
  cases h
def rRoot : List V → Hp → VK → Prop := fun vs H Q => ∃ a : Nat, vs = [.int (a : Int)] ∧ a < 2 ^ 64 ∧ Q (.int ((Float64.isqrt a : Nat) : Int)) H
theorem cr_root {X : Cx} : CallR X (.builtin "math.isqrt") rRoot := by
  intro pins s σ H vs us Q I r h
  obtain ⟨a, rfl, ha, q⟩ := h
  cases r with
  | @cons _ u _ _ r1 r2 =>
    cases r2
    obtain ⟨t, rfl⟩ := (show ∃ t, u = Value.int (a : Int) t from r1)
    exact PySem.W.mg_isqrt (by omega) (by omega) ⟨.int ((Float64.isqrt a : Nat) : Int), H, I.tok _, ⟨s.toks, by rw [Int.toNat_natCast]⟩, q⟩
structure RTx (mg : Str → Option Value) : Prop where
  g_isqrt : mg "isqrt" = some (.builtin "math.isqrt")
  b_range : mg "range" = none
def spPrime : Sp := fun vs H Q _ => ∃ n : Nat, vs = [.int (n : Int)] ∧ n < 9974 ∧ Q (.bl (isP n)) H
section
variable {P : Program} {w : World} {K : PySem.W.Frag} {mg : Str → Option Value} {base : Heap}
theorem sc_isprime : FnScope ["count", "divisor"] ["count"] (defScope s_isprime) := ⟨rfl, rfl, rfl, by decide +kernel, rfl, by decide +kernel, by decide +kernel⟩
theorem ok_isprime {f : Addr} {fd : FuncData} (F : Fun K "_is_prime" "_is_prime" s_isprime f fd) (T : RTx mg) : FnOk P w K mg base CX0 1 f fd ["count"] spPrime := by
  refine F.ok sc_isprime (fun vs H Q E h => ?_) (fun cdv A outer s H vs Q E hr h => ?_)
  · obtain ⟨x, rfl, _⟩ := h
    rfl
  · obtain ⟨n, rfl, hn, k⟩ := h
    refine ⟨_, pss_cons (ps_for PassesOwn.never rfl (pi_range2 (by rfl) T.b_range (pa_cons pe_int (pa_cons (pe_op op_add (pe_callBfun cr_root (by rfl) T.g_isqrt (pa_cons (pv 0) pa_nil)) pe_int) pa_nil))) (pg_name (i := 1) sc_isprime.nd rfl (Or.inl rfl)) (pss_one (ps_if (pt_cmpR op_eq (pe_op op_mod (pv 0) (pv 1)) pe_int (nomark _)) (pss_one (ps_ret pe_bl)) pss_nil)))
      (pss_one (ps_ret pe_bl)), ?_⟩
    have r99 : Float64.isqrt n < 100 := sq_lt hn (root_ok n hn).1
    refine ⟨_, rfl, n, rfl, by omega, _, _, rfl, rfl, _, _, rfl, by omega, ?_⟩
    refine for_range (lo := 2) (n := (((Float64.isqrt n : Nat) : Int) + 1 - 2).toNat) (fun i σ H' => ∃ z, σ = [some (.int (n : Int)), z] ∧ H' = H ∧ ∀ d, 2 ≤ d → d < 2 + i → n % d ≠ 0) ⟨none, rfl, rfl, fun d h1 h2 => by omega⟩ ?_ ?_
    · rintro i σ H2 hi ⟨z, rfl, rfl, hd⟩
      have hle : 2 + i ≤ Float64.isqrt n := by omega
      have em : ((n : Int) % ((2 : Int) + (i : Int))) = ((n % (2 + i) : Nat) : Int) := by
        rw [Int.natCast_emod]
        rfl
      refine ⟨_, rfl, _, rfl, _, _, rfl, rfl, by omega, rfl, _, rfl, ite2 (fun c => ?_) (fun c => ?_)⟩
      · have e0 : n % (2 + i) = 0 := by
          have q : ((n : Int) % ((2 : Int) + (i : Int))) = 0 := V.int.inj (of_decide_eq_true c)
          rw [em] at q
          omega
        rw [isP_no (by omega) hn ((root_le hn).mp hle) e0] at k
        exact k
      · refine ⟨_, rfl, rfl, fun d h1 h2 => ?_⟩
        by_cases e : d = 2 + i
        · subst e
          intro q
          refine c (decide_eq_true ?_)
          show V.int ((n : Int) % ((2 : Int) + (i : Int))) = V.int 0
          rw [em, q]
          rfl
        · exact hd d h1 (by omega)
    · rintro σ H2 ⟨z, rfl, rfl, hd⟩
      rw [isP_yes fun d h1 h2 => hd d h1 (by have := (root_le hn).mpr h2; omega)] at k
      exact k
def spInv : Sp := fun vs H Q _ => ∃ a p : Int, vs = [.int a, .int p] ∧ 1 ≤ a ∧ a < p ∧ p < 9974 ∧ Int.gcd p a = 1 ∧ ∀ r, 0 ≤ r → r < p → (∃ k, r * a = 1 + k * p) → ∀ H', Same H H' → Q (.int r) H'
theorem sc_inverse : FnScope ["number", "prime", "high", "low", "high_factor", "low_factor", "times"] ["number", "prime"] (defScope s_inverse) := ⟨rfl, rfl, rfl, by decide +kernel, rfl, by decide +kernel, by decide +kernel⟩
theorem ok_inverse {f : Addr} {fd : FuncData} (F : Fun K "_inverse" "_inverse" s_inverse f fd) : FnOk P w K mg base CX0 1 f fd ["number", "prime"] spInv := by
  refine F.ok sc_inverse (fun vs H Q E h => ?_) (fun cdv A outer s H vs Q E hr h => ?_)
  · obtain ⟨x, y, rfl, _⟩ := h
    rfl
  · obtain ⟨a, p, rfl, ha, hap, hp, hg, k⟩ := h
    refine ⟨_, (pss_cons (ps_par (i := 2) (j := 3) (by rfl) sc_inverse.nd rfl rfl (by decide) rfl rfl (pa_cons (pv 1) (pa_cons (pv 0) pa_nil)) (by rfl))
      (pss_cons (ps_asg (pe_tup (pa_cons pe_int (pa_cons pe_int pa_nil))) (pg_tup rfl (pgs_cons (pg_name (i := 4) sc_inverse.nd rfl (Or.inl rfl)) (pgs_cons (pg_name (i := 5) sc_inverse.nd rfl (Or.inl rfl)) pgs_nil))))
      (pss_cons (ps_while PassesOwn.never (pt_cmpR op_gt (pv 3) pe_int (nomark _)) (pss_cons (ps_set (i := 6) sc_inverse.nd rfl (Or.inl rfl) (pe_op op_fdiv (pv 2) (pv 3)))
      (pss_cons (ps_par (i := 2) (j := 3) (by rfl) sc_inverse.nd rfl rfl (by decide) rfl rfl (pa_cons (pv 3) (pa_cons (pe_op op_sub (pv 2) (pe_op op_mul (pv 6) (pv 3))) pa_nil)) (by rfl))
      (pss_one (ps_par (i := 4) (j := 5) (by rfl) sc_inverse.nd rfl rfl (by decide) rfl rfl (pa_cons (pv 5) (pa_cons (pe_op op_sub (pv 4) (pe_op op_mul (pv 6) (pv 5))) pa_nil)) (by rfl))))))
      (pss_one (ps_ret (pe_op op_mod (pv 5) (pv 1))))))), ?_⟩
    refine ⟨_, rfl, _, rfl, _, _, rfl, (by show 2 ≤ sizeLine; decide), fun q hq => ⟨q, _, rfl, .inl (.inl upd_same), rfl, _, _, rfl, _, _, rfl, rfl, ?_⟩⟩
    have s0 : Same H (upd H q (.tup [.int 0, .int 1])) := same_new (Same.refl _) hq
    refine while_by (fun σ H' => ∃ (x l xf lf : Int) (z : Option V) (s u v : Int), σ = [some (.int a), some (.int p), some (.int x), some (.int l), some (.int xf), some (.int lf), z] ∧ Same H H' ∧ 1 ≤ l ∧ l < x ∧ x ≤ p ∧ Int.gcd x l = 1 ∧ (∃ k, xf * a = x + k * p) ∧ (∃ k, lf * a = l + k * p) ∧
      (s = 1 ∨ s = -1) ∧ 0 ≤ u ∧ 0 ≤ v ∧ xf = -s * u ∧ lf = s * v ∧ x * v + l * u = p) (fun σ _ => match σ with | [_, _, _, some (.int l), _, _, _] => l.natAbs | _ => 0) ⟨p, a, 0, 1, none, 1, 0, 1, rfl, s0, ha, hap, Int.le_refl _, hg, ⟨-1, by omega⟩, ⟨0, by omega⟩, .inl rfl, by decide, by decide, rfl, rfl, by omega⟩ ?_ ?_
    · rintro σ H' ⟨x, l, xf, lf, z, s, u, v, rfl, sH, h1, h2, h3, hg2, ⟨k1, e1⟩, ⟨k2, e2⟩, hs, hu, hv, ex, el, id⟩
      have hvp : v ≤ p := by
        have a1 : 1 * v ≤ x * v := Int.mul_le_mul_of_nonneg_right (by omega) hv
        have a2 : 0 ≤ l * u := Int.mul_nonneg (by omega) hu
        omega
      refine ⟨_, rfl, _, _, rfl, rfl, _, rfl, ?_⟩
      refine ite2 (fun c => ?_) (fun c => ?_)
      · have l1 : 1 < l := of_decide_eq_true c
        have d1 : x / l * l ≤ x := Int.ediv_mul_le x (by omega)
        have t0 : 0 ≤ x / l := Int.ediv_nonneg (by omega) (by omega)
        have tx : x / l ≤ x := Int.ediv_le_self _ (by omega)
        have dm := Int.emod_add_mul_ediv x l
        have m0 := Int.emod_nonneg x (b := l) (by omega)
        have m1 := Int.emod_lt_of_pos x (b := l) (by omega)
        have er : x - x / l * l = x % l := by
          have e := Int.emod_def x l
          rw [Int.mul_comm] at e
          exact e.symm
        have gr : Int.gcd l (x % l) = 1 := by
          rw [← Int.fmod_eq_emod_of_nonneg x (by omega), gcd_fmod]
          exact hg2
        have mn : 1 ≤ x % l := by
          rcases (show x % l = 0 ∨ 1 ≤ x % l from by omega) with e | e
          · rw [e] at gr
            simp at gr
            omega
          · exact e
        have lfb : -(2 ^ 64) < lf ∧ lf < 2 ^ 64 := by rcases hs with rfl | rfl <;> omega
        refine ⟨_, rfl, _, rfl, _, _, rfl, rfl, ⟨by omega, by omega⟩, ?_⟩
        refine ⟨_, rfl, _, rfl, _, rfl, _, rfl, _, _, rfl, rfl, .inl ⟨by omega, by omega⟩, _, _, rfl, rfl, _, _, rfl, ?_⟩
        refine ⟨_, rfl, _, rfl, _, rfl, _, rfl, _, _, rfl, rfl, .inl ⟨by omega, by omega⟩, _, _, rfl, rfl, _, _, rfl, ?_⟩
        refine ⟨⟨l, x - x / l * l, lf, xf - x / l * lf, some (.int (x / l)), -s, v, u + x / l * v, rfl, sH, by omega, by omega, by omega, by rw [er]; exact gr, ⟨k2, e2⟩, ⟨k1 - x / l * k2, ?_⟩, by omega, hv, ?_, ?_, ?_, ?_⟩, ?_⟩
        · generalize x / l = t at *
          grind
        · have := Int.mul_nonneg t0 hv
          omega
        · rw [el]
          grind
        · rw [ex, el]
          generalize x / l = t at *
          grind
        · generalize x / l = t at *
          grind
        · show (x - x / l * l).natAbs < l.natAbs
          omega
      · have l1 : l = 1 := by
          have := of_decide_eq_false (by simpa using c : decide (1 < l) = false)
          omega
        refine ⟨_, rfl, _, rfl, _, _, rfl, rfl, (show 0 < p from by omega), ?_⟩
        refine k (lf % p) (Int.emod_nonneg _ (by omega)) (Int.emod_lt_of_pos _ (by omega)) ?_ H' sH
        have dm := Int.emod_def lf p
        refine ⟨k2 - lf / p * a, ?_⟩
        rw [dm]
        subst l1
        generalize lf / p = t at *
        grind
    · rintro σ H' Q1 Q2 hi c
      obtain ⟨v, e, x, y, e2, z, e3, c⟩ := c
      exact ⟨v, e, x, y, e2, z, e3, c.1, hi _ _ c.2⟩
end
end Sq

namespace Sq
open PySem L2 PyProof.Rows
abbrev s_finit : Stmt := inClass (top 33) 0
abbrev s_feq : Stmt := inClass (top 33) 1
abbrev s_fnum : Stmt := inClass (top 33) 2
abbrev s_fover : Stmt := inClass (top 33) 3
def goodP (p : Int) : Bool := decide (p = 0) || (decide (2 ≤ p) && decide (p ≤ 9973) && isP p.toNat)
theorem goodP_pos {p : Int} (h : goodP p = true) (h0 : p ≠ 0) : 2 ≤ p ∧ p ≤ 9973 ∧ isP p.toNat = true := by
  unfold goodP at h
  simp [h0] at h
  exact ⟨h.1.1, h.1.2, h.2⟩
theorem gcd_prime {p a : Int} (h2 : 2 ≤ p) (hp : p ≤ 9973) (h : isP p.toNat = true) (h1 : 1 ≤ a) (ha : a < p) : Int.gcd p a = 1 := by
  have dp : Int.gcd p a ∣ p.natAbs := Int.gcd_dvd_natAbs_left ..
  have da : Int.gcd p a ∣ a.natAbs := Int.gcd_dvd_natAbs_right ..
  generalize Int.gcd p a = g at *
  have pn : p.toNat = p.natAbs := by omega
  rw [pn] at h
  have ga : g ≤ a.natAbs := Nat.le_of_dvd (by omega) da
  obtain ⟨q, hq⟩ := dp
  have g0 : g ≠ 0 := fun e => by
    rw [e, Nat.zero_mul] at hq
    omega
  have q0 : q ≠ 0 := fun e => by
    rw [e, Nat.mul_zero] at hq
    omega
  have q1 : q ≠ 1 := fun e => by
    rw [e, Nat.mul_one] at hq
    omega
  by_cases g1 : g = 1
  · exact g1
  · exfalso
    rcases Nat.le_total g q with l | l
    · have := Nat.mul_le_mul (Nat.le_refl g) l
      exact isP_at h (d := g) (by omega) (by omega) (by omega) (by rw [hq]; exact Nat.mul_mod_right _ _)
    · have := Nat.mul_le_mul l (Nat.le_refl q)
      exact isP_at h (d := q) (by omega) (by omega) (by omega) (by rw [hq]; exact Nat.mul_mod_left _ _)
def pfl (p : Int) : List (Str × V) := putF "prime" (.int p) []
theorem pf_prime (p : Int) : (pfl p).lookup ("prime" : Str) = some (.int p) := by
  unfold pfl
  rw [lookup_putF, if_pos rfl]
theorem pf_no (p : Int) {m : Str} (h1 : ¬ m = "prime") : (pfl p).lookup m = none := by
  unfold pfl
  rw [lookup_putF, if_neg h1]
  rfl
def FldAt (CF : Addr) (H : Hp) (x : Addr) (p : Int) : Prop := ∃ dx, H x = some (.ins CF dx (pfl p))
theorem FldAt.same {C : Addr} {H H' : Hp} {x : Addr} {p : Int} (s : Same H H') (h : FldAt C H x p) : FldAt C H' x p := by
  obtain ⟨dx, h⟩ := h
  exact ⟨dx, s _ _ h⟩
structure FTx (K : PySem.W.Frag) (CF : Addr) : Prop where
  cl : Cls K CF
  nP : NoAttr K CF "prime"
/-- an own error without an __init__ that is raised -/
structure RNx (K : PySem.W.Frag) (mg : Str → Option Value) (x : Str) (CN : Addr) : Prop where
  q : PySem.W.excIn K CN [.type "ValueError", .type "Exception", .type "BaseException", .type "object"] "ValueError.__new__" = true
  m : mg x = some (.ref CN)
  k : PySem.W.keepIn K (.ref CN) = true
  ex : PySem.W.subIn K (.ref CN) (.type "BaseException") = some true
  ty : PySem.W.typeIn K (.ref CN) = some (.type "type")
theorem itD {c : Prop} [Decidable c] {a b : Prop} (h : c) (x : a) : ite c a b := by
  rw [if_pos h]
  exact x
theorem itDn {c : Prop} [Decidable c] {a b : Prop} (h : ¬ c) (x : b) : ite c a b := by
  rw [if_neg h]
  exact x
def spFieldInit (K : PySem.W.Frag) (CF CNF : Addr) : Sp := fun vs H Q E => ∃ (x dx : Addr) (v : V), vs = [.ref x, v] ∧ H x = some (.ins CF dx []) ∧ IsTy K H v ∧ ((∀ p, v = .int p → goodP p = false) → E (.ref CNF) none H) ∧
  (∀ p, v = .int p → goodP p = true → ∀ H', FldAt CF H' x p → But x H H' → Q .non H')
section
variable {P : Program} {w : World} {K : PySem.W.Frag} {mg : Str → Option Value} {base : Heap}
theorem sc_finit : FnScope ["self", "prime"] ["self", "prime"] (defScope s_finit) := ⟨rfl, rfl, rfl, by decide +kernel, rfl, by decide +kernel, by decide +kernel⟩
theorem ok_finit {f CF CNF fI fP : Addr} {fd fdI fdP : FuncData} {tk : Tok} (F : FunD K "__init__" "Field.__init__" (defArgs s_finit) (defBody s_finit) (defScope s_finit) [.int 0] [] f fd) (TF : FTx K CF) (RN : RNx K mg "NoField" CNF) (GP : mg "GREATEST_PRIME" = some (.int 9973 tk))
    (G_I : FnOk P w K mg base CX0 1 fI fdI ["value"] (spIsInt K)) (m_I : mg "is_an_integer" = some (.ref fI)) (k_I : PySem.W.keepIn K (.ref fI) = true) (b_I : Binds K fdI ["value"] [])
    (G_P : FnOk P w K mg base CX0 1 fP fdP ["count"] spPrime) (m_P : mg "_is_prime" = some (.ref fP)) (k_P : PySem.W.keepIn K (.ref fP) = true) (b_P : Binds K fdP ["count"] []) :
    FnOk P w K mg base (L2.CX P w) 2 f fd ["self", "prime"] (spFieldInit K CF CNF) := by
  refine F.ok sc_finit (fun vs H Q E h => ?_) (fun cdv A outer s H vs Q E hr h => ?_)
  · obtain ⟨x, dx, v, rfl, _⟩ := h
    rfl
  · obtain ⟨x, dx, v, rfl, hx, tv, kE, kQ⟩ := h
    refine ⟨_, (pss_cons (ps_if (pt_not (pt_val (pe_call G_I (hr.mono (by decide)) rfl m_I k_I b_I .nil pass0 (pa_cons (pv 1) pa_nil))))
        (pss_one (ps_raise rfl (takes_of rfl rfl rfl rfl) (pmk_own0 PySem.F.excBase_ValueError RN.q RN.m RN.k (raises_own RN.ex RN.ty) rfl)))
        pss_nil)
      (pss_cons (ps_if (PW.pt (pw_and (pt_cmpR op_ne (pv 1) pe_int (nomark _)) (pw_and1 (pt_not (PW.pt (pw_and (pt_chain op_le op_le pe_int (pv 1) (pe_glob (v := .int 9973) rfl GP ⟨_, rfl⟩)) (pw_and1 (pt_val (pe_call G_P (hr.mono (by decide)) rfl m_P k_P b_P .nil pass0 (pa_cons (pv 1) pa_nil))))))))))
        (pss_one (ps_raise rfl (takes_of rfl rfl rfl rfl) (pmk_own0 PySem.F.excBase_ValueError RN.q RN.m RN.k (raises_own RN.ex RN.ty) rfl)))
        pss_nil)
      (pss_one (ps_fld (pv 0) (pv 1) rfl)))), ?_⟩
    refine ⟨_, rfl, v, rfl, tv, _, rfl, ?_⟩
    cases ev : isI v with
    | false => exact iteT (kE fun p e => by rw [e] at ev; cases ev)
    | true =>
      obtain ⟨p, rfl⟩ := isI_int ev
      refine iteF ⟨_, rfl, rfl, _, rfl, ?_⟩
      have fin : goodP p = true → _ := fun hg => kQ p rfl hg (upd H x (.ins CF dx (pfl p))) ⟨dx, upd_same⟩ (But.refl x _).upd
      have sets : ∀ {Q' : Hp → Prop}, Q' (upd H x (.ins CF dx (pfl p))) → Q' (upd H x (.ins CF dx (putF "prime" (.int p) []))) := fun h => h
      by_cases p0 : p = 0
      · subst p0
        refine itDn (by simp) ?_
        exact ⟨_, rfl, _, rfl, x, CF, dx, [], rfl, hx, TF.cl, TF.nP, (by show 0 < 1000; decide), fin (by decide)⟩
      · refine itD (by simpa using p0) ?_
        refine ⟨_, rfl, _, _, rfl, rfl, _, rfl, ?_⟩
        by_cases c2 : 2 ≤ p
        · refine itD (by simpa using c2) ⟨_, _, rfl, rfl, _, rfl, ?_⟩
          by_cases c3 : p ≤ 9973
          · refine itD (by simpa using c3) ?_
            refine ⟨_, rfl, p.toNat, (by rw [Int.toNat_of_nonneg (by omega)]; rfl), by omega, _, rfl, ?_⟩
            cases hp : isP p.toNat with
            | true =>
              refine itDn (by decide) ?_
              exact ⟨_, rfl, _, rfl, x, CF, dx, [], rfl, hx, TF.cl, TF.nP, (by show 0 < 1000; decide), fin (by unfold goodP; simp [c2, c3, hp])⟩
            | false =>
              refine itD rfl ?_
              exact kE fun p2 e => by cases e; unfold goodP; simp [p0, hp]
          · exact itDn (by simpa using c3) (kE fun p' e => by cases e; unfold goodP; simp [p0, c3])
        · exact itDn (by simpa using c2) ⟨_, rfl, itDn (by decide) (kE fun p' e => by cases e; unfold goodP; simp [p0, c2])⟩
end
end Sq

namespace Sq
open PySem L2 PyProof.Rows
/-- whether y is a number -/
def NmTy (K : PySem.W.Frag) (C : Addr) (H : Hp) (y : V) (r : Bool) : Prop := ∃ (t : Value) (b : Bool), TyX K H y t ∧ PySem.W.kitOne K t (.ref C) = some b ∧ IsTy K H y ∧ (b || isI y) = r
def spNumI (C CF : Addr) : Sp := fun vs H Q _ => ∃ (x : Addr) (v p : Int), vs = [.ref x, .int v] ∧ FldAt CF H x p ∧ goodP p = true ∧ v.natAbs < 2 ^ 8000 ∧ (p = 0 → ∀ z H', RatAt C H' z v 1 → Same H H' → Q (.ref z) H') ∧ (p ≠ 0 → Q (.int (v % p)) H)
def spOverI (CF CNN : Addr) : Sp := fun vs H Q E => ∃ (x : Addr) (a b p : Int), vs = [.ref x, .int a, .int b] ∧ FldAt CF H x p ∧ goodP p = true ∧ p ≠ 0 ∧ a.natAbs < 2 ^ 8000 ∧ b.natAbs < 2 ^ 8000 ∧ (b % p = 0 → E (.ref CNN) none H) ∧
  (b % p ≠ 0 → ∀ r H', 0 ≤ r → r < p → (∃ k, r * b = a + k * p) → Same H H' → Q (.int r) H')
/-- the number of the field p that t / u is, or none -/
def spNum (K : PySem.W.Frag) (C CF CNN : Addr) : Sp := fun vs H Q E => ∃ (x : Addr) (y : V) (p : Int), vs = [.ref x, y] ∧ FldAt CF H x p ∧ goodP p = true ∧
  ((NmTy K C H y false ∧ E (.ref CNN) none H) ∨ ∃ t u, NumAt C H y t u ∧ 1 ≤ u ∧ t.natAbs < 2 ^ 8000 ∧ u.natAbs < 2 ^ 8000 ∧
    (p = 0 → ∀ z H', RatAt C H' z t u → Same H H' → Q (.ref z) H') ∧
    (p ≠ 0 → u % p = 0 → E (.ref CNN) none H) ∧
    (p ≠ 0 → u % p ≠ 0 → ∀ r H', 0 ≤ r → r < p → (∃ k, r * u = t + k * p) → Same H H' → Q (.int r) H'))
section
variable {P : Program} {w : World} {K : PySem.W.Frag} {mg : Str → Option Value} {base : Heap}
theorem sc_fnum : FnScope ["self", "value"] ["self", "value"] (defScope s_fnum) := ⟨rfl, rfl, rfl, by decide +kernel, rfl, by decide +kernel, by decide +kernel⟩
theorem ok_numI {f C CF CNN fN fA : Addr} {fd fdN fdA : FuncData} (F : Fun K "number" "Field.number" s_fnum f fd) (T : CTx K C) (TF : FTx K CF) (Z : KZx K C) (B : ITx mg) (m_C : mg "Ratio" = some (.ref C)) (RN : RNx K mg "NoNumber" CNN)
    (G_N : FnOk P w K mg base CX0 2 fN fdN ["value"] (spIsNum K C)) (m_N : mg "is_number" = some (.ref fN)) (k_N : PySem.W.keepIn K (.ref fN) = true) (b_N : Binds K fdN ["value"] [])
    (G_A : FnOk P w K mg base CX0 5 fA fdA ["number"] (spAsRatio C)) (m_A : mg "as_ratio" = some (.ref fA)) (k_A : PySem.W.keepIn K (.ref fA) = true) (b_A : Binds K fdA ["number"] []) :
    FnOk P w K mg base (L2.CX P w) 6 f fd ["self", "value"] (spNumI C CF) := by
  refine F.okX sc_fnum (fun vs H Q E h => ?_) (fun cdv A outer s H vs Q E hr h => ?_)
  · obtain ⟨x, v, p, rfl, _⟩ := h
    rfl
  · obtain ⟨x, v, p, rfl, hx, hg, sv, k0, kp⟩ := h
    refine ⟨_, (pss_cons (ps_if (pt_not (pt_val (pe_call G_N (hr.mono (by decide)) rfl m_N k_N b_N .nil pass0 (pa_cons (pv 1) pa_nil))))
        (pss_one (ps_raise rfl (takes_of rfl rfl rfl rfl) (pmk_own0 PySem.F.excBase_ValueError RN.q RN.m RN.k (raises_own RN.ex RN.ty) rfl)))
        pss_nil)
      (pss_cons (ps_if (pt_cmpR op_eq (pe_fld (pv 0) rfl) pe_int (nomark _))
        (pss_one (ps_ret (pe_call G_A (hr.mono (by decide)) rfl m_A k_A b_A .nil pass0 (pa_cons (pv 1) pa_nil))))
        pss_nil)
      (pss_cons (ps_if (pt_val (pe_callB call_isi (by rfl) B.b_isinstance (by decide +kernel) (pa_cons (pv 1) (pa_cons (pe_glob (v := .ref C) rfl m_C rfl) pa_nil))))
        (pss_one ps_never)
        pss_nil)
      (pss_one (ps_ret (pe_op op_mod (pv 1) (pe_fld (pv 0) rfl))))))), ?_⟩
    obtain ⟨dx, hx0⟩ := id hx
    refine ⟨_, rfl, .int v, .type "int", false, rfl, .base (.int _), Z.kint, .int _, _, rfl, iteF ?_⟩
    refine ⟨_, rfl, x, CF, dx, _, _, rfl, hx0, TF.cl, TF.nP, pf_prime _, rfl, _, rfl, ?_⟩
    by_cases p0 : p = 0
    · refine itD (by simpa using p0) ?_
      exact ⟨_, rfl, .int v, v, 1, rfl, .inr ⟨rfl, rfl⟩, sv, fun r H1 hr1 s1 => k0 p0 r H1 hr1 s1⟩
    · refine itDn (by simpa using p0) ?_
      refine ⟨_, rfl, _, _, _, _, false, rfl, .own C, .base (.int _), Z.kint, _, rfl, iteF ?_⟩
      obtain ⟨p2, _, _⟩ := goodP_pos hg p0
      exact ⟨_, rfl, _, rfl, x, CF, dx, _, _, rfl, hx0, TF.cl, TF.nP, pf_prime _, _, _, rfl, rfl, (show 0 < p from by omega), kp p0⟩
theorem sc_fover : FnScope ["self", "one", "other", "top", "bottom"] ["self", "one", "other"] (defScope s_fover) := ⟨rfl, rfl, rfl, by decide +kernel, rfl, by decide +kernel, by decide +kernel⟩
theorem ok_overI {f C CF CNN fnum finv : Addr} {fd fdnum fdinv : FuncData} (F : Fun K "over" "Field.over" s_fover f fd) (TF : FTx K CF) (RN : RNx K mg "NoNumber" CNN)
    (Me_num : Meth K CF "number" fnum) (G_num : FnOk P w K mg base (L2.CX P w) 6 fnum fdnum ["self", "value"] (spNumI C CF)) (b_num : Binds K fdnum ["self", "value"] [])
    (G_inv : FnOk P w K mg base CX0 1 finv fdinv ["number", "prime"] spInv) (m_inv : mg "_inverse" = some (.ref finv)) (k_inv : PySem.W.keepIn K (.ref finv) = true) (b_inv : Binds K fdinv ["number", "prime"] []) :
    FnOk P w K mg base (L2.CX P w) 7 f fd ["self", "one", "other"] (spOverI CF CNN) := by
  refine F.okX sc_fover (fun vs H Q E h => ?_) (fun cdv A outer s H vs Q E hr h => ?_)
  · obtain ⟨x, a, b, p, rfl, _⟩ := h
    rfl
  · obtain ⟨x, a, b, p, rfl, hx, hg, p0, sa, sb, kE, k⟩ := h
    refine ⟨_, (pss_cons (ps_set (i := 3) sc_fover.nd rfl (Or.inl rfl) (pe_meth (E := E) (pv 0) TF.cl Me_num G_num (hr.mono (by decide)) b_num .nil (passes_call (takes_of rfl rfl rfl rfl) fun _ _ _ _ h => h) (pa_cons (pv 1) pa_nil)))
      (pss_cons (ps_set (i := 4) sc_fover.nd rfl (Or.inl rfl) (pe_meth (E := E) (pv 0) TF.cl Me_num G_num (hr.mono (by decide)) b_num .nil (passes_call (takes_of rfl rfl rfl rfl) fun _ _ _ _ h => h) (pa_cons (pv 2) pa_nil)))
      (pss_cons (ps_if (pt_cmpR op_eq (pv 4) pe_int (nomark _))
        (pss_one (ps_raise rfl (takes_of rfl rfl rfl rfl) (pmk_own0 PySem.F.excBase_ValueError RN.q RN.m RN.k (raises_own RN.ex RN.ty) rfl)))
        pss_nil)
      (pss_cons (ps_if (pt_cmpR op_eq (pe_fld (pv 0) rfl) pe_int (nomark _))
        (pss_one ps_never)
        pss_nil)
      (pss_one (ps_ret (pe_op op_mod (pe_op op_mul (pv 3) (pe_call G_inv (hr.mono (by decide)) rfl m_inv k_inv b_inv .nil pass0 (pa_cons (pv 4) (pa_cons (pe_fld (pv 0) rfl) pa_nil)))) (pe_fld (pv 0) rfl)))))))), ?_⟩
    obtain ⟨dx, hx0⟩ := id hx
    obtain ⟨p2, p3, hp⟩ := goodP_pos hg p0
    have a0 := Int.emod_nonneg a p0
    have a1 := Int.emod_lt_of_pos a (show 0 < p from by omega)
    have b0 := Int.emod_nonneg b p0
    have b1 := Int.emod_lt_of_pos b (show 0 < p from by omega)
    refine ⟨_, rfl, x, dx, _, rfl, hx0, pf_no _ (by decide +kernel), _, rfl, x, a, p, rfl, hx, hg, sa, fun e => absurd e p0, fun _ => ?_⟩
    refine ⟨_, rfl, x, dx, _, rfl, hx0, pf_no _ (by decide +kernel), _, rfl, x, b, p, rfl, hx, hg, sb, fun e => absurd e p0, fun _ => ?_⟩
    refine ⟨_, rfl, rfl, _, rfl, ?_⟩
    by_cases z : b % p = 0
    · refine itD (by simpa using z) ?_
      exact kE z
    · refine itDn (by simpa using z) ?_
      refine ⟨_, rfl, x, CF, dx, _, _, rfl, hx0, TF.cl, TF.nP, pf_prime _, rfl, _, rfl, itDn (by simpa using p0) ?_⟩
      refine ⟨_, rfl, _, rfl, _, rfl, x, CF, dx, _, _, rfl, hx0, TF.cl, TF.nP, pf_prime _, b % p, p, rfl, by omega, b1, by omega, gcd_prime p2 p3 hp (by omega) b1, fun r r0 r1 ⟨q, hq⟩ H1 s1 => ?_⟩
      refine ⟨_, _, rfl, rfl, .inl ⟨by omega, by omega⟩, _, rfl, x, CF, dx, _, _, rfl, s1 _ _ hx0, TF.cl, TF.nP, pf_prime _, _, _, rfl, rfl, (show 0 < p from by omega), ?_⟩
      refine k z _ H1 (Int.emod_nonneg _ p0) (Int.emod_lt_of_pos _ (by omega)) ?_ s1
      have da := Int.emod_def a p
      have db := Int.emod_def b p
      have dm := Int.emod_def (a % p * r) p
      generalize a % p * r / p = e1 at *
      generalize a / p = e2 at *
      generalize b / p = e3 at *
      generalize a % p = a' at *
      generalize b % p = b' at *
      refine ⟨a' * q + a' * r * e3 - e1 * b - e2, ?_⟩
      rw [dm]
      grind
end
end Sq

namespace Sq
open PySem L2 PyProof.Rows
theorem tyX_same {K : PySem.W.Frag} {H H' : Hp} {x : V} {t : Value} (s : Same H H') (ty : TyX K H x t) : TyX K H' x t := by
  cases ty with
  | base b =>
    refine .base ?_
    cases b with
    | non => exact .non
    | bl => exact .bl _
    | int => exact .int _
    | str => exact .str _
    | flt => exact .flt _
    | lst e => exact .lst (s _ _ e)
    | frz e => exact .frz (s _ _ e)
    | tup e => exact .tup (s _ _ e)
    | dK e => exact .dK (s _ _ e)
    | dT e => exact .dT (s _ _ e)
    | ins e c1 c2 c3 c4 c5 => exact .ins (s _ _ e) c1 c2 c3 c4 c5
  | byt => exact .byt _
  | set e => exact .set (s _ _ e)
  | kList e c => exact .kList e c
  | kTuple e c => exact .kTuple e c
  | kDict e c => exact .kDict e c
  | fTuple e => exact .fTuple (s _ _ e)
  | fDict e => exact .fDict (s _ _ e)
theorem NmTy.same {K : PySem.W.Frag} {C : Addr} {H H' : Hp} {y : V} {r : Bool} (s : Same H H') (h : NmTy K C H y r) : NmTy K C H' y r := by
  obtain ⟨t, b, ty, kb, it, e⟩ := h
  exact ⟨t, b, tyX_same s ty, kb, it.same s, e⟩
def spOver (K : PySem.W.Frag) (C CF CNN : Addr) : Sp := fun vs H Q E => ∃ (x : Addr) (y1 y2 : V) (p : Int), vs = [.ref x, y1, y2] ∧ FldAt CF H x p ∧ goodP p = true ∧
  ((NmTy K C H y1 false ∧ E (.ref CNN) none H) ∨ ∃ t u, NumAt C H y1 t u ∧ 1 ≤ u ∧ Fit t ∧ Fit u ∧
    (p ≠ 0 → u % p = 0 → E (.ref CNN) none H) ∧
    (¬ (p ≠ 0 ∧ u % p = 0) → (NmTy K C H y2 false ∧ ∀ H1, Same H H1 → E (.ref CNN) none H1) ∨ ∃ t' u', NumAt C H y2 t' u' ∧ 1 ≤ u' ∧ Int.gcd t' u' = 1 ∧ Fit t' ∧ Fit u' ∧
      (p = 0 → (t' = 0 → ∀ H1, Same H H1 → E (.ref CNN) none H1) ∧ (t' ≠ 0 → ∀ z T U H', Low (t * u') (u * t') T U → RatAt C H' z T U → Same H H' → Q (.ref z) H')) ∧
      (p ≠ 0 → u' % p = 0 → ∀ H1, Same H H1 → E (.ref CNN) none H1) ∧
      (p ≠ 0 → u' % p ≠ 0 → t' % p = 0 → ∀ H1, Same H H1 → E (.ref CNN) none H1) ∧
      (p ≠ 0 → u' % p ≠ 0 → t' % p ≠ 0 → ∀ r H', 0 ≤ r → r < p → (∃ k, r * (u * t') = t * u' + k * p) → Same H H' → Q (.int r) H')))
theorem zero_mod {p r u t k : Int} (h2 : 2 ≤ p) (hp : p ≤ 9973) (hi : isP p.toNat = true) (hu : u % p ≠ 0) (r0 : 0 ≤ r) (r1 : r < p) (e : r * u = t + k * p) : r = 0 ↔ t % p = 0 := by
  constructor
  · intro z
    rw [z, Int.zero_mul] at e
    have : t = -k * p := by
      rw [Int.neg_mul]
      omega
    rw [this]
    exact Int.mul_emod_left ..
  · intro z
    by_cases c : r = 0
    · exact c
    · exfalso
      have g := gcd_prime h2 hp hi (show 1 ≤ r from by omega) r1
      have d : p ∣ r * u := by
        rw [e]
        exact Int.dvd_add (Int.dvd_of_emod_eq_zero z) (Int.dvd_mul_left ..)
      have dn : p.natAbs ∣ r.natAbs * u.natAbs := by
        rw [← Int.natAbs_mul]
        exact Int.natAbs_dvd_natAbs.mpr d
      have du : p.natAbs ∣ u.natAbs := Nat.Coprime.dvd_of_dvd_mul_left (show Nat.Coprime p.natAbs r.natAbs from g) dn
      exact hu (Int.emod_eq_zero_of_dvd (Int.natAbs_dvd_natAbs.mp du))
section
variable {P : Program} {w : World} {K : PySem.W.Frag} {mg : Str → Option Value} {base : Heap}
theorem ok_num {f C CF CNN fN fA fover : Addr} {fd fdN fdA fdover : FuncData} (F : Fun K "number" "Field.number" s_fnum f fd) (T : CTx K C) (TF : FTx K CF) (Y : ITy K C) (Z : KZx K C) (B : ITx mg) (m_C : mg "Ratio" = some (.ref C)) (RN : RNx K mg "NoNumber" CNN)
    (G_N : FnOk P w K mg base CX0 2 fN fdN ["value"] (spIsNum K C)) (m_N : mg "is_number" = some (.ref fN)) (k_N : PySem.W.keepIn K (.ref fN) = true) (b_N : Binds K fdN ["value"] [])
    (G_A : FnOk P w K mg base CX0 5 fA fdA ["number"] (spAsRatio C)) (m_A : mg "as_ratio" = some (.ref fA)) (k_A : PySem.W.keepIn K (.ref fA) = true) (b_A : Binds K fdA ["number"] [])
    (Me_over : Meth K CF "over" fover) (G_over : FnOk P w K mg base (L2.CX P w) 7 fover fdover ["self", "one", "other"] (spOverI CF CNN)) (b_over : Binds K fdover ["self", "one", "other"] []) :
    FnOk P w K mg base (L2.CX P w) 8 f fd ["self", "value"] (spNum K C CF CNN) := by
  refine F.okX sc_fnum (fun vs H Q E h => ?_) (fun cdv A outer s H vs Q E hr h => ?_)
  · obtain ⟨x, v, p, rfl, _⟩ := h
    rfl
  · obtain ⟨x, y, p, rfl, hx, hg, h⟩ := h
    refine ⟨_, (pss_cons (ps_if (pt_not (pt_val (pe_call G_N (hr.mono (by decide)) rfl m_N k_N b_N .nil pass0 (pa_cons (pv 1) pa_nil))))
        (pss_one (ps_raise rfl (takes_of rfl rfl rfl rfl) (pmk_own0 PySem.F.excBase_ValueError RN.q RN.m RN.k (raises_own RN.ex RN.ty) rfl)))
        pss_nil)
      (pss_cons (ps_if (pt_cmpR op_eq (pe_fld (pv 0) rfl) pe_int (nomark _))
        (pss_one (ps_ret (pe_call G_A (hr.mono (by decide)) rfl m_A k_A b_A .nil pass0 (pa_cons (pv 1) pa_nil))))
        pss_nil)
      (pss_cons (ps_if (pt_val (pe_callB call_isi (by rfl) B.b_isinstance (by decide +kernel) (pa_cons (pv 1) (pa_cons (pe_glob (v := .ref C) rfl m_C rfl) pa_nil))))
        (pss_one (ps_ret (pe_meth (E := E) (pv 0) TF.cl Me_over G_over (hr.mono (by decide)) b_over .nil (passes_call (takes_of rfl rfl rfl rfl) fun _ _ _ _ h => h) (pa_cons (pe_fld (pv 1) rfl) (pa_cons (pe_fld (pv 1) rfl) pa_nil)))))
        pss_nil)
      (pss_one (ps_ret (pe_op op_mod (pv 1) (pe_fld (pv 0) rfl))))))), ?_⟩
    obtain ⟨dx, hx0⟩ := id hx
    rcases h with ⟨⟨t, b, ty, kb, it, e⟩, kE⟩ | ⟨t, u, hy, pu, st, su, k0, kE, kp⟩
    · refine ⟨_, rfl, y, t, b, rfl, ty, kb, it, _, rfl, ?_⟩
      rw [e]
      exact iteT kE
    · obtain ⟨q, b, hq, kb, hi, hbi⟩ := num_is T Y Z hy
      refine ⟨_, rfl, y, q, b, rfl, hq, kb, hi, _, rfl, ?_⟩
      rw [hbi]
      refine iteF ?_
      refine ⟨_, rfl, x, CF, dx, _, _, rfl, hx0, TF.cl, TF.nP, pf_prime _, rfl, _, rfl, ?_⟩
      by_cases p0 : p = 0
      · refine itD (by simpa using p0) ?_
        exact ⟨_, rfl, y, t, u, rfl, hy, st, fun r H1 hr1 s1 => k0 p0 r H1 hr1 s1⟩
      · refine itDn (by simpa using p0) ?_
        rcases hy with ⟨r, rfl, hr1⟩ | ⟨rfl, rfl⟩
        · refine ⟨_, rfl, _, _, _, _, true, rfl, .own C, hr1.ty T Y, kit_self, _, rfl, iteT ?_⟩
          obtain ⟨dr, hr0⟩ := id hr1
          exact ⟨_, rfl, x, dx, _, rfl, hx0, pf_no _ (by decide +kernel), _, rfl, r, C, dr, _, _, rfl, hr0, T.cl, T.nT, rf_top _ _, _, rfl, r, C, dr, _, _, rfl, hr0, T.cl, T.nB, rf_bottom _ _, x, t, u, p, rfl, hx, hg, p0, st, su, kE p0, kp p0⟩
        · refine ⟨_, rfl, _, _, _, _, false, rfl, .own C, .base (.int _), Z.kint, _, rfl, iteF ?_⟩
          obtain ⟨p2, _, _⟩ := goodP_pos hg p0
          refine ⟨_, rfl, _, rfl, x, CF, dx, _, _, rfl, hx0, TF.cl, TF.nP, pf_prime _, _, _, rfl, rfl, (show 0 < p from by omega), ?_⟩
          refine kp p0 ?_ _ H (Int.emod_nonneg _ p0) (Int.emod_lt_of_pos _ (by omega)) ?_ (Same.refl H)
          · rw [Int.emod_eq_of_lt (by decide) (by omega)]
            decide
          · have dm := Int.emod_def t p
            refine ⟨-(t / p), ?_⟩
            rw [dm]
            generalize t / p = e1
            grind
theorem ok_fover {f C CF CN CNN fnum finv frover feq : Addr} {fd fdnum fdinv fdrover fdeq : FuncData} (F : Fun K "over" "Field.over" s_fover f fd) (T : CTx K C) (TF : FTx K CF) (Y : ITy K C) (RN : RNx K mg "NoNumber" CNN)
    (Me_num : Meth K CF "number" fnum) (G_num : FnOk P w K mg base (L2.CX P w) 8 fnum fdnum ["self", "value"] (spNum K C CF CNN)) (b_num : Binds K fdnum ["self", "value"] [])
    (G_inv : FnOk P w K mg base CX0 1 finv fdinv ["number", "prime"] spInv) (m_inv : mg "_inverse" = some (.ref finv)) (k_inv : PySem.W.keepIn K (.ref finv) = true) (b_inv : Binds K fdinv ["number", "prime"] [])
    (Me_rover : Meth K C "over" frover) (G_rover : FnOk P w K mg base (L2.CX P w) 6 frover fdrover ["self", "other"] (spR_over C CN)) (b_rover : Binds K fdrover ["self", "other"] [])
    (O_eq : OwnOp K C feq "__eq__") (nf1 : PySem.W.notFirst K C (.type "int") = true) (G_eq : FnOk P w K mg base CX0 2 feq fdeq ["self", "other"] (spR_eq K C)) (b_eq : Binds K fdeq ["self", "other"] []) :
    FnOk P w K mg base (L2.CX P w) 9 f fd ["self", "one", "other"] (spOver K C CF CNN) := by
  refine F.okX sc_fover (fun vs H Q E h => ?_) (fun cdv A outer s H vs Q E hr h => ?_)
  · obtain ⟨x, a, b, p, rfl, _⟩ := h
    rfl
  · obtain ⟨x, y1, y2, p, rfl, hx, hg, h⟩ := h
    refine ⟨_, (pss_cons (ps_set (i := 3) sc_fover.nd rfl (Or.inl rfl) (pe_meth (E := E) (pv 0) TF.cl Me_num G_num (hr.mono (by decide)) b_num .nil (passes_call (takes_of rfl rfl rfl rfl) fun _ _ _ _ h => h) (pa_cons (pv 1) pa_nil)))
      (pss_cons (ps_set (i := 4) sc_fover.nd rfl (Or.inl rfl) (pe_meth (E := E) (pv 0) TF.cl Me_num G_num (hr.mono (by decide)) b_num .nil (passes_call (takes_of rfl rfl rfl rfl) fun _ _ _ _ h => h) (pa_cons (pv 2) pa_nil)))
      (pss_cons (ps_if (pt_cmpR (op_or op_eq (op_ownEq O_eq G_eq (hr.mono (by decide)) b_eq pass0)) (pv 4) pe_int (nomark _))
        (pss_one (ps_raise rfl (takes_of rfl rfl rfl rfl) (pmk_own0 PySem.F.excBase_ValueError RN.q RN.m RN.k (raises_own RN.ex RN.ty) rfl)))
        pss_nil)
      (pss_cons (ps_if (pt_cmpR op_eq (pe_fld (pv 0) rfl) pe_int (nomark _))
        (pss_one (ps_ret (pe_meth (E := fun _ _ _ => False) (pv 3) T.cl Me_rover G_rover (hr.mono (by decide)) b_rover .nil passL (pa_cons (pv 4) pa_nil))))
        pss_nil)
      (pss_one (ps_ret (pe_op op_mod (pe_op op_mul (pv 3) (pe_call G_inv (hr.mono (by decide)) rfl m_inv k_inv b_inv .nil pass0 (pa_cons (pv 4) (pa_cons (pe_fld (pv 0) rfl) pa_nil)))) (pe_fld (pv 0) rfl)))))))), ?_⟩
    obtain ⟨dx, hx0⟩ := id hx
    have up8 : ∀ {z : Int}, Fit z → z.natAbs < 2 ^ 8000 := fun h => fit_up h
    refine ⟨_, rfl, x, dx, _, rfl, hx0, pf_no _ (by decide +kernel), _, rfl, x, y1, p, rfl, hx, hg, ?_⟩
    rcases h with ⟨b1, kE⟩ | ⟨t, u, hy, pu, st, su, kE, k⟩
    · exact .inl ⟨b1, kE⟩
    · refine .inr ⟨t, u, hy, pu, up8 st, up8 su, fun p0 z H1 hz s1 => ?_, kE, fun p0 up r1 H1 r10 r11 ⟨k1, hk1⟩ s1 => ?_⟩
      · subst p0
        obtain ⟨dz, hz0⟩ := id hz
        refine ⟨_, rfl, x, dx, _, rfl, s1 _ _ hx0, pf_no _ (by decide +kernel), _, rfl, x, y2, 0, rfl, hx.same s1, hg, ?_⟩
        rcases k (fun h => h.1 rfl) with ⟨b2, k2⟩ | ⟨t', u', hy2, pu2, cop, st2, su2, kz, _, _, _⟩
        · exact .inl ⟨b2.same s1, k2 H1 s1⟩
        · refine .inr ⟨t', u', hy2.same s1, pu2, up8 st2, up8 su2, fun _ z2 H2 hz2 s2 => ?_, fun h => absurd rfl h, fun h => absurd rfl h⟩
          obtain ⟨dz2, hz20⟩ := id hz2
          refine ⟨_, rfl, .inr ⟨z2, dz2, _, _, rfl, hz20, .base (.int _), nf1, z2, .int 0, t', u', rfl, hz2, .inr (.inl ⟨0, rfl, _, rfl, ?_⟩)⟩⟩
          by_cases c : t' = 0
          · have u1 : u' = 1 := by
              rw [c] at cop
              simp at cop
              omega
            refine itD (by simp [c, u1]) ?_
            exact (kz rfl).1 c H2 (s1.trans s2)
          · refine itDn (by simp [c]) ?_
            refine ⟨_, rfl, x, CF, dx, _, _, rfl, s2 _ _ (s1 _ _ hx0), TF.cl, TF.nP, pf_prime _, rfl, _, rfl, itD (by simp) ?_⟩
            refine ⟨_, rfl, z, dz, _, rfl, s2 _ _ hz0, rf_no _ _ (by decide +kernel) (by decide +kernel), _, rfl, z, .ref z2, t, u, t', u', rfl, hz.same s2, .inl ⟨z2, rfl, hz2⟩, pu, pu2, st, su, st2, su2, fun h => absurd h c, fun _ z3 T3 U3 H3 L R s3 => ?_⟩
            exact (kz rfl).2 c z3 T3 U3 H3 L R ((s1.trans s2).trans s3)
      · obtain ⟨p2, p3, hp⟩ := goodP_pos hg p0
        refine ⟨_, rfl, x, dx, _, rfl, s1 _ _ hx0, pf_no _ (by decide +kernel), _, rfl, x, y2, p, rfl, hx.same s1, hg, ?_⟩
        rcases k (fun h => up h.2) with ⟨b2, k2⟩ | ⟨t', u', hy2, pu2, cop, st2, su2, _, k3, k4, k5⟩
        · exact .inl ⟨b2.same s1, k2 H1 s1⟩
        · refine .inr ⟨t', u', hy2.same s1, pu2, up8 st2, up8 su2, fun h => absurd h p0, fun _ h => k3 p0 h H1 s1, fun _ up2 r2 H2 r20 r21 ⟨k2, hk2⟩ s2 => ?_⟩
          have zm := zero_mod p2 p3 hp up2 r20 r21 hk2
          refine ⟨_, rfl, .inl ⟨rfl, _, rfl, ?_⟩⟩
          by_cases c : r2 = 0
          · refine itD (by simpa using c) ?_
            exact k4 p0 up2 (zm.mp c) H2 (s1.trans s2)
          · refine itDn (by simpa using c) ?_
            refine ⟨_, rfl, x, CF, dx, _, _, rfl, s2 _ _ (s1 _ _ hx0), TF.cl, TF.nP, pf_prime _, rfl, _, rfl, itDn (by simpa using p0) ?_⟩
            refine ⟨_, rfl, _, rfl, _, rfl, x, CF, dx, _, _, rfl, s2 _ _ (s1 _ _ hx0), TF.cl, TF.nP, pf_prime _, r2, p, rfl, by omega, r21, by omega, gcd_prime p2 p3 hp (by omega) r21, fun r r0 rl ⟨q, hq⟩ H3 s3 => ?_⟩
            refine ⟨_, _, rfl, rfl, .inl ⟨by omega, by omega⟩, _, rfl, x, CF, dx, _, _, rfl, s3 _ _ (s2 _ _ (s1 _ _ hx0)), TF.cl, TF.nP, pf_prime _, _, _, rfl, rfl, (show 0 < p from by omega), ?_⟩
            refine k5 p0 up2 (fun h => c (zm.mpr h)) _ H3 (Int.emod_nonneg _ p0) (Int.emod_lt_of_pos _ (by omega)) ?_ ((s1.trans s2).trans s3)
            have dm := Int.emod_def (r1 * r) p
            generalize r1 * r / p = e1 at *
            refine ⟨r1 * u * q * u' - e1 * u * t' - r1 * r * u * k2 + k1 * u', ?_⟩
            rw [dm]
            grind
end
end Sq

namespace Sq
open PySem L2 PyProof.Rows
abbrev s_lip : Stmt := top 48
abbrev s_anyp : Stmt := top 49
abbrev s_lpr : Stmt := top 50
abbrev s_small : Stmt := top 51
abbrev s_nonz : Stmt := top 52
def spLip : Sp := fun vs H Q _ => ∃ n : Nat, vs = [.int (n : Int)] ∧ 2 ≤ n ∧ n < 9974 ∧ Q (.bl (isP n)) H
def spAnyP : Sp := fun vs H Q _ => ∃ p m, vs = [.ref p] ∧ StrAt H p m ∧ m < 900 ∧ ∀ q H', goodP q = true → q ≠ 0 → StrAt H' p (m + 2) → But p H H' → Q (.int q) H'
def spLpr : Sp := fun vs H Q _ => ∃ p m, vs = [.ref p] ∧ StrAt H p m ∧ m < 800 ∧ ∀ q H', goodP q = true → StrAt H' p (m + 3) → But p H H' → Q (.int q) H'
theorem good_int {n : Nat} (h2 : 2 ≤ n) (hn : n < 9974) (h : isP n = true) : goodP (n : Int) = true := by
  unfold goodP
  have : ((n : Int)).toNat = n := Int.toNat_natCast n
  rw [this, h]
  simp
  omega
theorem small_p4 {v : Int} (h0 : 0 ≤ v) (h6 : v < 4) : ∃ m, atI [V.int 2, V.int 3, V.int 5, V.int 7] v = some (.int m) ∧ goodP m = true ∧ m ≠ 0 := by
  have c : v = 0 ∨ v = 1 ∨ v = 2 ∨ v = 3 := by omega
  rcases c with rfl | rfl | rfl | rfl <;> exact ⟨_, rfl, by decide +kernel, by decide⟩
theorem small_p6 {v : Int} (h0 : 0 ≤ v) (h6 : v < 6) : ∃ m, atI [V.int 11, V.int 13, V.int 31, V.int 101, V.int 997, V.int 9973] v = some (.int m) ∧ goodP m = true ∧ m ≠ 0 := by
  have c : v = 0 ∨ v = 1 ∨ v = 2 ∨ v = 3 ∨ v = 4 ∨ v = 5 := by omega
  rcases c with rfl | rfl | rfl | rfl | rfl | rfl <;> exact ⟨_, rfl, by decide +kernel, by decide⟩
section
variable {P : Program} {w : World} {K : PySem.W.Frag} {mg : Str → Option Value} {base : Heap}
theorem sc_lip : FnScope ["_law_value", "_law_divisor"] ["_law_value"] (defScope s_lip) := ⟨rfl, rfl, rfl, by decide +kernel, rfl, by decide +kernel, by decide +kernel⟩
theorem ok_lip {f : Addr} {fd : FuncData} (F : Fun K "_law_is_prime" "_law_is_prime" s_lip f fd) (T : DTx mg) : FnOk P w K mg base CX0 1 f fd ["_law_value"] spLip := by
  refine F.ok sc_lip (fun vs H Q E h => ?_) (fun cdv A outer s H vs Q E hr h => ?_)
  · obtain ⟨x, rfl, _⟩ := h
    rfl
  · obtain ⟨n, rfl, h2, hn, k⟩ := h
    refine ⟨_, (pss_cons (ps_for PassesOwn.never rfl (pi_range2 (by rfl) T.b_range (pa_cons pe_int (pa_cons pe_int pa_nil))) (pg_name (i := 1) sc_lip.nd rfl (Or.inl rfl)) (pss_one (ps_if (PW.pt (pw_and (pt_cmpR op_le (pe_op op_mul (pv 1) (pv 1)) (pv 0) (nomark _)) (pw_and1 (pt_cmpR op_eq (pe_op op_mod (pe_callTy call_int1 (by rfl) T.b_int (by decide +kernel) (pa_cons (pv 0) pa_nil)) (pv 1)) pe_int (nomark _)))))
        (pss_one (ps_ret pe_bl))
        pss_nil)))
      (pss_one (ps_ret (pe_cmpR op_ge (pv 0) pe_int (nomark _))))), ?_⟩
    refine ⟨_, _, rfl, by omega, ?_⟩
    refine for_range (lo := 2) (n := 98) (fun i σ H' => ∃ z, σ = [some (.int (n : Int)), z] ∧ H' = H ∧ ∀ d, 2 ≤ d → d < 2 + i → d * d ≤ n → n % d ≠ 0) ⟨none, rfl, rfl, fun d h1 h2 => by omega⟩ ?_ ?_
    · rintro i σ H2 hi ⟨z, rfl, rfl, hd⟩
      have em : ((n : Int) % ((2 : Int) + (i : Int))) = ((n % (2 + i) : Nat) : Int) := by
        rw [Int.natCast_emod]
        rfl
      have eq : ((2 : Int) + (i : Int)) * ((2 : Int) + (i : Int)) = (((2 + i) * (2 + i) : Nat) : Int) := by
        push_cast
        rfl
      refine ⟨_, rfl, _, rfl, _, _, rfl, rfl, .inl ⟨by omega, by omega⟩, _, rfl, _, _, rfl, rfl, _, rfl, ?_⟩
      have next : (n % (2 + i) = 0 → ¬ (2 + i) * (2 + i) ≤ n) → ∀ d, 2 ≤ d → d < 2 + (i + 1) → d * d ≤ n → n % d ≠ 0 := fun h d h1 h2 hs => by
        by_cases e : d = 2 + i
        · subst e
          exact fun q => h q hs
        · exact hd d h1 (by omega) hs
      by_cases c : (2 + i) * (2 + i) ≤ n
      · have hle : ((2 : Int) + (i : Int)) * ((2 : Int) + (i : Int)) ≤ (n : Int) := by
          rw [eq]
          exact Int.ofNat_le.mpr c
        refine itD (decide_eq_true hle) ?_
        refine ⟨_, rfl, .inl ⟨_, rfl, _, rfl, _, _, rfl, rfl, by omega, rfl, _, rfl, ?_⟩⟩
        by_cases e0 : n % (2 + i) = 0
        · refine itD (decide_eq_true (by show V.int ((n : Int) % ((2 : Int) + (i : Int))) = V.int 0; rw [em, e0]; rfl)) ?_
          rw [isP_no (by omega) hn c e0] at k
          exact k
        · refine itDn (fun h => e0 (by have q : ((n : Int) % ((2 : Int) + (i : Int))) = 0 := V.int.inj (of_decide_eq_true h); rw [em] at q; omega)) ?_
          exact ⟨_, rfl, rfl, next fun q => absurd q e0⟩
      · have hle : ¬ ((2 : Int) + (i : Int)) * ((2 : Int) + (i : Int)) ≤ (n : Int) := by
          rw [eq]
          exact fun h => c (Int.ofNat_le.mp h)
        refine itDn (fun h => hle (of_decide_eq_true h)) ?_
        exact ⟨_, rfl, rfl, next fun _ => c⟩
    · rintro σ H2 ⟨z, rfl, rfl, hd⟩
      have e : isP n = true := isP_yes fun d h1 hs => hd d h1 (by have := sq_lt hn hs; omega) hs
      rw [e] at k
      refine ⟨_, rfl, _, _, rfl, rfl, ?_⟩
      show Q (.bl (decide ((2 : Int) ≤ (n : Int)))) H2
      rw [decide_eq_true (by omega)]
      exact k
theorem sc_anyp : FnScope ["_law_stream_here", "_law_choice", "_law_found", "_law_k"] ["_law_stream_here"] (defScope s_anyp) := ⟨rfl, rfl, rfl, by decide +kernel, rfl, by decide +kernel, by decide +kernel⟩
theorem ok_anyp {f fdraw flip : Addr} {fd fddraw fdlip : FuncData} (F : Fun K "_law_any_prime" "_law_any_prime" s_anyp f fd) (T : DTx mg) (G_draw : FnOk P w K mg base CX0 1 fdraw fddraw ["_law_stream_here", "_law_size"] spDraw) (m_draw : mg "_law_draw" = some (.ref fdraw)) (k_draw : PySem.W.keepIn K (.ref fdraw) = true) (b_draw : Binds K fddraw ["_law_stream_here", "_law_size"] []) (G_lip : FnOk P w K mg base CX0 1 flip fdlip ["_law_value"] spLip) (m_lip : mg "_law_is_prime" = some (.ref flip)) (k_lip : PySem.W.keepIn K (.ref flip) = true) (b_lip : Binds K fdlip ["_law_value"] []) : FnOk P w K mg base CX0 2 f fd ["_law_stream_here"] spAnyP := by
  refine F.ok sc_anyp (fun vs H Q E h => ?_) (fun cdv A outer s H vs Q E hr h => ?_)
  · obtain ⟨x, m, rfl, _⟩ := h
    rfl
  · obtain ⟨p, m, rfl, S0, lm, k⟩ := h
    refine ⟨_, (pss_cons (ps_set (i := 1) sc_anyp.nd rfl (Or.inl rfl) (pe_call G_draw (hr.mono (by decide)) rfl m_draw k_draw b_draw .nil pass0 (pa_cons (pv 0) (pa_cons pe_int pa_nil))))
      (pss_cons (ps_if (pt_cmpR op_eq (pv 1) pe_int (nomark _))
        (pss_one (ps_ret (pe_ix ix_list (pe_lst (pa_cons pe_int (pa_cons pe_int (pa_cons pe_int (pa_cons pe_int pa_nil))))) (pe_call G_draw (hr.mono (by decide)) rfl m_draw k_draw b_draw .nil pass0 (pa_cons (pv 0) (pa_cons pe_int pa_nil))) (fun _ _ => rfl))))
        pss_nil)
      (pss_cons (ps_if (pt_cmpR op_eq (pv 1) pe_int (nomark _))
        (pss_one (ps_ret (pe_ix ix_list (pe_lst (pa_cons pe_int (pa_cons pe_int (pa_cons pe_int (pa_cons pe_int (pa_cons pe_int (pa_cons pe_int pa_nil))))))) (pe_call G_draw (hr.mono (by decide)) rfl m_draw k_draw b_draw .nil pass0 (pa_cons (pv 0) (pa_cons pe_int pa_nil))) (fun _ _ => rfl))))
        pss_nil)
      (pss_cons (ps_set (i := 2) sc_anyp.nd rfl (Or.inl rfl) (pe_op op_add pe_int (pe_call G_draw (hr.mono (by decide)) rfl m_draw k_draw b_draw .nil pass0 (pa_cons (pv 0) (pa_cons pe_int pa_nil)))))
      (pss_cons (ps_for PassesOwn.never rfl (pi_range1 (by rfl) T.b_range (pa_cons pe_int pa_nil)) (pg_name (i := 3) sc_anyp.nd rfl (Or.inl rfl)) (pss_cons (ps_if (pt_val (pe_call G_lip (hr.mono (by decide)) rfl m_lip k_lip b_lip .nil pass0 (pa_cons (pv 2) pa_nil)))
        (pss_one (ps_ret (pv 2)))
        pss_nil)
      (pss_one (ps_set (i := 2) sc_anyp.nd rfl (Or.inl rfl) (pe_op op_sub (pv 2) pe_int)))))
      (pss_one (ps_ret pe_int))))))), ?_⟩
    refine ⟨_, rfl, p, 3, m, rfl, by decide, by decide, S0, by omega, fun kd H1 k0 k6 S1 B1 => ?_⟩
    refine ⟨_, rfl, rfl, _, rfl, ite2 (fun c => ?_) (fun c => ?_)⟩
    · refine ⟨(by show 4 ≤ sizeLine; decide), fun q hq => ⟨_, rfl, p, 4, m + 1, rfl, by decide, by decide, S1.same (same_new (Same.refl _) hq), by omega, fun v H2 v0 v6 S2 B2 => ?_⟩⟩
      obtain ⟨m, hm, gm, m0⟩ := small_p4 v0 v6
      exact ⟨q, _, _, _, rfl, rfl, SqL.of (B2 q _ upd_same (S1.ne hq)), hm, k m H2 gm m0 S2 ((B1.new hq).trans B2)⟩
    · refine ⟨_, rfl, rfl, _, rfl, ite2 (fun c => ?_) (fun c => ?_)⟩
      · refine ⟨(by show 6 ≤ sizeLine; decide), fun q hq => ⟨_, rfl, p, 6, m + 1, rfl, by decide, by decide, S1.same (same_new (Same.refl _) hq), by omega, fun v H2 v0 v6 S2 B2 => ?_⟩⟩
        obtain ⟨m, hm, gm, m0⟩ := small_p6 v0 v6
        exact ⟨q, _, _, _, rfl, rfl, SqL.of (B2 q _ upd_same (S1.ne hq)), hm, k m H2 gm m0 S2 ((B1.new hq).trans B2)⟩
      · refine ⟨_, rfl, p, 9972, m + 1, rfl, by decide, by decide, S1, by omega, fun v H2 v0 v1 S2 B2 => ⟨_, _, rfl, rfl, ?_⟩⟩
        refine ⟨40, rfl, by decide, by decide, ?_⟩
        refine for_range (lo := 0) (n := 40) (fun i σ H' => ∃ (z : Option V) (n : Nat), σ = [some (.ref p), some (.int kd), some (.int (n : Int)), z] ∧ 2 ≤ n ∧ n < 9974 ∧ H' = H2) ⟨none, (2 + v).toNat, by rw [Int.toNat_of_nonneg (by omega)]; rfl, by omega, by omega, rfl⟩ ?_ ?_
        · rintro i σ H3 hi ⟨z, n, rfl, n2, n9, rfl⟩
          refine ⟨_, rfl, n, rfl, n2, n9, _, rfl, ?_⟩
          cases hp : isP n with
          | true => exact iteT ⟨_, rfl, k n _ (good_int n2 n9 hp) (by omega) S2 (B1.trans B2)⟩
          | false =>
            refine iteF ⟨_, rfl, _, _, rfl, rfl, ⟨some (.int (0 + (i : Int))), n - 1, ?_, ?_, by omega, rfl⟩⟩
            · have e : ((n - 1 : Nat) : Int) = (n : Int) - 1 := by omega
              rw [e]
              rfl
            · by_cases e : n = 2
              · subst e
                exact absurd hp (by decide +kernel)
              · omega
        · rintro σ H3 ⟨z, n, rfl, n2, n9, rfl⟩
          exact k 2 _ (by decide +kernel) (by decide) S2 (B1.trans B2)
theorem sc_lpr : FnScope ["_law_stream_here"] ["_law_stream_here"] (defScope s_lpr) := ⟨rfl, rfl, rfl, by decide +kernel, rfl, by decide +kernel, by decide +kernel⟩
theorem ok_lpr {f fdraw fanyp : Addr} {fd fddraw fdanyp : FuncData} (F : Fun K "_law_prime" "_law_prime" s_lpr f fd) (G_draw : FnOk P w K mg base CX0 1 fdraw fddraw ["_law_stream_here", "_law_size"] spDraw) (m_draw : mg "_law_draw" = some (.ref fdraw)) (k_draw : PySem.W.keepIn K (.ref fdraw) = true) (b_draw : Binds K fddraw ["_law_stream_here", "_law_size"] []) (G_anyp : FnOk P w K mg base CX0 2 fanyp fdanyp ["_law_stream_here"] spAnyP) (m_anyp : mg "_law_any_prime" = some (.ref fanyp)) (k_anyp : PySem.W.keepIn K (.ref fanyp) = true) (b_anyp : Binds K fdanyp ["_law_stream_here"] []) : FnOk P w K mg base CX0 3 f fd ["_law_stream_here"] spLpr := by
  refine F.ok sc_lpr (fun vs H Q E h => ?_) (fun cdv A outer s H vs Q E hr h => ?_)
  · obtain ⟨x, m, rfl, _⟩ := h
    rfl
  · obtain ⟨p, m, rfl, S0, lm, k⟩ := h
    refine ⟨_, (pss_cons (ps_if (pt_cmpR op_eq (pe_call G_draw (hr.mono (by decide)) rfl m_draw k_draw b_draw .nil pass0 (pa_cons (pv 0) (pa_cons pe_int pa_nil))) pe_int (nomark _))
        (pss_one (ps_ret pe_int))
        pss_nil)
      (pss_one (ps_ret (pe_call G_anyp (hr.mono (by decide)) rfl m_anyp k_anyp b_anyp .nil pass0 (pa_cons (pv 0) pa_nil))))), ?_⟩
    refine ⟨_, rfl, p, 4, m, rfl, by decide, by decide, S0, by omega, fun kd H1 k0 k6 S1 B1 => ?_⟩
    refine ⟨rfl, _, rfl, ite2 (fun c => ?_) (fun c => ?_)⟩
    · exact k 0 H1 (by decide) (S1.le (by omega)) B1
    · exact ⟨_, rfl, p, m + 1, rfl, S1, by omega, fun q H2 gq q0 S2 B2 => k q H2 gq S2 (B1.trans B2)⟩
end
end Sq

namespace Sq
open PySem L2 PyProof.Rows Builtin
section
variable {X : Cx} {CX : CXT} {k : Nat} {f C : Addr} {fd : FuncData} {ps : List Str} {sp : Sp} {E : XK}
/-- a def run one C level deeper -/
theorem run_in1 {pins : List (Addr × Obj)} {σ : L2.St} {H : Hp} {s : Shared} {us : List Value} {vs : List V} {Q : VK} (G : FnOk X.prog X.w X.K X.mg X.base CX k f fd ps sp) (hr : Room (k + 1) X.A) (hb : Binds X.K fd ps []) (hx : Passes CX X E)
    (I : Inv X pins σ H s) (r : Vals vs us) (h : sp vs H Q E) : wpAny (model X.prog X.w) X.A.in1 (call (.ref f) us) (EP X pins σ Q) X.xe s := by
  have e0 : Env0 X.prog X.w X.K X.mg X.base X.A.in1 X.stack s H := by
    have e := I.env0
    exact ⟨e.frames, e.mod, e.bs, e.bsz, e.funs, e.frf, e.hok, e.bare⟩
  have hl := G.len _ _ _ _ h
  have bd := hb s us I.kIn (by rw [List.append_nil, ← r.length]; exact hl)
  rw [List.append_nil] at bd
  refine wpAny_call (codeAny_mono (G.run X.A.in1 X.stack s H ⟨us, []⟩ us vs Q E hr.in1 e0 bd r h) fun q s' hq => ?_)
  cases q with
  | error e => exact hx pins σ H s e s' I hq
  | ok fl =>
    cases fl with
    | ret w =>
      obtain ⟨z, H', I', rz, ez⟩ := I.after hq
      exact ⟨z, H', I', rz, ez⟩
    | next => exact False.elim hq
    | brk => exact False.elim hq
    | cont => exact False.elim hq
/-- a != b, a's class has its own == and object's != -/
def rOwnNe (K : PySem.W.Frag) (C : Addr) (sp : Sp) (E : XK) : R2 := fun x y H Q => ∃ a dx fs t, x = .ref a ∧ H a = some (.ins C dx fs) ∧ TyX K H y t ∧ PySem.W.notFirst K C t = true ∧ sp [x, y] H (fun v H' => ∃ b, v = .bl b ∧ Q (.bl (!b)) H') E
theorem op_ownNe (O : NeOp X.K C f) (G : FnOk X.prog X.w X.K X.mg X.base CX k f fd ps sp) (hr : Room (k + 1) X.A) (hb : Binds X.K fd ps []) (hx : Passes CX X E) : OpR X (compareOp .NotEq) (rOwnNe X.K C sp E) := by
  rintro pins s σ H x y v u Q I rx ry ⟨a, dx, fs, t, rfl, ha, hty, hn, hsp⟩
  cases rx
  obtain ⟨od, J⟩ := inst_at I ha
  obtain ⟨m, hF⟩ := I.fr
  obtain ⟨Pt, KX, hp, _⟩ := kit_of I ry hty
  have Y := I.kIn
  have tb := KX.ty (model X.prog X.w) _ Y hp
  have sub : PySem.W.Looks (model X.prog X.w) s.heap (isInstance (.ref a) (.type "object")) true := J.type.andThen (PySem.W.looks_mroIn Y O.ob)
  have hcall := run_in1 (us := [.ref a, u]) (vs := [.ref a, y]) G hr hb hx I (.cons rfl (.cons ry .nil)) hsp
  have one : wpAny (model X.prog X.w) X.A (tryCompare (.ref a) (cmpInfo .NotEq).2.1 u) (fun r s' => ∃ v, r = some v ∧ EP X pins σ Q v s') X.xe s := by
    unfold tryCompare
    refine wpAny_bind (if_bound Y J O.ne (fun self => PySem.F.slot_object_ne.bind self) ?_)
    refine wpAny_call (codeAny_call_builtin PySem.F.slot_object_ne.plain F.cmpEntry_ne (@PySem.W.check_slot (model X.prog X.w) _ _ s "object.__ne__" "object" "__ne__" (.ref a) [u] [] _ F.cmpKind_ne F.cmpSplit_ne sub (F.cmpArgs_ne _ _) ?_))
    unfold Builtin.«object.__ne__»
    refine wpAny_bind (wpAny_of_eq (a := ((Value.ref a : Value), [u])) (by first | rfl | (simp only [slotArgs]; rfl)) ?_)
    refine wpAny_bind (wpAny_cRoomFor hr.in1.units0 ?_)
    refine wpAny_bind (PySem.W.ifBound_K Y J O.eq O.fn (wpAny_mono hcall (fun r s' hr' => ?_) fun _ _ e => e))
    obtain ⟨z, H', I', rz, b, rfl, q⟩ := hr'
    cases rz
    refine wpAny_bind (wpAny_truthy_bool ?_)
    refine wpAny_pure ?_
    exact wpAny_pure ⟨_, rfl, .bl (!b), H', I', rfl, q⟩
  show wpAny (model X.prog X.w) X.A (richCompare .NotEq (.ref a) u) (EP X pins σ Q) X.xe s
  unfold richCompare
  simp only [oneThing_ref]
  refine wpAny_holding (wpAny_bind (wpAny_cRoomFor hr.units0 ?_))
  refine wpAny_bind (J.type.here (wpAny_bind (tb.here ?_)))
  split
  · rename_i q
    have e : PySem.W.subIn X.K t (.ref C) = some false := by
      rcases Bool.or_eq_true_iff.mp hn with e | e
      · rw [beq_iff_eq.mp e] at q
        simp at q
      · exact beq_iff_eq.mp e
    refine wpAny_bind ((PySem.W.looks_subIn Y e).here ?_)
    simp only [Bool.false_eq_true, if_false]
    refine wpAny_bind (wpAny_mono one (fun r s' z => ?_) fun _ _ e => e)
    obtain ⟨v, rfl, hq⟩ := z
    exact wpAny_pure hq
  · refine wpAny_bind (wpAny_pure ?_)
    simp only [Bool.false_eq_true, if_false]
    refine wpAny_bind (wpAny_mono one (fun r s' z => ?_) fun _ _ e => e)
    obtain ⟨v, rfl, hq⟩ := z
    exact wpAny_pure hq
end
end Sq
namespace Sq
open PySem L2 PyProof.Rows
/-- isinstance(x, Field) of other things -/
def spF_eq (K : PySem.W.Frag) (CF : Addr) : Sp := fun vs H Q _ => ∃ (x : Addr) (y : V) (p : Int), vs = [.ref x, y] ∧ FldAt CF H x p ∧
  ((∃ r p', y = .ref r ∧ FldAt CF H r p' ∧ Q (.bl (decide (p = p'))) H) ∨ (∃ i, y = .int i ∧ Q (.bl false) H))
/-- what the class Field must say for isinstance -/
structure IFy (K : PySem.W.Frag) (C : Addr) : Prop where
  ha : PySem.W.findIn K (.ref C) "__class__" = some (some (.builtin "object.__class__"))
  hn : PySem.W.specialIn K (.builtin "object.__class__") "__get__" = some (some (.builtin "getset_descriptor.__get__"))
  htk : PySem.W.takesIn K (.builtin "object.__class__") = some true
  hm : PySem.W.mroIn K C (.type "object") = some true
  kint : PySem.W.kitOne K (.type "int") (.ref C) = some false
theorem FldAt.ty {K : PySem.W.Frag} {C : Addr} {H : Hp} {x : Addr} {p : Int} (T : FTx K C) (Y : IFy K C) (h : FldAt C H x p) : TyX K H (.ref x) (.ref C) := by
  obtain ⟨dx, h⟩ := h
  exact .base (.ins h T.cl Y.ha Y.hn Y.htk Y.hm)
section
variable {P : Program} {w : World} {K : PySem.W.Frag} {mg : Str → Option Value} {base : Heap}
theorem sc_feq : FnScope ["self", "other"] ["self", "other"] (defScope s_feq) := ⟨rfl, rfl, rfl, by decide +kernel, rfl, by decide +kernel, by decide +kernel⟩
theorem ok_feq {f CF : Addr} {fd : FuncData} (F : Fun K "__eq__" "Field.__eq__" s_feq f fd) (TF : FTx K CF) (Y : IFy K CF) (B : ITx mg) (m_CF : mg "Field" = some (.ref CF)) : FnOk P w K mg base CX0 1 f fd ["self", "other"] (spF_eq K CF) := by
  refine F.ok sc_feq (fun vs H Q E h => ?_) (fun cdv A outer s H vs Q E hr h => ?_)
  · obtain ⟨x, y, p, rfl, _⟩ := h
    rfl
  · obtain ⟨x, y, p, rfl, hx, h⟩ := h
    refine ⟨_, pss_one (ps_ret (pe_and (pe_callB call_isi (by rfl) B.b_isinstance (by decide +kernel) (pa_cons (pv 1) (pa_cons (pe_glob (v := .ref CF) rfl m_CF rfl) pa_nil))) (pe_one (pe_cmpR op_eq (pe_fld (pv 0) rfl) (pe_fld (pv 1) rfl) (nomark _))))), ?_⟩
    obtain ⟨dx, hx0⟩ := id hx
    rcases h with ⟨r, p', rfl, hr1, k⟩ | ⟨i, rfl, k⟩
    · obtain ⟨dr, hr0⟩ := id hr1
      refine ⟨_, rfl, _, _, _, _, true, rfl, .own CF, hr1.ty TF Y, kit_self, _, rfl, iteT ?_⟩
      refine ⟨_, rfl, x, CF, dx, _, _, rfl, hx0, TF.cl, TF.nP, pf_prime _, _, rfl, r, CF, dr, _, _, rfl, hr0, TF.cl, TF.nP, pf_prime _, rfl, ?_⟩
      show Q (.bl (decide (V.int p = V.int p'))) H
      rw [dec_int2]
      exact k
    · exact ⟨_, rfl, _, _, _, _, false, rfl, .own CF, .base (.int _), Y.kint, _, rfl, iteF k⟩
end
end Sq

-- needs HandS.OwnEq
-- needs HandS.Star
-- needs OpenK.KOps
namespace PySem.Sqt
open PySem PySem.SeqAt GQ
open MeetsSeq MeetsSeq2 MeetsSeq3 SeqRoads2
section
variable {prog : Program} {w : World} {A : Around} {R : Result → Shared → Prop}
/-- two tuples of any lengths, their items alike as far as both go -/
theorem tup_goes (p q : Addr) (us vs : Array Value) (k k2 : Nat) (e1 e2 : Option Addr) (z1 z2 : Array (Option Value)) (J : Nat → Shared → Prop)
    (step : ∀ j (g1 : j < us.size) (g2 : j < vs.size) t, J j t →
      wpAny (model prog w) A.in1 (eqBool us[j] vs[j]) (fun b t' => b = true ∧ J (j + 1) t') (fun e t' => R (.error e) t') t)
    (stop : ∀ t, J (min us.size vs.size) t → R (.ok (.ret (.bool (us.size == vs.size)))) t) {t : Shared}
    (hp1 : t.heap.get? p = some { cls := .type "tuple", dict := e1, data := .seq us k, slots := z1 })
    (hq1 : t.heap.get? q = some { cls := .type "tuple", dict := e2, data := .seq vs k2, slots := z2 }) (start : J 0 t) :
    wpAny (model prog w) A.in1 (Builtin.«tuple.__eq__» ⟨[.ref p, .ref q], []⟩) (FinOf prog w A R) (fun e t' => R (.error e) t') t := by
  have sub2 := AutoSeq1.sub_tuple_tuple
  have hlen : (us.toList.zip vs.toList).length = min us.size vs.size := by simp
  have start' := start
  obtain ⟨hp, g, d, tk, os⟩ := t
  wp_walk using AutoSeq1.wpAny_loadPart' hp1, AutoSeq1.wpAny_loadPart' hq1, wpAny_forIn_list _ (fun left acc t' => acc.1 = none ∧ ∃ j, left = (us.toList.zip vs.toList).drop j ∧ j ≤ min us.size vs.size ∧ J j t') _
  case turn =>
    rintro ⟨a, b⟩ left acc t' ⟨hacc, j, hdrop, hj, hJ⟩
    have jlt : j < (us.toList.zip vs.toList).length := by
      by_cases c : j < (us.toList.zip vs.toList).length
      · exact c
      · rw [List.drop_of_length_le (by omega)] at hdrop
        cases hdrop
    have g1 : j < us.size := by omega
    have g2 : j < vs.size := by omega
    rw [List.drop_eq_getElem_cons jlt] at hdrop
    injection hdrop with hab hleft
    have ea : a = us[j] := by simpa using congrArg Prod.fst hab
    have eb : b = vs[j] := by simpa using congrArg Prod.snd hab
    subst ea eb
    refine wpAny_bind (wpAny_mono (step j g1 g2 t' hJ) (fun b t2 hb => ?_) fun _ _ z => z)
    obtain ⟨rfl, hb⟩ := hb
    wp_walk
    exact ⟨rfl, j + 1, hleft, by omega, hb⟩
  case fin =>
    rintro ⟨acc1, acc2⟩ t' ⟨hacc, j, hdrop, hj, hJ⟩
    simp only at hacc
    subst hacc
    have jge : min us.size vs.size ≤ j := by
      by_cases c : j < (us.toList.zip vs.toList).length
      · rw [List.drop_eq_getElem_cons c] at hdrop
        cases hdrop
      · omega
    have ej : j = min us.size vs.size := by omega
    have fin2 : R (.ok (.ret (.bool (us.size == vs.size)))) t' := stop t' (ej ▸ hJ)
    wp_walk
    simpa [Builtin.Tuple.tupleCompareSizes] using fin2
  case h =>
    exact ⟨rfl, 0, rfl, Nat.zero_le _, start'⟩
end
end PySem.Sqt
namespace Sq
open PySem L2 PyProof.Rows PySem.Spec
section
variable {X : Cx} {CX : CXT} {k n : Nat} {f C : Addr} {fd : FuncData} {ps : List Str} {sp : Sp} {E : XK} {D : Eqv}
/-- t == u, two tuples whose items are alike as far as both go -/
def rEqN (K : PySem.W.Frag) (D : Eqv) : R2 := fun x y H Q => ∃ a b xs ys, x = .ref a ∧ y = .ref b ∧ SqT K H a xs ∧ SqT K H b ys ∧ (∀ (i : Nat) u v, xs[i]? = some u → ys[i]? = some v → D u v H) ∧ ∀ H', Same H H' → Q (.bl (decide (xs.length = ys.length))) H'
theorem op_eqN (hD : Mon D) (h : EqG X n D) (hr : Room (n + 1) X.A) : OpR X (compareOp .Eq) (rEqN X.K D) := by
  rintro pins s σ H x y v u Q I rx ry ⟨a, b, xs, ys, rfl, rfl, ha, hb, hd, q⟩
  cases rx
  cases ry
  show wpAny (model X.prog X.w) X.A (richCompare .Eq (.ref a) (.ref b)) (EP X pins σ Q) X.xe s
  obtain ⟨us, r1, t1, _⟩ := I.tuple ha
  obtain ⟨ws, r2, t2, _⟩ := I.tuple hb
  obtain ⟨⟨c1, d1, dt1, sl1⟩, o1, hc1, n1, hd1⟩ := id t1
  obtain ⟨⟨c2, d2, dt2, sl2⟩, o2, hc2, n2, hd2⟩ := id t2
  simp only at hc1 hd1 hc2 hd2
  subst hc1 hd1 hc2 hd2
  have sb : Sub X (n + 1) X.A := ⟨hr, rfl⟩
  have l1 := r1.length
  have l2 := r2.length
  refine PySem.wpAny_richCompare_same_room (op := .Eq) ⟨_, o1, rfl⟩ ⟨_, o2, rfl⟩ F.slot_tuple_eq (GQ.call_here F.slot_tuple_eq ⟨_, o1, rfl⟩ F.entry_tuple_eq (F.args_tuple_eq_2 _ _) ?_) hr.units0
  refine PySem.Sqt.tup_goes (R := wants (fun v s' => v ≠ .notImplemented ∧ EP X pins σ Q v s') X.xe) a b us.toArray ws.toArray n1 n2 d1 d2 sl1 sl2 (fun _ t => LoopI X pins σ H t) (fun j g1 g2 t l => ?_) (fun t l => ⟨(fun z => nomatch z), ?_⟩) o1 o2 ⟨H, I, Ext.rfl'⟩
  · obtain ⟨H1, I1, x1⟩ := l
    have g1' : j < us.length := by simpa using g1
    have g2' : j < ws.length := by simpa using g2
    have k1 : j < xs.length := by omega
    have k2 : j < ys.length := by omega
    obtain ⟨z1, hz1, rz1⟩ := r1.get (List.getElem?_eq_getElem k1)
    obtain ⟨z2, hz2, rz2⟩ := r2.get (List.getElem?_eq_getElem k2)
    have w1 : us.toArray[j] = z1 := by
      rw [List.getElem?_eq_getElem g1'] at hz1
      simpa using hz1
    have w2 : ws.toArray[j] = z2 := by
      rw [List.getElem?_eq_getElem g2'] at hz2
      simpa using hz2
    rw [w1, w2]
    refine wpAny_mono (h X.A.in1 pins t σ H1 _ _ z1 z2 sb.in1 I1 rz1 rz2 (hD _ _ _ _ x1 (hd j _ _ (List.getElem?_eq_getElem k1) (List.getElem?_eq_getElem k2)))) (fun b t2 hb => ?_) fun _ _ z => z
    obtain ⟨hb1, H2, I2, x2⟩ := hb
    exact ⟨hb1, H2, I2, x1.trans x2⟩
  · obtain ⟨H1, I1, x1⟩ := l
    have e : (us.toArray.size == ws.toArray.size) = decide (xs.length = ys.length) := by
      rw [l1, l2]
      simp [BEq.beq]
    show EP X pins σ Q (.bool (us.toArray.size == ws.toArray.size)) t
    rw [e]
    exact ⟨.bl _, H1, I1, rfl, q H1 x1⟩
/-- len(x) by the class's own __len__ -/
def rLenO (K : PySem.W.Frag) (C : Addr) (sp : Sp) (E : XK) : List V → Hp → VK → Prop := fun xs H Q => ∃ a dx fs, xs = [.ref a] ∧ H a = some (.ins C dx fs) ∧ sp [.ref a] H (fun v H' => ∃ m : Nat, v = .int (m : Int) ∧ m < 1000000 ∧ Q (.int (m : Int)) H') E
theorem call_lenO (O : OwnOp X.K C f "__len__") (G : FnOk X.prog X.w X.K X.mg X.base CX k f fd ps sp) (hr : Room (k + 1) X.A) (hb : Binds X.K fd ps []) (hx : Passes CX X E) : CallR X (.builtin "len") (rLenO X.K C sp E) := by
  intro pins s σ H xs us Q I r h
  obtain ⟨a, dx, fs, rfl, ha, hsp⟩ := h
  obtain ⟨x1, e1, r1⟩ : ∃ x1, us = [x1] ∧ RelV (.ref a) x1 := by
    cases r with
    | cons rx rr =>
      cases rr
      exact ⟨_, rfl, rx⟩
  subst e1
  have e1 : x1 = Value.ref a := r1
  subst e1
  obtain ⟨od, J⟩ := inst_at I ha
  obtain ⟨m, hF⟩ := I.fr
  refine PySem.W.len_K hF I.ok.mod.kin J O.at_ O.fn ?_
  have e0 : Env0 X.prog X.w X.K X.mg X.base X.A.in1 X.stack s H := by
    have e := I.env0
    exact ⟨e.frames, e.mod, e.bs, e.bsz, e.funs, e.frf, e.hok, e.bare⟩
  have hl := G.len _ _ _ _ hsp
  have rr : Vals [V.ref a] [Value.ref a] := .cons rfl .nil
  refine wpAny_call (codeAny_mono (G.run X.A.in1 X.stack s H ⟨[Value.ref a], []⟩ [Value.ref a] [V.ref a] _ E hr.in1 e0 (by
    have z := hb s [Value.ref a] I.kIn (by simpa using hl)
    simpa using z) rr hsp) fun res s' out => ?_)
  cases res with
  | error e => exact hx pins σ H s e s' I out
  | ok fl =>
    cases fl with
    | ret val =>
      obtain ⟨z, H', I', rz, q⟩ := I.after out
      obtain ⟨m, rfl, hm, q⟩ := q
      obtain ⟨tk, rfl⟩ := rz
      exact ⟨⟨by omega, by omega⟩, .int (m : Int), H', I'.kept (t' := _) fun _ _ z => z, ⟨_, rfl⟩, q⟩
    | next => cases out
    | brk => cases out
    | cont => cases out
end
end Sq

namespace Sq
open PySem L2 PyProof.Rows
/-! ### an own error that keeps one field of any name -/
def fldAt (F : Str) (y : V) : HO := .xd [(F, y)]
def spFInit (F : Str) (CN : Addr) : Sp := fun vs H Q _ => ∃ (a : Addr) (y : V), vs = [.ref a, y] ∧ H a = some (exo a CN none) ∧ ∀ dx, H dx = none → dx ≠ a → Q .non (upd (upd H dx (exd dx [(F, y)])) a (exo a CN (some dx)))
structure NTxF (K : PySem.W.Frag) (F : Str) (CN fN : Addr) : Prop where
  oex : OexC K CN
  nw : PySem.W.findIn K (.ref CN) F = some none
  iC : PySem.W.findIn K (.ref CN) "__init__" = some (some (.ref fN))
  tI : PySem.W.typeIn K (.ref fN) = some (.type "function")
theorem xd_eqF {F : Str} {H : Hp} {a d CN : Addr} {y : V} (ha : H a = none) (n : d ≠ a) : upd (L2.del (upd (upd (upd H a (exo a CN none)) d (exd d [(F, y)])) a (exo a CN (some d))) a) d (.xd [(F, y)]) = upd H d (.xd [(F, y)]) := by
  funext b
  by_cases h1 : b = d
  · subst h1
    rw [upd_same, upd_same]
  · rw [upd_ne h1, upd_ne h1]
    by_cases h2 : b = a
    · subst h2
      rw [del_same, ha]
    · rw [del_ne h2, upd_ne h2, upd_ne h1, upd_ne h2]
theorem mkO_readF {F : Str} {CN : Addr} {z : V} {H : Hp} {E : XK} (h : ∀ d, H d = none → E (.ref CN) (some d) (upd H d (fldAt F z))) : ∀ a, H a = none → spFInit F CN (.ref a :: ([z] ++ [])) (upd H a (exo a CN none))
    (fun v H2 => v = .non ∧ ∃ (d : Addr) (fs : List (Str × V)), H2 a = some (exo a CN (some d)) ∧ H2 d = some (exd d fs) ∧ H d = none ∧ E (.ref CN) (some d) (upd (L2.del H2 a) d (.xd fs))) (fun _ _ _ => False) := fun a ha => by
  refine ⟨a, _, rfl, upd_same, fun dx h1 h2 => ⟨rfl, dx, [(F, z)], upd_same, ?_, ?_, ?_⟩⟩
  · exact (upd_ne h2).trans upd_same
  · rw [upd_ne h2] at h1
    exact h1
  · rw [upd_ne h2] at h1
    rw [xd_eqF ha h2]
    exact h dx h1
section
variable {P : Program} {w : World} {K : PySem.W.Frag} {mg : Str → Option Value} {base : Heap}
abbrev s_placeInit : Stmt := inClass (top 8) 0
theorem sc_placeInit : FnScope ["self", "place"] ["self", "place"] (defScope s_placeInit) := ⟨rfl, rfl, rfl, by decide +kernel, rfl, by decide +kernel, by decide +kernel⟩
theorem ok_placeInit {f CN fN : Addr} {fd : FuncData} (F : Fun K "__init__" "NoSeries.__init__" s_placeInit f fd) (T : NTxF K "place" CN fN) : FnOk P w K mg base CX0 1 f fd ["self", "place"] (spFInit "place" CN) := by
  refine F.ok sc_placeInit (fun vs H Q E h => ?_) (fun cdv A outer s H vs Q E hr h => ?_)
  · obtain ⟨x, y, rfl, _⟩ := h
    rfl
  · obtain ⟨a, y, rfl, ha, k⟩ := h
    refine ⟨_, pss_one (ps_ost (pv 0) (pv 1)), ?_⟩
    exact ⟨_, rfl, _, rfl, a, CN, rfl, T.oex, T.nw, .inl ⟨ha, fun dx h1 h2 => k dx h1 h2⟩⟩
end
/-! ### numbers of a field -/
/-- v is the number of the field p that is told by the pair (t, u) -/
def FN (C : Addr) (H : Hp) (p : Int) (v : V) (t u : Int) : Prop := (p = 0 ∧ (∃ r, v = .ref r ∧ RatAt C H r t u) ∧ 1 ≤ u ∧ Int.gcd t u = 1) ∨ (p ≠ 0 ∧ v = .int t ∧ u = 1 ∧ 0 ≤ t ∧ t < p)
theorem FN.same {C : Addr} {H H' : Hp} {p t u : Int} {v : V} (s : Same H H') (h : FN C H p v t u) : FN C H' p v t u := by
  rcases h with ⟨p0, ⟨r, e, R⟩, a, b⟩ | h
  · exact .inl ⟨p0, ⟨r, e, R.same s⟩, a, b⟩
  · exact .inr h
theorem FN.num {C : Addr} {H : Hp} {p t u : Int} {v : V} (h : FN C H p v t u) : NumAt C H v t u := by
  rcases h with ⟨p0, ⟨r, e, R⟩, a, b⟩ | ⟨_, e, u1, _⟩
  · exact .inl ⟨r, e, R⟩
  · exact .inr ⟨e, u1⟩
theorem FN.pos {C : Addr} {H : Hp} {p t u : Int} {v : V} (h : FN C H p v t u) : 1 ≤ u := by
  rcases h with ⟨_, _, a, _⟩ | ⟨_, _, u1, _⟩
  · exact a
  · omega
theorem FN.upd {C : Addr} {H : Hp} {p t u : Int} {v : V} {q : Addr} {xs : List V} {o : HO} (hq : H q = some (.lst xs)) (h : FN C H p v t u) : FN C (L2.upd H q o) p v t u := by
  rcases h with ⟨p0, ⟨r, e, dx, R⟩, a, b⟩ | h
  · have n : r ≠ q := fun z => by
      rw [z, hq] at R
      cases R
    exact .inl ⟨p0, ⟨r, e, dx, (upd_ne n).trans R⟩, a, b⟩
  · exact .inr h
structure FNs (C : Addr) (H : Hp) (p : Int) (ys : List V) (prs : List (Int × Int)) : Prop where
  len : ys.length = prs.length
  at_ : ∀ (i : Nat) (y : V) (pr : Int × Int), ys[i]? = some y → prs[i]? = some pr → FN C H p y pr.1 pr.2
theorem FNs.same {C : Addr} {H H' : Hp} {p : Int} {ys : List V} {prs : List (Int × Int)} (s : Same H H') (h : FNs C H p ys prs) : FNs C H' p ys prs := ⟨h.len, fun i y pr a b => (h.at_ i y pr a b).same s⟩
theorem FNs.nil {C : Addr} {H : Hp} {p : Int} : FNs C H p [] [] := ⟨rfl, fun i y pr a _ => by simp at a⟩
theorem get_snoc {α : Type} {l : List α} {x y : α} {i : Nat} (h : (l ++ [x])[i]? = some y) : l[i]? = some y ∨ (i = l.length ∧ y = x) := by
  rw [List.getElem?_append] at h
  split at h
  · exact .inl h
  · by_cases e : i = l.length
    · refine .inr ⟨e, ?_⟩
      rw [e] at h
      simpa using h.symm
    · rw [List.getElem?_eq_none (by simp; omega)] at h
      cases h
theorem get_len {α : Type} {l : List α} {y : α} {i : Nat} (h : l[i]? = some y) : i < l.length := (List.getElem?_eq_some_iff.mp h).1
theorem FNs.snoc {C : Addr} {H : Hp} {p : Int} {ys : List V} {prs : List (Int × Int)} {y : V} {pr : Int × Int} (h : FNs C H p ys prs) (a : FN C H p y pr.1 pr.2) : FNs C H p (ys ++ [y]) (prs ++ [pr]) := by
  refine ⟨by rw [List.length_append, List.length_append, h.len]; rfl, fun i z qr e1 e2 => ?_⟩
  rcases get_snoc e1 with e1 | ⟨i1, rfl⟩
  · rcases get_snoc e2 with e2 | ⟨i2, rfl⟩
    · exact h.at_ i z qr e1 e2
    · have := get_len e1
      have := h.len
      omega
  · rcases get_snoc e2 with e2 | ⟨i2, rfl⟩
    · have := get_len e2
      have := h.len
      omega
    · exact a
theorem FNs.upd {C : Addr} {H : Hp} {p : Int} {ys : List V} {prs : List (Int × Int)} {q : Addr} {xs : List V} {o : HO} (hq : H q = some (.lst xs)) (h : FNs C H p ys prs) : FNs C (L2.upd H q o) p ys prs := ⟨h.len, fun i y pr a b => (h.at_ i y pr a b).upd hq⟩
theorem FNs.take {C : Addr} {H : Hp} {p : Int} {ys : List V} {prs : List (Int × Int)} (h : FNs C H p ys prs) (n : Nat) : FNs C H p (ys.take n) (prs.take n) := by
  refine ⟨by rw [List.length_take, List.length_take, h.len], fun i y pr a b => ?_⟩
  rw [List.getElem?_take] at a b
  split at a
  · rename_i c
    rw [if_pos c] at b
    exact h.at_ i y pr a b
  · cases a
/-- what is given for a number of the field: its pair, or none if it is refused -/
def Giv (K : PySem.W.Frag) (C : Addr) (H : Hp) (p : Int) (v : V) : Option (Int × Int) → Prop
  | none => NmTy K C H v false ∨ ∃ t u, NumAt C H v t u ∧ 1 ≤ u ∧ Fit t ∧ Fit u ∧ p ≠ 0 ∧ u % p = 0
  | some a => ∃ t u, NumAt C H v t u ∧ 1 ≤ u ∧ Fit t ∧ Fit u ∧ (p = 0 → a = (t, u) ∧ Int.gcd t u = 1) ∧ (p ≠ 0 → u % p ≠ 0 ∧ a.2 = 1 ∧ 0 ≤ a.1 ∧ a.1 < p ∧ ∃ k, a.1 * u = t + k * p)
theorem Giv.same {K : PySem.W.Frag} {C : Addr} {H H' : Hp} {p : Int} {v : V} {o : Option (Int × Int)} (s : Same H H') (h : Giv K C H p v o) : Giv K C H' p v o := by
  cases o with
  | none =>
    rcases h with h | ⟨t, u, n, r⟩
    · exact .inl (h.same s)
    · exact .inr ⟨t, u, n.same s, r⟩
  | some a =>
    obtain ⟨t, u, n, r⟩ := h
    exact ⟨t, u, n.same s, r⟩
theorem num_uniq {p r r' t u k k' : Int} (hg : goodP p = true) (p0 : p ≠ 0) (up : u % p ≠ 0) (a0 : 0 ≤ r) (a1 : r < p) (b0 : 0 ≤ r') (b1 : r' < p) (e : r * u = t + k * p) (e' : r' * u = t + k' * p) : r = r' := by
  obtain ⟨p2, p3, hp⟩ := goodP_pos hg p0
  by_cases c : r = r'
  · exact c
  exfalso
  have key : ∀ x y kx ky : Int, 0 ≤ x → x < p → 0 ≤ y → y < p → y < x → x * u = t + kx * p → y * u = t + ky * p → False := by
    intro x y kx ky x0 x1 y0 y1 h ex ey
    have d : p ∣ (x - y) * u := ⟨kx - ky, by rw [Int.sub_mul, ex, ey, Int.mul_sub, Int.mul_comm p kx, Int.mul_comm p ky]; omega⟩
    have g := gcd_prime p2 p3 hp (show 1 ≤ x - y by omega) (by omega)
    have dn : p.natAbs ∣ (x - y).natAbs * u.natAbs := by
      rw [← Int.natAbs_mul]
      exact Int.natAbs_dvd_natAbs.mpr d
    have du : p.natAbs ∣ u.natAbs := Nat.Coprime.dvd_of_dvd_mul_left (show Nat.Coprime p.natAbs (x - y).natAbs from g) dn
    exact up (Int.emod_eq_zero_of_dvd (Int.natAbs_dvd_natAbs.mp du))
  rcases Int.lt_or_gt_of_ne c with h | h
  · exact key r' r k' k b0 b1 a0 a1 h e' e
  · exact key r r' k k' a0 a1 b0 b1 h e e'
def pre : List (Option (Int × Int)) → List (Int × Int)
  | some a :: r => a :: pre r
  | _ => []
theorem pre_app (prs : List (Int × Int)) (r : List (Option (Int × Int))) : pre (prs.map some ++ r) = prs ++ pre r := by
  induction prs with
  | nil => rfl
  | cons a l ih =>
    show a :: pre (l.map some ++ r) = _
    rw [ih]
    rfl
theorem pre_stop {os : List (Option (Int × Int))} {prs : List (Int × Int)} {i : Nat} (h : os.take i = prs.map some) (e : os[i]? = some none) : pre os = prs := by
  have s : os = os.take i ++ os.drop i := (List.take_append_drop i os).symm
  have d : os.drop i = none :: os.drop (i + 1) := by
    have hi := get_len e
    rw [List.drop_eq_getElem_cons hi]
    congr 1
    exact Option.some.inj ((List.getElem?_eq_getElem hi).symm.trans e)
  rw [s, h, d, pre_app]
  show prs ++ [] = prs
  rw [List.append_nil]
theorem pre_all {os : List (Option (Int × Int))} {prs : List (Int × Int)} (h : os = prs.map some) : pre os = prs := by
  have := pre_app prs []
  rw [List.append_nil] at this
  rw [h, this]
  show prs ++ [] = prs
  rw [List.append_nil]
structure Givs (K : PySem.W.Frag) (C : Addr) (H : Hp) (p : Int) (xs : List V) (os : List (Option (Int × Int))) : Prop where
  len : xs.length = os.length
  at_ : ∀ (i : Nat) (x : V) (o : Option (Int × Int)), xs[i]? = some x → os[i]? = some o → Giv K C H p x o
theorem Givs.same {K : PySem.W.Frag} {C : Addr} {H H' : Hp} {p : Int} {xs : List V} {os : List (Option (Int × Int))} (s : Same H H') (h : Givs K C H p xs os) : Givs K C H' p xs os := ⟨h.len, fun i x o a b => (h.at_ i x o a b).same s⟩
end Sq

-- needs HandS.ClsMeth
-- needs HandS.Conv
namespace Sq
open PySem L2 PyProof.Rows
abbrev s_isseq : Stmt := top 14
abbrev s_taken : Stmt := top 21
/-- is it a list or a tuple -/
def IsQ (K : PySem.W.Frag) (H : Hp) (v : V) (b : Bool) : Prop := ∃ t, TyX K H v t ∧ PySem.W.kitAny K t [.type "list", .type "tuple"] = some b
theorem IsQ.same {K : PySem.W.Frag} {H H' : Hp} {v : V} {b : Bool} (s : Same H H') (h : IsQ K H v b) : IsQ K H' v b := by
  obtain ⟨t, ty, k⟩ := h
  exact ⟨t, tyX_same s ty, k⟩
theorem kitQ {K : PySem.W.Frag} {t : Value} {a b : Bool} (h1 : PySem.W.kitOne K t (.type "list") = some a) (h2 : PySem.W.kitOne K t (.type "tuple") = some b) : PySem.W.kitAny K t [.type "list", .type "tuple"] = some (a || b) := by
  unfold PySem.W.kitAny
  rw [h1]
  cases a with
  | true => rfl
  | false =>
    show PySem.W.kitAny K t [.type "tuple"] = _
    unfold PySem.W.kitAny
    rw [h2]
    cases b with
    | true => rfl
    | false => rfl
def LT (H : Hp) (l : Addr) (xs : List V) : Prop := H l = some (.lst xs) ∨ H l = some (.tup xs)
theorem LT.same {H H' : Hp} {l : Addr} {xs : List V} (s : Same H H') (h : LT H l xs) : LT H' l xs := h.imp (s _ _) (s _ _)
theorem LT.isQ {K : PySem.W.Frag} {H : Hp} {l : Addr} {xs : List V} (h : LT H l xs) : IsQ K H (.ref l) true := by
  rcases h with h | h
  · exact ⟨.type "list", .base (.lst h), kitQ (a := true) (b := false) (kit_ty (by decide +kernel)) (kit_ty (by decide +kernel))⟩
  · exact ⟨.type "tuple", .base (.tup h), kitQ (a := false) (b := true) (kit_ty (by decide +kernel)) (kit_ty (by decide +kernel))⟩
theorem IsQ.ty {K : PySem.W.Frag} {H : Hp} {v : V} {T : String} (h : TyX K H v (.type T)) (h1 : PySem.W.kitOne K (.type T) (.type "list") = some false) (h2 : PySem.W.kitOne K (.type T) (.type "tuple") = some false) : IsQ K H v false := ⟨_, h, kitQ (a := false) (b := false) h1 h2⟩
def spSeq (K : PySem.W.Frag) : Sp := fun vs H Q _ => ∃ (v : V) (b : Bool), vs = [v] ∧ IsQ K H v b ∧ ∀ H', Same H H' → Q (.bl b) H'
def spTaken (K : PySem.W.Frag) (C CF : Addr) : Sp := fun vs H Q _ => ∃ (x l : Addr) (p : Int) (xs : List V) (os : List (Option (Int × Int))), vs = [.ref x, .ref l] ∧ FldAt CF H x p ∧ goodP p = true ∧ LT H l xs ∧ xs.length ≤ 200 ∧ Givs K C H p xs os ∧
  ∀ q ys H', Same H H' → H' q = some (.lst ys) → FNs C H' p ys (pre os) → Q (.ref q) H'
structure QTx (mg : Str → Option Value) : Prop where
  b_isinstance : mg "isinstance" = none
  b_list : mg "list" = none
  b_tuple : mg "tuple" = none
  b_len : mg "len" = none
section
variable {P : Program} {w : World} {K : PySem.W.Frag} {mg : Str → Option Value} {base : Heap}
theorem sc_isseq : FnScope ["value"] ["value"] (defScope s_isseq) := ⟨rfl, rfl, rfl, by decide +kernel, rfl, by decide +kernel, by decide +kernel⟩
theorem ok_isseq {f : Addr} {fd : FuncData} (F : Fun K "is_a_sequence" "is_a_sequence" s_isseq f fd) (B : QTx mg) : FnOk P w K mg base CX0 1 f fd ["value"] (spSeq K) := by
  refine F.ok sc_isseq (fun vs H Q E h => ?_) (fun cdv A outer s H vs Q E hr h => ?_)
  · obtain ⟨x, b, rfl, _⟩ := h
    rfl
  · obtain ⟨v, b, rfl, ⟨t, ty, kk⟩, k⟩ := h
    refine ⟨_, pss_one (ps_ret (pe_callB call_isiT (by rfl) B.b_isinstance (by decide +kernel) (pa_cons (pv 0) (pa_cons (pe_tup (pa_cons (pe_bltn (v := .ty "list") (by rfl) B.b_list (by decide +kernel) rfl) (pa_cons (pe_bltn (v := .ty "tuple") (by rfl) B.b_tuple (by decide +kernel) rfl) pa_nil))) pa_nil)))), ?_⟩
    refine ⟨_, rfl, (by show 2 ≤ sizeLine; decide), fun tp htp => ?_⟩
    have s1 : Same H (upd H tp (.tup [.ty "list", .ty "tuple"])) := same_new (Same.refl H) htp
    exact ⟨_, tp, _, t, _, b, rfl, upd_same, .cons (.ty _) (.cons (.ty _) .nil), tyX_same s1 ty, kk, k _ s1⟩
theorem sc_taken : FnScope ["field", "values", "numbers", "value"] ["field", "values"] (defScope s_taken) := ⟨rfl, rfl, rfl, by decide +kernel, rfl, by decide +kernel, by decide +kernel⟩
theorem ok_taken {f C CF CNN fnum : Addr} {fd fdnum : FuncData} (F : Fun K "taken" "taken" s_taken f fd) (TF : FTx K CF) (m_NN : mg "NoNumber" = some (.ref CNN)) (te : PySem.W.exmOne K (.ref CNN) (.ref CNN) = some true)
    (Me_num : Meth K CF "number" fnum) (G_num : FnOk P w K mg base (L2.CX P w) 8 fnum fdnum ["self", "value"] (spNum K C CF CNN)) (b_num : Binds K fdnum ["self", "value"] []) :
    FnOk P w K mg base CX0 9 f fd ["field", "values"] (spTaken K C CF) := by
  refine F.ok sc_taken (fun vs H Q E h => ?_) (fun cdv A outer s H vs Q E hr h => ?_)
  · obtain ⟨x, l, p, xs, os, rfl, _⟩ := h
    rfl
  · obtain ⟨x, l, p, xs, os, rfl, hx, hg, hl, hn, gv, k⟩ := h
    rcases hl with hl | hl
    · refine ⟨_, (pss_cons (ps_set (i := 2) sc_taken.nd rfl (Or.inl rfl) (pe_lst pa_nil))
        (pss_cons (ps_for PassesOwn.never rfl (pi_list (pv 1)) (pg_name (i := 3) sc_taken.nd rfl (Or.inl rfl))
          (pss_one (ps_try_only (tb := fun W => tDrop (tBM K "list" rAppend (tVar 2) (tCons (tMtS CF "number" (spNum K C CF CNN) (WE W) (tVar 0) (tCons (tVar 3) tNil)) tNil))) (Wout := fun _ _ _ _ => False) rfl rfl ⟨rfl, by decide, Or.inl m_NN⟩ takes0
            (fun W pn xe tk _ => pss_one (ps_expr (pe_bm PySem.F.plainAttrs_list PySem.F.slot_list_append PySem.F.type_list_append mt_append (pv 2) (pa_cons (pe_mtS (pv 0) TF.cl Me_num G_num (hr.mono (by decide)) b_num (fun σ => passAt tk σ) (pa_cons (pv 3) pa_nil)) pa_nil))))
            (fun a oe cls d pn hz hf => pss_one (ps_ret (pv 2))))))
        (pss_one (ps_ret (pv 2))))), ?_⟩
      refine ⟨(by show 0 ≤ sizeLine; decide), fun q hq => ?_⟩
      have sq := same_new (o := .lst []) (Same.refl H) hq
      refine ⟨_, rfl, l, rfl, ⟨xs, SqL.of (sq _ _ hl)⟩, ?_⟩
      refine for_list (xs := xs) (tb := fun D => (fun W => tDrop (tBM K "list" rAppend (tVar 2) (tCons (tMtS CF "number" (spNum K C CF CNN) (WE W) (tVar 0) (tCons (tVar 3) tNil)) tNil))) (wOnly K (.ref CNN) (fun a cls d => tRet (tVar 2)) (fun _ _ _ _ => False) D) D) (fun i σ H' => ∃ (v : Option V) (ys : List V) (prs : List (Int × Int)), σ = [some (.ref x), some (.ref l), some (.ref q), v] ∧ Same H H' ∧ H' q = some (.lst ys) ∧ os.take i = prs.map some ∧ FNs C H' p ys prs)
        ⟨none, [], [], rfl, sq, upd_same, rfl, FNs.nil⟩ (fun i σ H' _ h => ?_) ?_ ?_
      · obtain ⟨_, _, _, _, s1, _⟩ := h
        exact SqL.of (s1 _ _ hl)
      · rintro i z σ H2 hi ⟨v, ys, prs, rfl, s2, hq2, ho, fn⟩
        obtain ⟨dx, hx0⟩ := id hx
        have li : i < xs.length := get_len hi
        have lo : i < os.length := by rw [← gv.len]; exact li
        have ly : ys.length = i := by
          have h1 := congrArg List.length ho
          rw [List.length_take, List.length_map] at h1
          rw [fn.len]
          omega
        have ei : os[i]? = some os[i] := List.getElem?_eq_getElem lo
        have g0 := gv.at_ i z _ hi ei
        generalize os[i] = o at *
        refine ⟨_, rfl, .inl ⟨rfl, _, SqL.of hq2⟩, _, rfl, x, dx, _, rfl, s2 _ _ hx0, pf_no _ (by decide +kernel), _, rfl, x, z, p, rfl, hx.same s2, hg, ?_⟩
        have stop : o = none → WE (wOnly K (.ref CNN) (fun a cls d => tRet (tVar 2)) (fun _ _ _ _ => False) { nx := fun σ H' => ∃ (v : Option V) (ys : List V) (prs : List (Int × Int)), σ = [some (.ref x), some (.ref l), some (.ref q), v] ∧ Same H H' ∧ H' q = some (.lst ys) ∧ os.take (i + 1) = prs.map some ∧ FNs C H' p ys prs, rt := Q }) [some (.ref x), some (.ref l), some (.ref q), some z] (.ref CNN) none H2 := fun e => by
          subst e
          refine ⟨true, te, fun _ a ha => ⟨_, rfl, ?_⟩, fun q => Bool.noConfusion q⟩
          exact k q ys _ s2 hq2 (by rw [pre_stop ho ei]; exact fn)
        cases o with
        | none =>
          rcases g0 with g0 | ⟨t, u, n, pu, st, su, p0, um⟩
          · exact .inl ⟨g0.same s2, stop rfl⟩
          · exact .inr ⟨t, u, n.same s2, pu, fit_up st, fit_up su, fun h => absurd h p0, fun _ _ => stop rfl, fun _ h => absurd um h⟩
        | some a =>
          obtain ⟨t, u, n, pu, st, su, h0, hp⟩ := g0
          have ot : os.take (i + 1) = (prs ++ [a]).map some := by
            rw [take_more ei, ho, List.map_append]
            rfl
          have go : ∀ y H3, Same H2 H3 → FN C H3 p y a.1 a.2 → ∃ l' xs' y', V.ref q = .ref l' ∧ [y] = [y'] ∧ H3 l' = some (.lst xs') ∧ xs'.length < sizeLine ∧ (∃ (v : Option V) (ys : List V) (prs : List (Int × Int)), [some (V.ref x), some (.ref l), some (.ref q), some z] = [some (.ref x), some (.ref l), some (.ref q), v] ∧ Same H (upd H3 l' (.lst (xs' ++ [y']))) ∧ (upd H3 l' (.lst (xs' ++ [y']))) q = some (.lst ys) ∧ os.take (i + 1) = prs.map some ∧ FNs C (upd H3 l' (.lst (xs' ++ [y']))) p ys prs) := fun y H3 s3 f => by
            have hq3 := s3 _ _ hq2
            refine ⟨q, ys, y, rfl, rfl, hq3, ?_, some z, ys ++ [y], prs ++ [a], rfl, same_at (s2.trans s3) hq, upd_same, ot, ((fn.same s3).snoc f).upd hq3⟩
            have e : (sizeLine : Nat) = 16777216 := sizeLine_eq
            omega
          refine .inr ⟨t, u, n.same s2, pu, fit_up st, fit_up su, fun p0 r H3 R s3 => ?_, fun p0 up => absurd up (hp p0).1, fun p0 up r H3 r0 r1 ⟨kk, hk⟩ s3 => ?_⟩
          · obtain ⟨rfl, cop⟩ := h0 p0
            exact go (.ref r) H3 s3 (.inl ⟨p0, ⟨r, rfl, R⟩, pu, cop⟩)
          · obtain ⟨_, a2, a0, a1, k2, hk2⟩ := hp p0
            have e := num_uniq hg p0 up r0 r1 a0 a1 hk hk2
            exact go (.int r) H3 s3 (.inr ⟨p0, by rw [e], a2, a0, a1⟩)
      · rintro σ H2 ⟨v, ys, prs, rfl, s2, hq2, ho, fn⟩
        refine ⟨_, rfl, k q ys _ s2 hq2 ?_⟩
        rw [gv.len, List.take_length] at ho
        rw [pre_all ho]
        exact fn
    · refine ⟨_, (pss_cons (ps_set (i := 2) sc_taken.nd rfl (Or.inl rfl) (pe_lst pa_nil))
        (pss_cons (ps_for PassesOwn.never rfl (pi_tup (pv 1)) (pg_name (i := 3) sc_taken.nd rfl (Or.inl rfl))
          (pss_one (ps_try_only (tb := fun W => tDrop (tBM K "list" rAppend (tVar 2) (tCons (tMtS CF "number" (spNum K C CF CNN) (WE W) (tVar 0) (tCons (tVar 3) tNil)) tNil))) (Wout := fun _ _ _ _ => False) rfl rfl ⟨rfl, by decide, Or.inl m_NN⟩ takes0
            (fun W pn xe tk _ => pss_one (ps_expr (pe_bm PySem.F.plainAttrs_list PySem.F.slot_list_append PySem.F.type_list_append mt_append (pv 2) (pa_cons (pe_mtS (pv 0) TF.cl Me_num G_num (hr.mono (by decide)) b_num (fun σ => passAt tk σ) (pa_cons (pv 3) pa_nil)) pa_nil))))
            (fun a oe cls d pn hz hf => pss_one (ps_ret (pv 2))))))
        (pss_one (ps_ret (pv 2))))), ?_⟩
      refine ⟨(by show 0 ≤ sizeLine; decide), fun q hq => ?_⟩
      have sq := same_new (o := .lst []) (Same.refl H) hq
      refine ⟨_, rfl, l, rfl, ⟨xs, SqT.of (sq _ _ hl)⟩, ?_⟩
      refine for_tup (xs := xs) (tb := fun D => (fun W => tDrop (tBM K "list" rAppend (tVar 2) (tCons (tMtS CF "number" (spNum K C CF CNN) (WE W) (tVar 0) (tCons (tVar 3) tNil)) tNil))) (wOnly K (.ref CNN) (fun a cls d => tRet (tVar 2)) (fun _ _ _ _ => False) D) D) (fun i σ H' => ∃ (v : Option V) (ys : List V) (prs : List (Int × Int)), σ = [some (.ref x), some (.ref l), some (.ref q), v] ∧ Same H H' ∧ H' q = some (.lst ys) ∧ os.take i = prs.map some ∧ FNs C H' p ys prs)
        ⟨none, [], [], rfl, sq, upd_same, rfl, FNs.nil⟩ (fun i σ H' _ h => ?_) ?_ ?_
      · obtain ⟨_, _, _, _, s1, _⟩ := h
        exact SqT.of (s1 _ _ hl)
      · rintro i z σ H2 hi ⟨v, ys, prs, rfl, s2, hq2, ho, fn⟩
        obtain ⟨dx, hx0⟩ := id hx
        have li : i < xs.length := get_len hi
        have lo : i < os.length := by rw [← gv.len]; exact li
        have ly : ys.length = i := by
          have h1 := congrArg List.length ho
          rw [List.length_take, List.length_map] at h1
          rw [fn.len]
          omega
        have ei : os[i]? = some os[i] := List.getElem?_eq_getElem lo
        have g0 := gv.at_ i z _ hi ei
        generalize os[i] = o at *
        refine ⟨_, rfl, .inl ⟨rfl, _, SqL.of hq2⟩, _, rfl, x, dx, _, rfl, s2 _ _ hx0, pf_no _ (by decide +kernel), _, rfl, x, z, p, rfl, hx.same s2, hg, ?_⟩
        have stop : o = none → WE (wOnly K (.ref CNN) (fun a cls d => tRet (tVar 2)) (fun _ _ _ _ => False) { nx := fun σ H' => ∃ (v : Option V) (ys : List V) (prs : List (Int × Int)), σ = [some (.ref x), some (.ref l), some (.ref q), v] ∧ Same H H' ∧ H' q = some (.lst ys) ∧ os.take (i + 1) = prs.map some ∧ FNs C H' p ys prs, rt := Q }) [some (.ref x), some (.ref l), some (.ref q), some z] (.ref CNN) none H2 := fun e => by
          subst e
          refine ⟨true, te, fun _ a ha => ⟨_, rfl, ?_⟩, fun q => Bool.noConfusion q⟩
          exact k q ys _ s2 hq2 (by rw [pre_stop ho ei]; exact fn)
        cases o with
        | none =>
          rcases g0 with g0 | ⟨t, u, n, pu, st, su, p0, um⟩
          · exact .inl ⟨g0.same s2, stop rfl⟩
          · exact .inr ⟨t, u, n.same s2, pu, fit_up st, fit_up su, fun h => absurd h p0, fun _ _ => stop rfl, fun _ h => absurd um h⟩
        | some a =>
          obtain ⟨t, u, n, pu, st, su, h0, hp⟩ := g0
          have ot : os.take (i + 1) = (prs ++ [a]).map some := by
            rw [take_more ei, ho, List.map_append]
            rfl
          have go : ∀ y H3, Same H2 H3 → FN C H3 p y a.1 a.2 → ∃ l' xs' y', V.ref q = .ref l' ∧ [y] = [y'] ∧ H3 l' = some (.lst xs') ∧ xs'.length < sizeLine ∧ (∃ (v : Option V) (ys : List V) (prs : List (Int × Int)), [some (V.ref x), some (.ref l), some (.ref q), some z] = [some (.ref x), some (.ref l), some (.ref q), v] ∧ Same H (upd H3 l' (.lst (xs' ++ [y']))) ∧ (upd H3 l' (.lst (xs' ++ [y']))) q = some (.lst ys) ∧ os.take (i + 1) = prs.map some ∧ FNs C (upd H3 l' (.lst (xs' ++ [y']))) p ys prs) := fun y H3 s3 f => by
            have hq3 := s3 _ _ hq2
            refine ⟨q, ys, y, rfl, rfl, hq3, ?_, some z, ys ++ [y], prs ++ [a], rfl, same_at (s2.trans s3) hq, upd_same, ot, ((fn.same s3).snoc f).upd hq3⟩
            have e : (sizeLine : Nat) = 16777216 := sizeLine_eq
            omega
          refine .inr ⟨t, u, n.same s2, pu, fit_up st, fit_up su, fun p0 r H3 R s3 => ?_, fun p0 up => absurd up (hp p0).1, fun p0 up r H3 r0 r1 ⟨kk, hk⟩ s3 => ?_⟩
          · obtain ⟨rfl, cop⟩ := h0 p0
            exact go (.ref r) H3 s3 (.inl ⟨p0, ⟨r, rfl, R⟩, pu, cop⟩)
          · obtain ⟨_, a2, a0, a1, k2, hk2⟩ := hp p0
            have e := num_uniq hg p0 up r0 r1 a0 a1 hk hk2
            exact go (.int r) H3 s3 (.inr ⟨p0, by rw [e], a2, a0, a1⟩)
      · rintro σ H2 ⟨v, ys, prs, rfl, s2, hq2, ho, fn⟩
        refine ⟨_, rfl, k q ys _ s2 hq2 ?_⟩
        rw [gv.len, List.take_length] at ho
        rw [pre_all ho]
        exact fn
end
end Sq

namespace Sq
open PySem L2 PyProof.Rows
def NotC (K : PySem.W.Frag) (H : Hp) (v : V) (D : Addr) : Prop := ∃ t, TyX K H v t ∧ PySem.W.kitOne K t (.ref D) = some false
theorem NotC.same {K : PySem.W.Frag} {H H' : Hp} {v : V} {D : Addr} (s : Same H H') (h : NotC K H v D) : NotC K H' v D := by
  obtain ⟨t, ty, k⟩ := h
  exact ⟨t, tyX_same s ty, k⟩
inductive RowIn (K : PySem.W.Frag) (C : Addr) (H : Hp) (p : Int) (most : Nat) : V → Option (List (Option (Int × Int))) → Prop where
  | no {v : V} (h : IsQ K H v false) : RowIn K C H p most v none
  | long {l : Addr} {xs : List V} (h : LT H l xs) (n : most < xs.length) : RowIn K C H p most (.ref l) none
  | row {l : Addr} {xs : List V} {os : List (Option (Int × Int))} (h : LT H l xs) (n : xs.length ≤ most) (g : Givs K C H p xs os) : RowIn K C H p most (.ref l) (some os)
theorem pre_le : ∀ os : List (Option (Int × Int)), (pre os).length ≤ os.length
  | [] => Nat.le_refl _
  | none :: r => Nat.zero_le _
  | some a :: r => Nat.succ_le_succ (pre_le r)
theorem fn_eq0 {K : PySem.W.Frag} {C : Addr} {H : Hp} {p t u : Int} {y : V} {Q : VK} {E : XK} (nf1 : PySem.W.notFirst K C (.type "int") = true) (h : FN C H p y t u) (k : Q (.bl (decide (t = 0))) H) : rEq y (.int 0) H Q ∨ rOwnEq K C (spR_eq K C) E y (.int 0) H Q := by
  rcases h with ⟨_, ⟨r, rfl, R⟩, pu, cop⟩ | ⟨_, rfl, _, _⟩
  · obtain ⟨dr, hr⟩ := id R
    refine .inr ⟨r, dr, _, _, rfl, hr, .base (.int _), nf1, r, .int 0, t, u, rfl, R, .inr (.inl ⟨0, rfl, ?_⟩)⟩
    have e : decide (u = 1 ∧ t = 0) = decide (t = 0) := by
      by_cases c : t = 0
      · have u1 : u = 1 := by
          rw [c] at cop
          simp at cop
          omega
        rw [decide_eq_true c, decide_eq_true ⟨u1, c⟩]
      · rw [decide_eq_false c, decide_eq_false fun e => c e.2]
    rw [e]
    exact k
  · refine .inl ⟨rfl, ?_⟩
    have e : decide (V.int t = V.int 0) = decide (t = 0) := by
      by_cases c : t = 0
      · rw [decide_eq_true c, c, decide_eq_true rfl]
      · rw [decide_eq_false c, decide_eq_false fun e => c (V.int.inj e)]
    rw [e]
    exact k
theorem take_cut (ys : List V) (n : Nat) : cutV ys none (some ((n : Nat) : Int)) = ys.take n := by
  unfold cutV
  rw [HT.sIx_none, HT.sIx_nat, List.drop_zero, Nat.sub_zero]
  by_cases h : n ≤ ys.length
  · rw [Nat.min_eq_left h]
  · rw [Nat.min_eq_right (by omega), List.take_of_length_le (by simp), List.take_of_length_le (by omega)]
theorem RatAt.but {C D : Addr} {H H' : Hp} {x y dy : Addr} {t u : Int} (hy : H y = some (.ins D dy [])) (b : But y H H') (h : RatAt C H x t u) : RatAt C H' x t u := by
  obtain ⟨dx, h⟩ := h
  refine ⟨dx, b _ _ h fun e => ?_⟩
  rw [e, hy] at h
  have e2 : rfl_ t u = [] := by
    injection (Option.some.inj h) with _ _ e3
    exact e3.symm
  have := rf_top t u
  rw [e2] at this
  cases this
theorem FldAt.but {C D : Addr} {H H' : Hp} {x y dy : Addr} {p : Int} (hy : H y = some (.ins D dy [])) (b : But y H H') (h : FldAt C H x p) : FldAt C H' x p := by
  obtain ⟨dx, h⟩ := h
  refine ⟨dx, b _ _ h fun e => ?_⟩
  rw [e, hy] at h
  have e2 : pfl p = [] := by
    injection (Option.some.inj h) with _ _ e3
    exact e3.symm
  have := pf_prime p
  rw [e2] at this
  cases this
theorem FN.but {C D : Addr} {H H' : Hp} {y dy : Addr} {p t u : Int} {v : V} (hy : H y = some (.ins D dy [])) (b : But y H H') (h : FN C H p v t u) : FN C H' p v t u := by
  rcases h with ⟨p0, ⟨r, e, R⟩, a, c⟩ | h
  · exact .inl ⟨p0, ⟨r, e, R.but hy b⟩, a, c⟩
  · exact .inr h
theorem FNs.but {C D : Addr} {H H' : Hp} {y dy : Addr} {p : Int} {ys : List V} {prs : List (Int × Int)} (hy : H y = some (.ins D dy [])) (b : But y H H') (h : FNs C H p ys prs) : FNs C H' p ys prs := ⟨h.len, fun i z pr e1 e2 => (h.at_ i z pr e1 e2).but hy b⟩
theorem op_eqNil {X : Cx} (hu : X.A.units < cLine) : OpR X (compareOp .Eq) (fun x y H Q => ∃ a b xs, x = .ref a ∧ y = .ref b ∧ SqL X.K H a xs ∧ SqL X.K H b [] ∧ Q (.bl xs.isEmpty) H) := by
  intro pins s σ H x y v u Q I rx ry h
  obtain ⟨a, b, xs, rfl, rfl, ha, hb, q⟩ := h
  cases rx
  cases ry
  obtain ⟨its, rv, hl, _⟩ := I.list ha
  obtain ⟨jts, rw', hl', _⟩ := I.list hb
  have e0 : jts = [] := by
    cases rw'
    rfl
  subst e0
  cases xs with
  | nil =>
    have e1 : its = [] := by
      cases rv
      rfl
    subst e1
    refine SeqAt.eq_listAt (e := fun _ => true) hl.isList hl'.isList rfl hu (fun j h1 _ => absurd h1 (by simp)) ⟨.bl _, H, I, rfl, q⟩
  | cons z zs =>
    refine SeqAt.eq_list_lengthsAt hl.isList hl'.isList ?_ hu ⟨.bl _, H, I, rfl, q⟩
    cases rv
    simp
theorem RowIn.same {K : PySem.W.Frag} {C : Addr} {H H' : Hp} {p : Int} {n : Nat} {v : V} {o : Option (List (Option (Int × Int)))} (s : Same H H') (h : RowIn K C H p n v o) : RowIn K C H' p n v o := by
  cases h with
  | no h => exact .no (h.same s)
  | long h n => exact .long (h.same s) n
  | row h n g => exact .row (h.same s) n (g.same s)
structure KRd (K : PySem.W.Frag) (C CRd : Addr) : Prop where
  kint : PySem.W.kitOne K (.type "int") (.ref CRd) = some false
  kstr : PySem.W.kitOne K (.type "str") (.ref CRd) = some false
  knon : PySem.W.kitOne K (.type "NoneType") (.ref CRd) = some false
  kbool : PySem.W.kitOne K (.type "bool") (.ref CRd) = some false
  klist : PySem.W.kitOne K (.type "list") (.ref CRd) = some false
  ktup : PySem.W.kitOne K (.type "tuple") (.ref CRd) = some false
  kdict : PySem.W.kitOne K (.type "dict") (.ref CRd) = some false
  krat : PySem.W.kitOne K (.ref C) (.ref CRd) = some false
  rl : PySem.W.kitOne K (.ref C) (.type "list") = some false
  rt : PySem.W.kitOne K (.ref C) (.type "tuple") = some false
structure KZ3 (K : PySem.W.Frag) (C : Addr) : Prop where
  kbool : PySem.W.kitOne K (.type "bool") (.ref C) = some false
  klist : PySem.W.kitOne K (.type "list") (.ref C) = some false
  ktup : PySem.W.kitOne K (.type "tuple") (.ref C) = some false
  kdict : PySem.W.kitOne K (.type "dict") (.ref C) = some false
theorem t2_sh (s : Str) (n : Int) (hs : PyData.strOk s = true) : SeqAt.shaped (.tuple [.str s, .int n]) = true := by
  simp [SeqAt.shaped, PyData.canLay0, PyData.canLayAll0, PyData.depth, PyData.depthAll, hs]
theorem t2_dp {K : PySem.W.Frag} {H : Hp} {q : Addr} {s : Str} {n : Int} (h : H q = some (.tup [.str s, .int n])) : Dp K H (.ref q) (.tuple [.str s, .int n]) := .tup (SqT.of h) (.cons (.str _) (.cons (.int _) .nil))
theorem ne_same {K : PySem.W.Frag} {H : Hp} {p q : Addr} {s : Str} {n : Int} {Q : VK} (hp : H p = some (.tup [.str s, .int n])) (hq : H q = some (.tup [.str s, .int n])) (k : Q (.bl false) H) (hs : PyData.strOk s = true := by decide +kernel) : rNeD K (.ref p) (.ref q) H Q :=
  ⟨_, _, t2_dp hp, t2_dp hq, t2_sh s n hs, t2_sh s n hs, by
    rw [SeqAt.eqv_refl _ (SeqAt.canLay_of_shaped (t2_sh s n hs))]
    exact k⟩
theorem eq_same {K : PySem.W.Frag} {H : Hp} {p q : Addr} {s : Str} {n : Int} {Q : VK} (hp : H p = some (.tup [.str s, .int n])) (hq : H q = some (.tup [.str s, .int n])) (k : Q (.bl true) H) (hs : PyData.strOk s = true := by decide +kernel) : rEqD K (.ref p) (.ref q) H Q :=
  ⟨_, _, t2_dp hp, t2_dp hq, t2_sh s n hs, t2_sh s n hs, by
    rw [SeqAt.eqv_refl _ (SeqAt.canLay_of_shaped (t2_sh s n hs))]
    exact k⟩
theorem eq_str {K : PySem.W.Frag} {H : Hp} {p q : Addr} {s s' : Str} {n n' : Int} {Q : VK} (hp : H p = some (.tup [.str s, .int n])) (hq : H q = some (.tup [.str s', .int n'])) (ne : ¬ s = s') (k : Q (.bl false) H) (hs : PyData.strOk s = true := by decide +kernel) (hs' : PyData.strOk s' = true := by decide +kernel) : rEqD K (.ref p) (.ref q) H Q :=
  ⟨_, _, t2_dp hp, t2_dp hq, t2_sh s n hs, t2_sh s' n' hs', by
    have e : PyData.eqv (.tuple [.str s, .int n]) (.tuple [.str s', .int n']) = false := by
      simp [PyData.eqv, PyData.eqvAll, ne]
    rw [e]
    exact k⟩
theorem ix_ok {n : Nat} {i : Int} (h0 : 0 ≤ i) (h1 : i < n) : ixN n i = some i.toNat := by
  unfold ixN
  rw [if_pos h0, if_pos h1]
theorem rep_one (n : Nat) (v : V) : (List.replicate n [v]).flatten = List.replicate n v := by
  induction n with
  | zero => rfl
  | succ n ih =>
    rw [List.replicate_succ, List.flatten_cons, ih]
    rfl
theorem RatAt.updl {C : Addr} {H : Hp} {x q : Addr} {t u : Int} {xs : List V} {o : HO} (hq : H q = some (.lst xs)) (h : RatAt C H x t u) : RatAt C (L2.upd H q o) x t u := by
  obtain ⟨dx, R⟩ := h
  refine ⟨dx, (upd_ne fun z => ?_).trans R⟩
  rw [z, hq] at R
  cases R
theorem pre_at : ∀ {os : List (Option (Int × Int))} {i : Nat}, (∀ k, k < i → ∃ a, os[k]? = some (some a)) → os[i]? = some none → (pre os).length = i
  | [], i, _, e => by simp at e
  | none :: r, 0, _, _ => rfl
  | none :: r, i + 1, h, _ => by
    obtain ⟨a, e⟩ := h 0 (Nat.zero_lt_succ _)
    simp at e
  | some a :: r, 0, _, e => by simp at e
  | some a :: r, i + 1, h, e => by
    show (pre r).length + 1 = i + 1
    rw [pre_at (os := r) (i := i) (fun k hk => h (k + 1) (by omega)) (by simpa using e)]
theorem pre_set1 (prs : List (Int × Int)) {j : Nat} (h : j < prs.length) : (pre ((prs.map some).set j none)).length = j := by
  refine pre_at (fun k hk => ?_) ?_
  · rw [List.getElem?_set_ne (by omega), List.getElem?_map, List.getElem?_eq_getElem (by omega)]
    exact ⟨_, rfl⟩
  · exact List.getElem?_set_self (by simpa using h)
theorem pre_set2 (prs : List (Int × Int)) {j1 j2 : Nat} (h1 : j1 < prs.length) (h2 : j2 < prs.length) : (pre (((prs.map some).set j1 none).set j2 none)).length = min j1 j2 := by
  refine pre_at (fun k hk => ?_) ?_
  · rw [List.getElem?_set_ne (by omega), List.getElem?_set_ne (by omega), List.getElem?_map, List.getElem?_eq_getElem (by omega)]
    exact ⟨_, rfl⟩
  · by_cases c : j2 ≤ j1
    · rw [Nat.min_eq_right c]
      exact List.getElem?_set_self (by simpa using h2)
    · rw [Nat.min_eq_left (by omega), List.getElem?_set_ne (by omega)]
      exact List.getElem?_set_self (by simpa using h1)
theorem pre_map (prs : List (Int × Int)) : (pre (prs.map some)).length = (prs.map some).length := by
  rw [pre_all rfl, List.length_map]
theorem Givs.set {K : PySem.W.Frag} {C : Addr} {H : Hp} {p : Int} {xs : List V} {os : List (Option (Int × Int))} {v : V} {o : Option (Int × Int)} (h : Givs K C H p xs os) (g : Giv K C H p v o) (j : Nat) : Givs K C H p (xs.set j v) (os.set j o) := by
  refine ⟨by rw [List.length_set, List.length_set, h.len], fun i x o' e1 e2 => ?_⟩
  rw [List.getElem?_set] at e1 e2
  by_cases c : j = i
  · rw [if_pos c] at e1 e2
    split at e1
    · cases e1
      split at e2
      · cases e2
        exact g
      · cases e2
    · cases e1
  · rw [if_neg c] at e1 e2
    exact h.at_ i x o' e1 e2
theorem givs_rep {K : PySem.W.Frag} {C : Addr} {H : Hp} {p : Int} {n : Nat} {v : V} {o : Option (Int × Int)} (g : Giv K C H p v o) : Givs K C H p (List.replicate n v) (List.replicate n o) := by
  refine ⟨by simp, fun i x o' e1 e2 => ?_⟩
  rw [List.getElem?_replicate] at e1 e2
  split at e1
  · rename_i c
    rw [if_pos c] at e2
    cases e1
    cases e2
    exact g
  · cases e1
theorem pre_rep (n : Nat) (a : Int × Int) : (pre (List.replicate n (some a))).length = (List.replicate n (some a)).length := by
  have : List.replicate n (some a) = (List.replicate n a).map some := by simp
  rw [this]
  exact pre_map _
theorem fit1 : Fit 1 := fit_one
theorem FldAt.updl {C : Addr} {H : Hp} {x q : Addr} {p : Int} {xs : List V} {o : HO} (hq : H q = some (.lst xs)) (h : FldAt C H x p) : FldAt C (L2.upd H q o) x p := by
  obtain ⟨dx, R⟩ := h
  refine ⟨dx, (upd_ne fun z => ?_).trans R⟩
  rw [z, hq] at R
  cases R
theorem NumAt.updl {C : Addr} {H : Hp} {v : V} {q : Addr} {t u : Int} {xs : List V} {o : HO} (hq : H q = some (.lst xs)) (h : NumAt C H v t u) : NumAt C (L2.upd H q o) v t u := by
  rcases h with ⟨r, e, R⟩ | h
  · exact .inl ⟨r, e, R.updl hq⟩
  · exact .inr h
theorem Givs.updl {K : PySem.W.Frag} {C : Addr} {H : Hp} {p : Int} {q : Addr} {ys xs : List V} {prs : List (Int × Int)} {o : HO} (hq : H q = some (.lst xs)) (h : Givs K C H p ys (prs.map some)) : Givs K C (L2.upd H q o) p ys (prs.map some) := by
  refine ⟨h.len, fun i x oo e1 e2 => ?_⟩
  have g := h.at_ i x oo e1 e2
  rw [List.getElem?_map] at e2
  cases e3 : prs[i]? with
  | none => rw [e3] at e2; cases e2
  | some a =>
    rw [e3] at e2
    cases e2
    obtain ⟨t, u, n, r⟩ := g
    exact ⟨t, u, n.updl hq, r⟩
theorem Givs.snoc {K : PySem.W.Frag} {C : Addr} {H : Hp} {p : Int} {ys : List V} {os : List (Option (Int × Int))} {y : V} {o : Option (Int × Int)} (h : Givs K C H p ys os) (a : Giv K C H p y o) : Givs K C H p (ys ++ [y]) (os ++ [o]) := by
  refine ⟨by rw [List.length_append, List.length_append, h.len]; rfl, fun i z qr e1 e2 => ?_⟩
  rcases get_snoc e1 with e1 | ⟨i1, rfl⟩
  · rcases get_snoc e2 with e2 | ⟨i2, rfl⟩
    · exact h.at_ i z qr e1 e2
    · have := get_len e1
      have := h.len
      omega
  · rcases get_snoc e2 with e2 | ⟨i2, rfl⟩
    · have := get_len e2
      have := h.len
      omega
    · exact a
theorem passLS {X : Cx} {σ : L2.St} : PassesAt (L2.CX X.prog X.w) X σ E0 := fun pins H s e s' I h => passL pins σ H s e s' I h
end Sq

namespace Sq
open PySem L2 PyProof.Rows
/-! ### arithmetic of pairs -/
def shr (t u : Int) : Int := if u < 0 then -((Int.gcd t u : Nat) : Int) else ((Int.gcd t u : Nat) : Int)
def lowp (t u : Int) : Int × Int := (t.fdiv (shr t u), u.fdiv (shr t u))
theorem low_lowp (t : Int) {u : Int} (h : u ≠ 0) : Low t u (lowp t u).1 (lowp t u).2 := by
  unfold lowp shr
  by_cases c : u < 0
  · rw [if_pos c]
    exact low_of h (.inr ⟨rfl, c⟩)
  · rw [if_neg c]
    exact low_of h (.inl ⟨rfl, by omega⟩)
theorem low_is {a b t u : Int} (hb : b ≠ 0) (L : Low a b t u) : (t, u) = lowp a b := by
  have := (low_eq hb hb L (low_lowp a hb)).mpr rfl
  rw [this.1, this.2]
def npair (p t u : Int) : Int × Int := if p = 0 then lowp t u else (t % p, 1)
def timesP (p : Int) (a b : Int × Int) : Int × Int := npair p (a.1 * b.1) (a.2 * b.2)
def plusP (p : Int) (a b : Int × Int) : Int × Int := npair p (a.1 * b.2 + b.1 * a.2) (a.2 * b.2)
def horner (p : Int) (x : Int × Int) (prs : List (Int × Int)) : Int × Int := prs.foldr (fun c acc => plusP p (timesP p acc x) c) (0, 1)
def Bd (n : Nat) (a : Int × Int) : Prop := a.1.natAbs < 2 ^ n ∧ a.2.natAbs < 2 ^ n
theorem Bd.le {n m : Nat} {a : Int × Int} (h : Bd n a) (l : n ≤ m) : Bd m a := ⟨Nat.lt_of_lt_of_le h.1 (Nat.pow_le_pow_right (by decide) l), Nat.lt_of_lt_of_le h.2 (Nat.pow_le_pow_right (by decide) l)⟩
theorem Bd.fit {n : Nat} {a : Int × Int} (h : Bd n a) (l : n ≤ 1500) : Fit a.1 ∧ Fit a.2 := h.le l
theorem npair_bd {n : Nat} {t u : Int} (hu : u ≠ 0) (ht : t.natAbs < 2 ^ n) (hv : u.natAbs < 2 ^ n) : Bd n (npair 0 t u) := by
  unfold npair
  rw [if_pos rfl]
  have L := low_lowp t hu
  exact ⟨Nat.lt_of_le_of_lt L.lt ht, Nat.lt_of_le_of_lt L.lu hv⟩
theorem npair_pos {t u : Int} (hu : u ≠ 0) : 1 ≤ (npair 0 t u).2 := by
  unfold npair
  rw [if_pos rfl]
  exact (low_lowp t hu).pos
theorem times_bd {n m : Nat} {a b : Int × Int} (ha : Bd n a) (hb : Bd m b) (pa : 1 ≤ a.2) (pb : 1 ≤ b.2) : Bd (n + m) (timesP 0 a b) := npair_bd (mul_ne (by omega) (by omega)) (wide_lt ha.1 hb.1) (wide_lt ha.2 hb.2)
theorem plus_bd {n m : Nat} {a b : Int × Int} (ha : Bd n a) (hb : Bd m b) (pa : 1 ≤ a.2) (pb : 1 ≤ b.2) : Bd (n + m + 1) (plusP 0 a b) := by
  have h1 : (a.1 * b.2).natAbs < 2 ^ (n + m) := wide_lt ha.1 hb.2
  have h2 : (b.1 * a.2).natAbs < 2 ^ (n + m) := by
    rw [Nat.add_comm]
    exact wide_lt hb.1 ha.2
  refine npair_bd (mul_ne (by omega) (by omega)) ?_ (Nat.lt_of_lt_of_le (wide_lt ha.2 hb.2) (Nat.pow_le_pow_right (by decide) (by omega)))
  rw [Nat.pow_succ]
  omega
/-- a number before it is taken into the field -/
def Raw (C : Addr) (H : Hp) (p : Int) (v : V) (s : Int × Int) : Prop := (p = 0 ∧ FN C H p v s.1 s.2) ∨ (p ≠ 0 ∧ ∃ n, v = .int n ∧ n % p = s.1 ∧ s.2 = 1 ∧ n.natAbs < 2 ^ 60)
theorem Raw.same {C : Addr} {H H' : Hp} {p : Int} {v : V} {a : Int × Int} (s : Same H H') (h : Raw C H p v a) : Raw C H' p v a := h.imp (fun ⟨a, b⟩ => ⟨a, b.same s⟩) id
theorem fit60 {n : Int} (h : n.natAbs < 2 ^ 60) : Fit n := Nat.lt_of_lt_of_le h (Nat.pow_le_pow_right (by decide) (by decide))
def nrm (p i : Int) : Int := if p = 0 then i else i % p
theorem giv_int {K : PySem.W.Frag} {C : Addr} {H : Hp} {p i : Int} (hg : goodP p = true) (h : Fit i) : Giv K C H p (.int i) (some (nrm p i, 1)) := by
  refine ⟨i, 1, .inr ⟨rfl, rfl⟩, by decide, h, fit_one, fun p0 => ⟨by unfold nrm; rw [if_pos p0], Int.gcd_one_right _⟩, fun p0 => ?_⟩
  obtain ⟨p2, _, _⟩ := goodP_pos hg p0
  have e : nrm p i = i % p := if_neg p0
  refine ⟨by rw [Int.emod_eq_of_lt (by decide) (by omega)]; decide, rfl, ?_, ?_, ?_⟩
  · show 0 ≤ nrm p i
    rw [e]
    exact Int.emod_nonneg _ p0
  · show nrm p i < p
    rw [e]
    exact Int.emod_lt_of_pos _ (by omega)
  · show ∃ k, nrm p i * 1 = i + k * p
    rw [e, Int.mul_one]
    refine ⟨-(i / p), ?_⟩
    have := Int.emod_def i p
    rw [this, Int.neg_mul, Int.mul_comm p]
    omega
theorem giv_fn {K : PySem.W.Frag} {C : Addr} {H : Hp} {p t u : Int} {v : V} (hg : goodP p = true) (h : FN C H p v t u) (ht : Fit t) (hu : Fit u) : Giv K C H p v (some (t, u)) := by
  refine ⟨t, u, h.num, h.pos, ht, hu, fun p0 => ?_, fun p0 => ?_⟩
  · rcases h with ⟨_, _, _, c⟩ | ⟨q, _⟩
    · exact ⟨rfl, c⟩
    · exact absurd p0 q
  · rcases h with ⟨q, _⟩ | ⟨_, _, u1, a, b⟩
    · exact absurd q p0
    · obtain ⟨p2, _, _⟩ := goodP_pos hg p0
      refine ⟨by rw [u1, Int.emod_eq_of_lt (by decide) (by omega)]; decide, u1, a, b, 0, ?_⟩
      rw [u1]
      omega
theorem giv_raw {K : PySem.W.Frag} {C : Addr} {H : Hp} {p : Int} {v : V} {a : Int × Int} (hg : goodP p = true) (h : Raw C H p v a) (f : p = 0 → Fit a.1 ∧ Fit a.2) : Giv K C H p v (some a) := by
  rcases h with ⟨p0, h⟩ | ⟨p0, n, rfl, e, e1, b⟩
  · exact giv_fn hg h (f p0).1 (f p0).2
  · have := giv_int (K := K) (C := C) (H := H) hg (fit60 b)
    have e2 : nrm p n = a.1 := by
      unfold nrm
      rw [if_neg p0]
      exact e
    rw [e2] at this
    have e3 : a = (a.1, 1) := by rw [← e1]
    rw [e3]
    exact this
theorem num_go {K : PySem.W.Frag} {C CF CNN x : Addr} {H : Hp} {p : Int} {v : V} {a : Int × Int} {Q : VK} {E : XK} (hx : FldAt CF H x p) (hg : goodP p = true) (gv : Giv K C H p v (some a)) (k : ∀ y H', Same H H' → FN C H' p y a.1 a.2 → Q y H') : spNum K C CF CNN [.ref x, v] H Q E := by
  obtain ⟨t, u, n, pu, st, su, h0, hp⟩ := gv
  refine ⟨x, v, p, rfl, hx, hg, .inr ⟨t, u, n, pu, fit_up st, fit_up su, fun p0 r H3 R s3 => ?_, fun p0 up => absurd up (hp p0).1, fun p0 up r H3 r0 r1 ⟨kk, hk⟩ s3 => ?_⟩⟩
  · obtain ⟨rfl, cop⟩ := h0 p0
    exact k (.ref r) H3 s3 (.inl ⟨p0, ⟨r, rfl, R⟩, pu, cop⟩)
  · obtain ⟨_, a2, a0, a1, k2, hk2⟩ := hp p0
    have e := num_uniq hg p0 up r0 r1 a0 a1 hk hk2
    exact k (.int r) H3 s3 (.inr ⟨p0, by rw [e], a2, a0, a1⟩)
theorem num_no {K : PySem.W.Frag} {C CF CNN x : Addr} {H : Hp} {p : Int} {v : V} {Q : VK} {E : XK} (hx : FldAt CF H x p) (hg : goodP p = true) (gv : Giv K C H p v none) (k : E (.ref CNN) none H) : spNum K C CF CNN [.ref x, v] H Q E := by
  rcases gv with g | ⟨t, u, n, pu, st, su, p0, um⟩
  · exact ⟨x, v, p, rfl, hx, hg, .inl ⟨g, k⟩⟩
  · exact ⟨x, v, p, rfl, hx, hg, .inr ⟨t, u, n, pu, fit_up st, fit_up su, fun h => absurd h p0, fun _ _ => k, fun _ h => absurd um h⟩⟩
theorem prime_lt {p : Int} (hg : goodP p = true) (p0 : p ≠ 0) : 2 ≤ p ∧ p ≤ 9973 := ⟨(goodP_pos hg p0).1, (goodP_pos hg p0).2.1⟩
theorem mul_lt60 {p a b : Int} (hg : goodP p = true) (p0 : p ≠ 0) (a0 : 0 ≤ a) (a1 : a < p) (b0 : 0 ≤ b) (b1 : b < p) : 0 ≤ a * b ∧ a * b < 100000000 := by
  have := prime_lt hg p0
  refine ⟨Int.mul_nonneg a0 b0, ?_⟩
  have h1 : a * b ≤ 9973 * b := Int.mul_le_mul_of_nonneg_right (by omega) b0
  omega
/-- a * b of two numbers of the field -/
theorem mul_fn {C : Addr} {H : Hp} {p : Int} {v w : V} {a b : Int × Int} {Q : VK} {E : XK} (hg : goodP p = true) (ha : FN C H p v a.1 a.2) (hb : FN C H p w b.1 b.2) (f : p = 0 → (Fit a.1 ∧ Fit a.2) ∧ (Fit b.1 ∧ Fit b.2))
    (k : ∀ y H', Same H H' → Raw C H' p y (timesP p a b) → (p ≠ 0 → ∀ n, y = .int n → n.natAbs < 2 ^ 50) → Q y H') : (rI CMul fun i j => .int (i * j)) v w H Q ∨ rOwn2 C (spR_mul C) E v w H Q := by
  rcases ha with ⟨p0, ⟨r, rfl, R⟩, pu, cop⟩ | ⟨p0, rfl, a2, a0, a1⟩
  · rcases hb with ⟨_, ⟨r', rfl, R'⟩, pu', cop'⟩ | ⟨q, _⟩
    · obtain ⟨d, hr⟩ := id R
      obtain ⟨d', hr'⟩ := id R'
      obtain ⟨⟨f1, f2⟩, f3, f4⟩ := f p0
      refine .inr ⟨r, r', d, d', _, _, rfl, rfl, hr, hr', r, .ref r', a.1, a.2, b.1, b.2, rfl, R, .inl ⟨r', rfl, R'⟩, pu, pu', f1, f2, f3, f4, fun z T U H' L Rz s => ?_⟩
      have e : (T, U) = timesP p a b := by
        unfold timesP npair
        rw [if_pos p0]
        exact low_is (mul_ne (by omega) (by omega)) L
      refine k _ _ s (.inl ⟨p0, ?_⟩) (fun h => absurd p0 h)
      rw [← e]
      exact .inl ⟨p0, ⟨z, rfl, Rz⟩, L.pos, L.cop⟩
    · exact absurd p0 q
  · rcases hb with ⟨q, _⟩ | ⟨_, rfl, b2, b0, b1⟩
    · exact absurd q p0
    · have m := mul_lt60 hg p0 a0 a1 b0 b1
      have := prime_lt hg p0
      refine .inl ⟨_, _, rfl, rfl, .inl ⟨by omega, by omega⟩, k _ _ (Same.refl H) (.inr ⟨p0, _, rfl, ?_, ?_, by omega⟩) (fun _ n e => by rw [← V.int.inj e]; omega)⟩
      · unfold timesP npair
        rw [if_neg p0]
      · unfold timesP npair
        rw [if_neg p0]
/-- a raw number + a number of the field -/
theorem add_fn {C : Addr} {H : Hp} {p : Int} {v w : V} {a b : Int × Int} {Q : VK} {E : XK} (hg : goodP p = true) (hv : Raw C H p v a) (hb : FN C H p w b.1 b.2) (sm : p ≠ 0 → ∀ n, v = .int n → n.natAbs < 2 ^ 50) (f : p = 0 → (Fit a.1 ∧ Fit a.2) ∧ (Fit b.1 ∧ Fit b.2))
    (k : ∀ y H', Same H H' → Raw C H' p y (plusP p a b) → Q y H') : (rI0 fun i j => .int (i + j)) v w H Q ∨ rOwn2 C (spR_add C) E v w H Q := by
  rcases hv with ⟨p0, ha⟩ | ⟨p0, n, rfl, e, e1, sb⟩
  · rcases ha with ⟨_, ⟨r, rfl, R⟩, pu, cop⟩ | ⟨q, _⟩
    · rcases hb with ⟨_, ⟨r', rfl, R'⟩, pu', cop'⟩ | ⟨q, _⟩
      · obtain ⟨d, hr⟩ := id R
        obtain ⟨d', hr'⟩ := id R'
        obtain ⟨⟨f1, f2⟩, f3, f4⟩ := f p0
        refine .inr ⟨r, r', d, d', _, _, rfl, rfl, hr, hr', r, .ref r', a.1, a.2, b.1, b.2, rfl, R, .inl ⟨r', rfl, R'⟩, pu, pu', f1, f2, f3, f4, fun z T U H' L Rz s => ?_⟩
        have e : (T, U) = plusP p a b := by
          unfold plusP npair
          rw [if_pos p0]
          exact low_is (mul_ne (by omega) (by omega)) L
        refine k _ _ s (.inl ⟨p0, ?_⟩)
        rw [← e]
        exact .inl ⟨p0, ⟨z, rfl, Rz⟩, L.pos, L.cop⟩
      · exact absurd p0 q
    · exact absurd p0 q
  · rcases hb with ⟨q, _⟩ | ⟨_, rfl, b2, b0, b1⟩
    · exact absurd q p0
    · have := prime_lt hg p0
      have s50 := sm p0 n rfl
      refine .inl ⟨_, _, rfl, rfl, k _ _ (Same.refl H) (.inr ⟨p0, _, rfl, ?_, ?_, ?_⟩)⟩
      · unfold plusP npair
        rw [if_neg p0, e1, b2, Int.mul_one, Int.mul_one]
        show (n + b.1) % p = (a.1 + b.1) % p
        rw [← e, Int.emod_add_emod]
      · unfold plusP npair
        rw [if_neg p0]
      · omega
end Sq

-- needs HandS.TupAny
-- needs HandS.Style
namespace Sq
open PySem L2 PyProof.Rows
abbrev s_rd : Stmt := inClass (top 35) 0
abbrev s_fromto : Stmt := top 12
abbrev s_snum : Stmt := top 38
abbrev s_srow : Stmt := top 39
abbrev s_sinit : Stmt := inClass (top 40) 0
abbrev s_slen : Stmt := inClass (top 40) 1
abbrev s_seq : Stmt := inClass (top 40) 2
abbrev s_sfirst : Stmt := inClass (top 40) 3
abbrev s_sthen : Stmt := inClass (top 40) 4
def rdf (t : Addr) : List (Str × V) := putF "row" (.ref t) []
theorem rdf_row (t : Addr) : (rdf t).lookup ("row" : Str) = some (.ref t) := by
  unfold rdf
  rw [lookup_putF, if_pos rfl]
def RdyAt (CRd : Addr) (H : Hp) (y : Addr) (xs : List V) : Prop := ∃ dy t, H y = some (.ins CRd dy (rdf t)) ∧ H t = some (.tup xs)
theorem RdyAt.same {CRd : Addr} {H H' : Hp} {y : Addr} {xs : List V} (s : Same H H') (h : RdyAt CRd H y xs) : RdyAt CRd H' y xs := by
  obtain ⟨dy, t, a, b⟩ := h
  exact ⟨dy, t, s _ _ a, s _ _ b⟩
structure IRd (K : PySem.W.Frag) (C : Addr) : Prop where
  cl : Cls K C
  nR : NoAttr K C "row"
  ha : PySem.W.findIn K (.ref C) "__class__" = some (some (.builtin "object.__class__"))
  hn : PySem.W.specialIn K (.builtin "object.__class__") "__get__" = some (some (.builtin "getset_descriptor.__get__"))
  htk : PySem.W.takesIn K (.builtin "object.__class__") = some true
  hm : PySem.W.mroIn K C (.type "object") = some true
def spReady (CRd : Addr) (K : PySem.W.Frag) : Sp := fun vs H Q _ => ∃ (y dy l : Addr) (xs : List V), vs = [.ref y, .ref l] ∧ H y = some (.ins CRd dy []) ∧ (H l = some (.lst xs) ∨ H l = some (.tup xs)) ∧ ∀ H', But y H H' → RdyAt CRd H' y xs → Q .non H'
def inR (v : V) (lo hi : Int) : Bool := match v with
  | .int k => decide (lo ≤ k) && decide (k ≤ hi)
  | _ => false
def spFromTo (K : PySem.W.Frag) : Sp := fun vs H Q _ => ∃ (v : V) (lo hi : Int), vs = [v, .int lo, .int hi] ∧ IsTy K H v ∧ Q (.bl (inR v lo hi)) H
def spSNum (K : PySem.W.Frag) (C CF CNP : Addr) : Sp := fun vs H Q E => ∃ (x l : Addr) (p : Int) (xs : List V) (os : List (Option (Int × Int))), vs = [.ref x, .ref l] ∧ FldAt CF H x p ∧ goodP p = true ∧ LT H l xs ∧ xs.length ≤ 200 ∧ Givs K C H p xs os ∧
  ((pre os).length < os.length → ∀ H', Same H H' → ∀ d, H' d = none → E (.ref CNP) (some d) (upd H' d (fldAt "place" (.int ((pre os).length : Nat))))) ∧
  ((pre os).length = os.length → ∀ q ys H', Same H H' → H' q = some (.lst ys) → FNs C H' p ys (pre os) → Q (.ref q) H')
/-- what is passed for a row of numbers, and what becomes of it: a place that is refused, or the row -/
inductive SRow (K : PySem.W.Frag) (C CRd : Addr) (H : Hp) (p : Int) (least most : Nat) : V → Bool → Int ⊕ List (Int × Int) → Prop where
  | rdy {r : Addr} {ys : List V} {prs : List (Int × Int)} (h : RdyAt CRd H r ys) (f : FNs C H p ys prs) (ne : prs ≠ []) : SRow K C CRd H p least most (.ref r) true (.inr prs)
  | no {v : V} (nc : NotC K H v CRd) (h : IsQ K H v false) : SRow K C CRd H p least most v false (.inl (-1))
  | size {l : Addr} {xs : List V} (nc : NotC K H (.ref l) CRd) (h : LT H l xs) (n : xs.length < least ∨ most < xs.length) : SRow K C CRd H p least most (.ref l) false (.inl (-1))
  | bad {l : Addr} {xs : List V} {os : List (Option (Int × Int))} (nc : NotC K H (.ref l) CRd) (h : LT H l xs) (n0 : least ≤ xs.length) (n : xs.length ≤ most) (g : Givs K C H p xs os) (lt : (pre os).length < os.length) : SRow K C CRd H p least most (.ref l) false (.inl ((pre os).length : Nat))
  | row {l : Addr} {xs : List V} {prs : List (Int × Int)} (nc : NotC K H (.ref l) CRd) (h : LT H l xs) (n0 : least ≤ xs.length) (n : xs.length ≤ most) (g : Givs K C H p xs (prs.map some)) : SRow K C CRd H p least most (.ref l) false (.inr prs)
theorem SRow.same {K : PySem.W.Frag} {C CRd : Addr} {H H' : Hp} {p : Int} {least most : Nat} {v : V} {b : Bool} {g : Int ⊕ List (Int × Int)} (s : Same H H') (h : SRow K C CRd H p least most v b g) : SRow K C CRd H' p least most v b g := by
  cases h with
  | rdy h f ne => exact .rdy (h.same s) (f.same s) ne
  | no nc h => exact .no (nc.same s) (h.same s)
  | size nc h n => exact .size (nc.same s) (h.same s) n
  | bad nc h n0 n g lt => exact .bad (nc.same s) (h.same s) n0 n (g.same s) lt
  | row nc h n0 n g => exact .row (nc.same s) (h.same s) n0 n (g.same s)
def headG : Int ⊕ List (Int × Int) → Int ⊕ List (Int × Int)
  | .inl n => .inl n
  | .inr [] => .inl 0
  | .inr (a :: r) => if a.1 = 0 then .inl 0 else .inr (a :: r)
def spSRow (K : PySem.W.Frag) (C CF CRd CNP : Addr) : Sp := fun vs H Q E => ∃ (x : Addr) (p : Int) (v : V) (b : Bool) (g : Int ⊕ List (Int × Int)), vs = [.ref x, v] ∧ FldAt CF H x p ∧ goodP p = true ∧ SRow K C CRd H p 1 32 v b g ∧
  (∀ n, g = .inl n → ∀ H', Same H H' → ∀ d, H' d = none → E (.ref CNP) (some d) (upd H' d (fldAt "place" (.int n)))) ∧
  (∀ prs, g = .inr prs → ∀ q ys H', Same H H' → H' q = some (if b = true then .tup ys else .lst ys) → FNs C H' p ys prs → Q (.ref q) H')
def slf (fx ct : Addr) (n : Int) : List (Str × V) := putF "known" (.int n) (putF "coefficients" (.ref ct) (putF "field" (.ref fx) []))
theorem slf_field (fx ct : Addr) (n : Int) : (slf fx ct n).lookup ("field" : Str) = some (.ref fx) := by
  unfold slf
  rw [lookup_putF, if_neg (by decide +kernel), lookup_putF, if_neg (by decide +kernel), lookup_putF, if_pos rfl]
theorem slf_coef (fx ct : Addr) (n : Int) : (slf fx ct n).lookup ("coefficients" : Str) = some (.ref ct) := by
  unfold slf
  rw [lookup_putF, if_neg (by decide +kernel), lookup_putF, if_pos rfl]
theorem slf_known (fx ct : Addr) (n : Int) : (slf fx ct n).lookup ("known" : Str) = some (.int n) := by
  unfold slf
  rw [lookup_putF, if_pos rfl]
theorem slf_no (fx ct : Addr) (n : Int) {m : Str} (h1 : ¬ m = "known") (h2 : ¬ m = "coefficients") (h3 : ¬ m = "field") : (slf fx ct n).lookup m = none := by
  unfold slf
  rw [lookup_putF, if_neg h1, lookup_putF, if_neg h2, lookup_putF, if_neg h3]
  rfl
structure SerAt (C CS CF : Addr) (H : Hp) (x : Addr) (p : Int) (prs : List (Int × Int)) (dx fx ct : Addr) (ys : List V) : Prop where
  ob : H x = some (.ins CS dx (slf fx ct (prs.length : Int)))
  fl : FldAt CF H fx p
  co : H ct = some (.tup ys)
  nu : FNs C H p ys prs
  hd : ∃ a r, prs = a :: r ∧ a.1 ≠ 0
def Ser (C CS CF : Addr) (H : Hp) (x : Addr) (p : Int) (prs : List (Int × Int)) : Prop := ∃ dx fx ct ys, SerAt C CS CF H x p prs dx fx ct ys
theorem SerAt.same {C CS CF : Addr} {H H' : Hp} {x : Addr} {p : Int} {prs : List (Int × Int)} {dx fx ct : Addr} {ys : List V} (s : Same H H') (h : SerAt C CS CF H x p prs dx fx ct ys) : SerAt C CS CF H' x p prs dx fx ct ys := ⟨s _ _ h.ob, h.fl.same s, s _ _ h.co, h.nu.same s, h.hd⟩
theorem Ser.same {C CS CF : Addr} {H H' : Hp} {x : Addr} {p : Int} {prs : List (Int × Int)} (s : Same H H') (h : Ser C CS CF H x p prs) : Ser C CS CF H' x p prs := by
  obtain ⟨dx, fx, ct, ys, h⟩ := h
  exact ⟨dx, fx, ct, ys, h.same s⟩
structure STx (K : PySem.W.Frag) (CS : Addr) : Prop where
  cl : Cls K CS
  nF : NoAttr K CS "field"
  nC : NoAttr K CS "coefficients"
  nK : NoAttr K CS "known"
  ha : PySem.W.findIn K (.ref CS) "__class__" = some (some (.builtin "object.__class__"))
  hn : PySem.W.specialIn K (.builtin "object.__class__") "__get__" = some (some (.builtin "getset_descriptor.__get__"))
  htk : PySem.W.takesIn K (.builtin "object.__class__") = some true
  hm : PySem.W.mroIn K CS (.type "object") = some true
theorem SerAt.ty {K : PySem.W.Frag} {C CS CF : Addr} {H : Hp} {x : Addr} {p : Int} {prs : List (Int × Int)} {dx fx ct : Addr} {ys : List V} (T : STx K CS) (h : SerAt C CS CF H x p prs dx fx ct ys) : TyX K H (.ref x) (.ref CS) := .base (.ins h.ob T.cl T.ha T.hn T.htk T.hm)
def spSInit (K : PySem.W.Frag) (C CS CF CRd CNP : Addr) : Sp := fun vs H Q E => ∃ (y dy x : Addr) (p : Int) (v : V) (b : Bool) (g : Int ⊕ List (Int × Int)), vs = [.ref y, .ref x, v] ∧ H y = some (.ins CS dy []) ∧ FldAt CF H x p ∧ goodP p = true ∧ SRow K C CRd H p 1 32 v b g ∧
  (∀ n, headG g = .inl n → ∀ H', Same H H' → ∀ d, H' d = none → E (.ref CNP) (some d) (upd H' d (fldAt "place" (.int n)))) ∧
  (∀ prs, headG g = .inr prs → ∀ H', But y H H' → Ser C CS CF H' y p prs → Q .non H')
def spSLen (C CS CF : Addr) : Sp := fun vs H Q _ => ∃ (x : Addr) (p : Int) (prs : List (Int × Int)), vs = [.ref x] ∧ Ser C CS CF H x p prs ∧ Q (.int (prs.length : Int)) H
def Alike (a b : List (Int × Int)) : Prop := ∀ (i : Nat) u v, a[i]? = some u → b[i]? = some v → u = v
def spSEq (K : PySem.W.Frag) (C CS CF : Addr) : Sp := fun vs H Q _ => ∃ (x : Addr) (v : V) (p : Int) (prs : List (Int × Int)), vs = [.ref x, v] ∧ Ser C CS CF H x p prs ∧
  ((∃ y prs', v = .ref y ∧ Ser C CS CF H y p prs' ∧ Alike prs prs' ∧ ∀ H', Same H H' → Q (.bl (decide (prs.length = prs'.length))) H') ∨ (NotC K H v CS ∧ Q (.bl false) H))
def spSFirst (K : PySem.W.Frag) (C CS CF CNC : Addr) : Sp := fun vs H Q E => ∃ (x : Addr) (v : V) (p : Int) (prs : List (Int × Int)), vs = [.ref x, v] ∧ Ser C CS CF H x p prs ∧ goodP p = true ∧ IsTy K H v ∧ (inR v 1 (prs.length : Int) = false → E (.ref CNC) none H) ∧
  (∀ k : Nat, v = .int (k : Int) → 1 ≤ k → k ≤ prs.length → ∀ y H', Same H H' → Ser C CS CF H' y p (prs.take k) → Q (.ref y) H')
/-- what is passed to go on with -/
inductive TRow (K : PySem.W.Frag) (C : Addr) (H : Hp) (p : Int) (most : Nat) : V → Int ⊕ List (Int × Int) → Prop where
  | no {v : V} (h : IsQ K H v false) : TRow K C H p most v (.inl (-1))
  | size {l : Addr} {xs : List V} (h : LT H l xs) (n : most < xs.length) : TRow K C H p most (.ref l) (.inl (-1))
  | bad {l : Addr} {xs : List V} {os : List (Option (Int × Int))} (h : LT H l xs) (n : xs.length ≤ most) (g : Givs K C H p xs os) (lt : (pre os).length < os.length) : TRow K C H p most (.ref l) (.inl ((pre os).length : Nat))
  | row {l : Addr} {xs : List V} {prs : List (Int × Int)} (h : LT H l xs) (n : xs.length ≤ most) (g : Givs K C H p xs (prs.map some)) : TRow K C H p most (.ref l) (.inr prs)
theorem TRow.same {K : PySem.W.Frag} {C : Addr} {H H' : Hp} {p : Int} {most : Nat} {v : V} {g : Int ⊕ List (Int × Int)} (s : Same H H') (h : TRow K C H p most v g) : TRow K C H' p most v g := by
  cases h with
  | no h => exact .no (h.same s)
  | size h n => exact .size (h.same s) n
  | bad h n g lt => exact .bad (h.same s) n (g.same s) lt
  | row h n g => exact .row (h.same s) n (g.same s)
def spSThen (K : PySem.W.Frag) (C CS CF CNP : Addr) : Sp := fun vs H Q E => ∃ (x : Addr) (v : V) (p : Int) (prs : List (Int × Int)) (g : Int ⊕ List (Int × Int)), vs = [.ref x, v] ∧ Ser C CS CF H x p prs ∧ goodP p = true ∧ prs.length ≤ 79 ∧ TRow K C H p (79 - prs.length) v g ∧
  (∀ n, g = .inl n → ∀ H', Same H H' → ∀ d, H' d = none → E (.ref CNP) (some d) (upd H' d (fldAt "place" (.int n)))) ∧
  (∀ more, g = .inr more → ∀ y H', Same H H' → Ser C CS CF H' y p (prs ++ more) → Q (.ref y) H')
theorem head_ok {prs : List (Int × Int)} (h : ∃ a r, prs = a :: r ∧ a.1 ≠ 0) : headG (.inr prs) = .inr prs := by
  obtain ⟨a, r, rfl, h⟩ := h
  exact if_neg h
theorem FNs.app {C : Addr} {H : Hp} {p : Int} {ys zs : List V} {a b : List (Int × Int)} (h : FNs C H p ys a) (g : FNs C H p zs b) : FNs C H p (ys ++ zs) (a ++ b) := by
  refine ⟨by rw [List.length_append, List.length_append, h.len, g.len], fun i y pr e1 e2 => ?_⟩
  by_cases c : i < ys.length
  · rw [List.getElem?_append_left c] at e1
    rw [List.getElem?_append_left (by rw [← h.len]; exact c)] at e2
    exact h.at_ i y pr e1 e2
  · rw [List.getElem?_append_right (by omega)] at e1
    rw [List.getElem?_append_right (by rw [← h.len]; omega), ← h.len] at e2
    exact g.at_ _ y pr e1 e2
theorem SRow.ne {K : PySem.W.Frag} {C CRd : Addr} {H : Hp} {p : Int} {most : Nat} {v : V} {b : Bool} {g : Int ⊕ List (Int × Int)} {prs : List (Int × Int)} (h : SRow K C CRd H p 1 most v b g) (e : g = .inr prs) : prs ≠ [] := by
  cases h with
  | rdy h f ne => cases e; exact ne
  | no nc h => cases e
  | size nc h n => cases e
  | bad nc h n0 n g lt => cases e
  | row nc h n0 n g =>
    cases e
    have := g.len
    intro z
    rw [z] at this
    simp at this
    rw [this] at n0
    simp at n0
theorem FNs.ne {C : Addr} {H : Hp} {p : Int} {ys : List V} {a : List (Int × Int)} (h : FNs C H p ys a) (ne : a ≠ []) : 0 < ys.length := by
  rw [h.len]
  exact List.length_pos_iff.mpr ne
/-- two numbers of a field that are the same -/
def DN (C : Addr) : L2.Eqv := fun x y H => DIns C (fun a b H => ∃ t u, RatAt C H a t u ∧ RatAt C H b t u) x y H ∨ DFlat x y H
theorem monN {C : Addr} : Mon (DN C) := Mon.or (mon_ins fun a b H H' e h => by
  obtain ⟨t, u, h1, h2⟩ := h
  exact ⟨t, u, h1.same e, h2.same e⟩) mon_flat
theorem eqN {X : Cx} {C f : Addr} {fd : FuncData} (O : OwnOp X.K C f "__eq__") (G : FnOk X.prog X.w X.K X.mg X.base CX0 2 f fd ["self", "other"] (spR_eq X.K C)) (b : Binds X.K fd ["self", "other"] []) : EqG X 2 (DN C) := by
  have G2 : FnOk X.prog X.w X.K X.mg X.base CX0 2 f fd ["self", "other"] (spEq fun a b H => ∃ t u, RatAt C H a t u ∧ RatAt C H b t u) := G.imp fun vs H Q E ⟨a, b, e, ⟨t, u, h1, h2⟩, k⟩ => ⟨a, .ref b, t, u, e, h1, .inl ⟨b, t, u, rfl, h2, by rw [decide_eq_true ⟨rfl, rfl⟩]; exact k H Ext.rfl'⟩⟩
  exact (eqG_ins (E := E0) G2 O.at_ O.fn b pass0).or (eqG_flat.mono (by decide))
theorem FN.dn {C : Addr} {H : Hp} {p : Int} {u v : V} {a : Int × Int} (h : FN C H p u a.1 a.2) (g : FN C H p v a.1 a.2) : DN C u v H := by
  rcases h with ⟨p0, ⟨r, rfl, R⟩, _⟩ | ⟨p0, rfl, _⟩
  · rcases g with ⟨_, ⟨r', rfl, R'⟩, _⟩ | ⟨q, _⟩
    · obtain ⟨d, hr⟩ := id R
      obtain ⟨d', hr'⟩ := id R'
      exact .inl ⟨r, r', d, d', _, _, rfl, rfl, hr, hr', _, _, R, R'⟩
    · exact absurd p0 q
  · rcases g with ⟨q, _⟩ | ⟨_, rfl, _⟩
    · exact absurd q p0
    · exact .inr ⟨rfl, rfl, by show (a.1 == a.1) = true; simp⟩
section
variable {P : Program} {w : World} {K : PySem.W.Frag} {mg : Str → Option Value} {base : Heap}
theorem sc_rd : FnScope ["self", "row"] ["self", "row"] (defScope s_rd) := ⟨rfl, rfl, rfl, by decide +kernel, rfl, by decide +kernel, by decide +kernel⟩
theorem ok_rd {f CRd : Addr} {fd : FuncData} (F : Fun K "__init__" "Ready.__init__" s_rd f fd) (B : QTx mg) (TR : IRd K CRd) : FnOk P w K mg base CX0 1 f fd ["self", "row"] (spReady CRd K) := by
  refine F.ok sc_rd (fun vs H Q E h => ?_) (fun cdv A outer s H vs Q E hr h => ?_)
  · obtain ⟨y, dy, l, xs, rfl, _⟩ := h
    rfl
  · obtain ⟨y, dy, l, xs, rfl, hy0, hl, k⟩ := h
    refine ⟨_, (pss_one (ps_fld (pv 0) (pe_callTy call_tuple_of (by rfl) B.b_tuple (by decide +kernel) (pa_cons (pv 1) pa_nil)) rfl)), ?_⟩
    rcases hl with hl | hl
    · refine ⟨_, rfl, l, xs, rfl, .inl ⟨SqL.of hl, fun t ht => ?_⟩⟩
      have n : t ≠ y := (ne_of_none hy0 ht).symm
      refine ⟨_, rfl, y, CRd, dy, _, rfl, (upd_ne n.symm).trans hy0, TR.cl, TR.nR, (by show 0 < 1000; decide), ?_⟩
      exact k _ ((But.refl y H).new ht).upd ⟨dy, t, upd_same, (upd_ne n).trans upd_same⟩
    · have n : l ≠ y := fun z => by
        rw [z, hy0] at hl
        cases hl
      refine ⟨_, rfl, l, xs, rfl, .inr ⟨SqT.of hl, ?_⟩⟩
      refine ⟨_, rfl, y, CRd, dy, _, rfl, hy0, TR.cl, TR.nR, (by show 0 < 1000; decide), ?_⟩
      exact k _ (But.refl y H).upd ⟨dy, l, upd_same, (upd_ne n).trans hl⟩
theorem sc_fromto : FnScope ["value", "low", "high"] ["value", "low", "high"] (defScope s_fromto) := ⟨rfl, rfl, rfl, by decide +kernel, rfl, by decide +kernel, by decide +kernel⟩
theorem ok_fromto {f fII : Addr} {fd fdII : FuncData} (F : Fun K "is_from_to" "is_from_to" s_fromto f fd)
    (G_II : FnOk P w K mg base CX0 1 fII fdII ["value"] (spIsInt K)) (m_II : mg "is_an_integer" = some (.ref fII)) (k_II : PySem.W.keepIn K (.ref fII) = true) (b_II : Binds K fdII ["value"] []) : FnOk P w K mg base CX0 2 f fd ["value", "low", "high"] (spFromTo K) := by
  refine F.ok sc_fromto (fun vs H Q E h => ?_) (fun cdv A outer s H vs Q E hr h => ?_)
  · obtain ⟨v, lo, hi, rfl, _⟩ := h
    rfl
  · obtain ⟨v, lo, hi, rfl, tv, k⟩ := h
    refine ⟨_, (pss_one (ps_ret (pe_and (pe_call G_II (hr.mono (by decide)) rfl m_II k_II b_II .nil pass0 (pa_cons (pv 0) pa_nil)) (pe_one (pe_chain op_le op_le (pv 1) (pv 0) (pv 2)))))), ?_⟩
    refine ⟨_, rfl, v, rfl, tv, _, rfl, ?_⟩
    cases ev : isI v with
    | false =>
      refine iteF ?_
      have e : inR v lo hi = false := by
        cases v <;> first | rfl | cases ev
      rw [e] at k
      exact k
    | true =>
      obtain ⟨i, rfl⟩ := isI_int ev
      refine iteT ⟨_, rfl, _, rfl, _, _, rfl, rfl, _, rfl, ?_⟩
      by_cases c1 : lo ≤ i
      · refine itD (decide_eq_true c1) ⟨_, rfl, _, _, rfl, rfl, ?_⟩
        have e : inR (.int i) lo hi = decide (i ≤ hi) := by
          show (decide (lo ≤ i) && decide (i ≤ hi)) = _
          rw [decide_eq_true c1, Bool.true_and]
        rw [e] at k
        exact k
      · refine itDn (by simpa using c1) ?_
        have e : inR (.int i) lo hi = false := by
          show (decide (lo ≤ i) && decide (i ≤ hi)) = _
          rw [decide_eq_false c1, Bool.false_and]
        rw [e] at k
        exact k
theorem sc_snum : FnScope ["field", "values", "numbers"] ["field", "values"] (defScope s_snum) := ⟨rfl, rfl, rfl, by decide +kernel, rfl, by decide +kernel, by decide +kernel⟩
theorem ok_snum {f C CF CNP fNP ftaken : Addr} {fd fdNP fdtaken : FuncData} (F : Fun K "_numbers" "_numbers" s_snum f fd) (B : QTx mg) (m_NP : mg "NoSeries" = some (.ref CNP)) (NP : NTxF K "place" CNP fNP) (G_NP : FnOk P w K mg base CX0 1 fNP fdNP ["self", "place"] (spFInit "place" CNP)) (b_NP : Binds K fdNP ["self", "place"] [])
    (G_taken : FnOk P w K mg base CX0 9 ftaken fdtaken ["field", "values"] (spTaken K C CF)) (m_taken : mg "taken" = some (.ref ftaken)) (k_taken : PySem.W.keepIn K (.ref ftaken) = true) (b_taken : Binds K fdtaken ["field", "values"] []) : FnOk P w K mg base (L2.CX P w) 10 f fd ["field", "values"] (spSNum K C CF CNP) := by
  refine F.okX sc_snum (fun vs H Q E h => ?_) (fun cdv A outer s H vs Q E hr h => ?_)
  · obtain ⟨x, l, p, xs, os, rfl, _⟩ := h
    rfl
  · obtain ⟨x, l, p, xs, os, rfl, hx, hg, hl, n200, gv, kE, kQ⟩ := h
    refine ⟨_, (pss_cons (ps_set (i := 2) sc_snum.nd rfl (Or.inl rfl) (pe_call G_taken (hr.mono (by decide)) rfl m_taken k_taken b_taken .nil pass0 (pa_cons (pv 0) (pa_cons (pv 1) pa_nil))))
      (pss_cons (ps_if (pt_cmpR op_lt (pe_callB call_len_seq (by rfl) B.b_len (by decide +kernel) (pa_cons (pv 2) pa_nil)) (pe_callB call_len_seq (by rfl) B.b_len (by decide +kernel) (pa_cons (pv 1) pa_nil)) (nomark _)) (pss_one (ps_raise rfl (takes_of rfl rfl rfl rfl) (pmk_oex NP.oex NP.iC NP.tI G_NP (hr.mono (by decide)) b_NP .nil pass0 rfl m_NP (pa_cons (pe_callB call_len_seq (by rfl) B.b_len (by decide +kernel) (pa_cons (pv 2) pa_nil)) pa_nil)))) pss_nil)
      (pss_one (ps_ret (pv 2))))), ?_⟩
    refine ⟨_, rfl, _, rfl, x, l, p, xs, os, rfl, hx, hg, hl, n200, gv, fun q ys H1 s1 hq fn => ?_⟩
    have hl1 := hl.same s1
    have e1 : ys.length = (pre os).length := fn.len
    have e2 := gv.len
    have e3 := pre_le os
    refine ⟨_, rfl, q, ys, rfl, .inl (SqL.of hq), _, rfl, l, xs, rfl, hl1.imp SqL.of SqT.of, _, _, rfl, rfl, _, rfl, ?_⟩
    by_cases c : (pre os).length = os.length
    · exact itDn (by simp; omega) ⟨_, rfl, kQ c q ys H1 s1 hq fn⟩
    · refine itD (decide_eq_true (by omega)) ?_
      refine ⟨_, rfl, q, ys, rfl, .inl (SqL.of hq), (by show 1 ≤ 1000; decide), mkO_readF ?_⟩
      rw [e1]
      exact kE (by omega) H1 s1
theorem sc_srow : FnScope ["field", "coefficients"] ["field", "coefficients"] (defScope s_srow) := ⟨rfl, rfl, rfl, by decide +kernel, rfl, by decide +kernel, by decide +kernel⟩
theorem ok_srow {f C CF CRd CNP fNP fseq fsnum : Addr} {fd fdNP fdseq fdsnum : FuncData} {tk : Tok} (F : Fun K "_row" "_row" s_srow f fd) (B : QTx mg) (TR : IRd K CRd) (m_Rd : mg "Ready" = some (.ref CRd)) (MP : mg "MOST_PASSED" = some (.int 32 tk)) (m_NP : mg "NoSeries" = some (.ref CNP)) (NP : NTxF K "place" CNP fNP) (G_NP : FnOk P w K mg base CX0 1 fNP fdNP ["self", "place"] (spFInit "place" CNP)) (b_NP : Binds K fdNP ["self", "place"] [])
    (G_seq : FnOk P w K mg base CX0 1 fseq fdseq ["value"] (spSeq K)) (m_seq : mg "is_a_sequence" = some (.ref fseq)) (k_seq : PySem.W.keepIn K (.ref fseq) = true) (b_seq : Binds K fdseq ["value"] [])
    (G_snum : FnOk P w K mg base (L2.CX P w) 10 fsnum fdsnum ["field", "values"] (spSNum K C CF CNP)) (m_snum : mg "_numbers" = some (.ref fsnum)) (k_snum : PySem.W.keepIn K (.ref fsnum) = true) (b_snum : Binds K fdsnum ["field", "values"] []) : FnOk P w K mg base (L2.CX P w) 11 f fd ["field", "coefficients"] (spSRow K C CF CRd CNP) := by
  refine F.okX sc_srow (fun vs H Q E h => ?_) (fun cdv A outer s H vs Q E hr h => ?_)
  · obtain ⟨x, p, v, b, g, rfl, _⟩ := h
    rfl
  · obtain ⟨x, p, v, b, g, rfl, hx, hg, hv, kE, kQ⟩ := h
    refine ⟨_, (pss_cons (ps_if (pt_val (pe_callB call_isi (by rfl) B.b_isinstance (by decide +kernel) (pa_cons (pv 1) (pa_cons (pe_glob (v := .ref CRd) rfl m_Rd rfl) pa_nil)))) (pss_one (ps_ret (pe_fld (pv 1) rfl))) pss_nil)
      (pss_cons (ps_if (PW.pt (pw_or (pt_not (pt_val (pe_call G_seq (hr.mono (by decide)) rfl m_seq k_seq b_seq .nil pass0 (pa_cons (pv 1) pa_nil)))) (pw_or1 (pt_not (pt_chain op_le op_le pe_int (pe_callB call_len_seq (by rfl) B.b_len (by decide +kernel) (pa_cons (pv 1) pa_nil)) (pe_glob (v := .int 32) rfl MP ⟨_, rfl⟩)))))) (pss_one (ps_raise rfl (takes_of rfl rfl rfl rfl) (pmk_oex NP.oex NP.iC NP.tI G_NP (hr.mono (by decide)) b_NP .nil pass0 rfl m_NP (pa_cons (pe_un un_neg pe_int) pa_nil)))) pss_nil)
      (pss_one (ps_ret (pe_call (E := E) G_snum (hr.mono (by decide)) rfl m_snum k_snum b_snum .nil (passes_call (takes_of rfl rfl rfl rfl) fun _ _ _ _ h => h) (pa_cons (pv 0) (pa_cons (pv 1) pa_nil))))))), ?_⟩
    cases hv with
    | @rdy r ys prs h f ne =>
      obtain ⟨dy, t, hr1, ht⟩ := id h
      refine ⟨_, rfl, _, _, _, _, true, rfl, .own CRd, .base (.ins hr1 TR.cl TR.ha TR.hn TR.htk TR.hm), kit_self, _, rfl, iteT ?_⟩
      exact ⟨_, rfl, r, CRd, dy, _, _, rfl, hr1, TR.cl, TR.nR, rdf_row t, kQ prs rfl t ys H (Same.refl H) ht f⟩
    | no nc h =>
      obtain ⟨t, ty, kt⟩ := nc
      refine ⟨_, rfl, _, _, _, _, false, rfl, .own CRd, ty, kt, _, rfl, iteF ?_⟩
      exact ⟨_, rfl, v, false, rfl, h, fun H1 s1 => ⟨_, rfl, iteT ⟨_, rfl, by decide, mkO_readF (kE _ rfl H1 s1)⟩⟩⟩
    | @size l xs nc h n =>
      obtain ⟨t, ty, kt⟩ := nc
      refine ⟨_, rfl, _, _, _, _, false, rfl, .own CRd, ty, kt, _, rfl, iteF ?_⟩
      refine ⟨_, rfl, _, true, rfl, h.isQ, fun H1 s1 => ⟨_, rfl, iteF ?_⟩⟩
      have h1 := h.same s1
      refine ⟨_, rfl, l, xs, rfl, h1.imp SqL.of SqT.of, _, _, rfl, rfl, _, rfl, ?_⟩
      by_cases c : 1 ≤ xs.length
      · refine itD (decide_eq_true (by omega)) ⟨_, _, rfl, rfl, _, rfl, ?_⟩
        rw [decide_eq_false (by omega)]
        exact iteT ⟨_, rfl, by decide, mkO_readF (kE _ rfl H1 s1)⟩
      · refine itDn (by simp; omega) ⟨_, rfl, iteT ?_⟩
        exact ⟨_, rfl, by decide, mkO_readF (kE _ rfl H1 s1)⟩
    | @bad l xs os nc h n0 n g lt =>
      obtain ⟨t, ty, kt⟩ := nc
      refine ⟨_, rfl, _, _, _, _, false, rfl, .own CRd, ty, kt, _, rfl, iteF ?_⟩
      refine ⟨_, rfl, _, true, rfl, h.isQ, fun H1 s1 => ⟨_, rfl, iteF ?_⟩⟩
      have h1 := h.same s1
      refine ⟨_, rfl, l, xs, rfl, h1.imp SqL.of SqT.of, _, _, rfl, rfl, _, rfl, ?_⟩
      refine itD (decide_eq_true (by omega)) ⟨_, _, rfl, rfl, _, rfl, ?_⟩
      rw [decide_eq_true (by omega)]
      refine iteF ⟨_, rfl, _, rfl, x, l, p, xs, os, rfl, hx.same s1, hg, h1, by omega, g.same s1, fun _ H2 s2 => kE _ rfl H2 (s1.trans s2), fun c => by omega⟩
    | @row l xs prs nc h n0 n g =>
      obtain ⟨t, ty, kt⟩ := id nc
      refine ⟨_, rfl, _, _, _, _, false, rfl, .own CRd, ty, kt, _, rfl, iteF ?_⟩
      refine ⟨_, rfl, _, true, rfl, h.isQ, fun H1 s1 => ⟨_, rfl, iteF ?_⟩⟩
      have h1 := h.same s1
      refine ⟨_, rfl, l, xs, rfl, h1.imp SqL.of SqT.of, _, _, rfl, rfl, _, rfl, ?_⟩
      refine itD (decide_eq_true (by omega)) ⟨_, _, rfl, rfl, _, rfl, ?_⟩
      rw [decide_eq_true (by omega)]
      refine iteF ⟨_, rfl, _, rfl, x, l, p, xs, prs.map some, rfl, hx.same s1, hg, h1, by omega, g.same s1, fun c => absurd c (by rw [pre_map]; omega), fun _ q ys H2 s2 hq fn => ?_⟩
      rw [pre_all rfl] at fn
      exact kQ prs rfl q ys H2 (s1.trans s2) hq fn
end
end Sq

namespace Sq
open PySem L2 PyProof.Rows
section
variable {P : Program} {w : World} {K : PySem.W.Frag} {mg : Str → Option Value} {base : Heap}
theorem sc_sinit : FnScope ["self", "field", "coefficients", "row"] ["self", "field", "coefficients"] (defScope s_sinit) := ⟨rfl, rfl, rfl, by decide +kernel, rfl, by decide +kernel, by decide +kernel⟩
theorem ok_sinit {f C CF CS CRd CNP fNP fsrow feq : Addr} {fd fdNP fdsrow fdeq : FuncData} (F : Fun K "__init__" "Series.__init__" s_sinit f fd) (B : QTx mg) (TS : STx K CS) (m_NP : mg "NoSeries" = some (.ref CNP)) (NP : NTxF K "place" CNP fNP) (G_NP : FnOk P w K mg base CX0 1 fNP fdNP ["self", "place"] (spFInit "place" CNP)) (b_NP : Binds K fdNP ["self", "place"] [])
    (O_eq : OwnOp K C feq "__eq__") (nf1 : PySem.W.notFirst K C (.type "int") = true) (G_eq : FnOk P w K mg base CX0 2 feq fdeq ["self", "other"] (spR_eq K C)) (b_eq : Binds K fdeq ["self", "other"] [])
    (G_srow : FnOk P w K mg base (L2.CX P w) 11 fsrow fdsrow ["field", "coefficients"] (spSRow K C CF CRd CNP)) (m_srow : mg "_row" = some (.ref fsrow)) (k_srow : PySem.W.keepIn K (.ref fsrow) = true) (b_srow : Binds K fdsrow ["field", "coefficients"] []) : FnOk P w K mg base (L2.CX P w) 12 f fd ["self", "field", "coefficients"] (spSInit K C CS CF CRd CNP) := by
  refine F.okX sc_sinit (fun vs H Q E h => ?_) (fun cdv A outer s H vs Q E hr h => ?_)
  · obtain ⟨y, dy, x, p, v, b, g, rfl, _⟩ := h
    rfl
  · obtain ⟨y, dy, x, p, v, b, g, rfl, hy0, hx, hg, hv, kE, kQ⟩ := h
    cases b with
    | true =>
      refine ⟨_, (pss_cons (ps_set (i := 3) sc_sinit.nd rfl (Or.inl rfl) (pe_call (E := E) G_srow (hr.mono (by decide)) rfl m_srow k_srow b_srow .nil (passes_call (takes_of rfl rfl rfl rfl) fun _ _ _ _ h => h) (pa_cons (pv 1) (pa_cons (pv 2) pa_nil))))
      (pss_cons (ps_if (pt_cmpR (op_or op_eq (op_ownEq O_eq G_eq (hr.mono (by decide)) b_eq pass0)) (pe_ix ix_tup (pv 3) pe_int (fun _ _ => rfl)) pe_int (nomark _)) (pss_one (ps_raise rfl (takes_of rfl rfl rfl rfl) (pmk_oex NP.oex NP.iC NP.tI G_NP (hr.mono (by decide)) b_NP .nil pass0 rfl m_NP (pa_cons pe_int pa_nil)))) pss_nil)
      (pss_cons (ps_fld (pv 0) (pv 1) rfl)
      (pss_cons (ps_fld (pv 0) (pe_callTy call_tuple_of (by rfl) B.b_tuple (by decide +kernel) (pa_cons (pv 3) pa_nil)) rfl)
      (pss_one (ps_fld (pv 0) (pe_callB call_len_seq (by rfl) B.b_len (by decide +kernel) (pa_cons (pv 3) pa_nil)) rfl)))))), ?_⟩
      refine ⟨_, rfl, _, rfl, x, p, v, true, g, rfl, hx, hg, hv, fun n e H1 s1 => kE n (by rw [e]; rfl) H1 s1, fun prs e q ys H1 s1 hq fn => ?_⟩
      subst e
      have ne := hv.ne rfl
      obtain ⟨a, r, rfl⟩ : ∃ a r, prs = a :: r := by
        cases prs with
        | nil => exact absurd rfl ne
        | cons a r => exact ⟨a, r, rfl⟩
      have l0 : 0 < ys.length := fn.ne ne
      have fa := fn.at_ 0 _ a (List.getElem?_eq_getElem l0) rfl
      refine ⟨_, rfl, _, _, _, _, rfl, rfl, SqT.of hq, at_of (j := 0) rfl (List.getElem?_eq_getElem l0), fn_eq0 nf1 fa ⟨_, rfl, ?_⟩⟩
      by_cases c : a.1 = 0
      · refine itD (by simp [c]) ⟨by decide, mkO_readF (kE 0 (if_pos c) H1 s1)⟩
      refine itDn (by simp [c]) ?_
      have hh : headG (.inr (a :: r)) = .inr (a :: r) := if_neg c
      have hy1 := s1 _ _ hy0
      refine ⟨_, rfl, _, rfl, y, CS, dy, _, rfl, hy1, TS.cl, TS.nF, (by show 0 < 1000; decide), ?_⟩
      have nq : q ≠ y := fun z => by
        rw [z, hy1] at hq
        cases hq
      have hq2 := (upd_ne (o := .ins CS dy (putF "field" (.ref x) [])) nq).trans hq
      have b2 : But y H1 (upd H1 y (.ins CS dy (putF "field" (.ref x) []))) := (But.refl y H1).upd
      refine ⟨_, rfl, q, ys, rfl, .inr ⟨SqT.of hq2, _, rfl, y, CS, dy, _, rfl, upd_same, TS.cl, TS.nC, (by show 1 < 1000; decide), ?_⟩⟩
      have hq3 := (upd_ne (o := .ins CS dy (putF "coefficients" (.ref q) (putF "field" (.ref x) []))) nq).trans hq2
      refine ⟨_, rfl, q, ys, rfl, .inr (SqT.of hq3), _, rfl, y, CS, dy, _, rfl, upd_same, TS.cl, TS.nK, (by show 2 < 1000; decide), ?_⟩
      have bF := (b2.upd (o := .ins CS dy (putF "coefficients" (.ref q) (putF "field" (.ref x) [])))).upd (o := .ins CS dy (putF "known" (.int (ys.length : Int)) (putF "coefficients" (.ref q) (putF "field" (.ref x) []))))
      have hq4 := (upd_ne (o := .ins CS dy (putF "known" (.int (ys.length : Int)) (putF "coefficients" (.ref q) (putF "field" (.ref x) [])))) nq).trans hq3
      refine kQ _ hh _ ((Same.but s1).trans bF) ⟨dy, x, q, ys, ?_, (hx.same s1).but hy1 bF, hq4, fn.but hy1 bF, a, r, rfl, c⟩
      rw [← fn.len]
      exact upd_same
    | false =>
      refine ⟨_, (pss_cons (ps_set (i := 3) sc_sinit.nd rfl (Or.inl rfl) (pe_call (E := E) G_srow (hr.mono (by decide)) rfl m_srow k_srow b_srow .nil (passes_call (takes_of rfl rfl rfl rfl) fun _ _ _ _ h => h) (pa_cons (pv 1) (pa_cons (pv 2) pa_nil))))
      (pss_cons (ps_if (pt_cmpR (op_or op_eq (op_ownEq O_eq G_eq (hr.mono (by decide)) b_eq pass0)) (pe_ix ix_list (pv 3) pe_int (fun _ _ => rfl)) pe_int (nomark _)) (pss_one (ps_raise rfl (takes_of rfl rfl rfl rfl) (pmk_oex NP.oex NP.iC NP.tI G_NP (hr.mono (by decide)) b_NP .nil pass0 rfl m_NP (pa_cons pe_int pa_nil)))) pss_nil)
      (pss_cons (ps_fld (pv 0) (pv 1) rfl)
      (pss_cons (ps_fld (pv 0) (pe_callTy call_tuple_of (by rfl) B.b_tuple (by decide +kernel) (pa_cons (pv 3) pa_nil)) rfl)
      (pss_one (ps_fld (pv 0) (pe_callB call_len_seq (by rfl) B.b_len (by decide +kernel) (pa_cons (pv 3) pa_nil)) rfl)))))), ?_⟩
      refine ⟨_, rfl, _, rfl, x, p, v, false, g, rfl, hx, hg, hv, fun n e H1 s1 => kE n (by rw [e]; rfl) H1 s1, fun prs e q ys H1 s1 hq fn => ?_⟩
      subst e
      have ne := hv.ne rfl
      obtain ⟨a, r, rfl⟩ : ∃ a r, prs = a :: r := by
        cases prs with
        | nil => exact absurd rfl ne
        | cons a r => exact ⟨a, r, rfl⟩
      have l0 : 0 < ys.length := fn.ne ne
      have fa := fn.at_ 0 _ a (List.getElem?_eq_getElem l0) rfl
      refine ⟨_, rfl, _, _, _, _, rfl, rfl, SqL.of hq, at_of (j := 0) rfl (List.getElem?_eq_getElem l0), fn_eq0 nf1 fa ⟨_, rfl, ?_⟩⟩
      by_cases c : a.1 = 0
      · refine itD (by simp [c]) ⟨by decide, mkO_readF (kE 0 (if_pos c) H1 s1)⟩
      refine itDn (by simp [c]) ?_
      have hh : headG (.inr (a :: r)) = .inr (a :: r) := if_neg c
      have hy1 := s1 _ _ hy0
      refine ⟨_, rfl, _, rfl, y, CS, dy, _, rfl, hy1, TS.cl, TS.nF, (by show 0 < 1000; decide), ?_⟩
      have nq : q ≠ y := fun z => by
        rw [z, hy1] at hq
        cases hq
      have hq2 := (upd_ne (o := .ins CS dy (putF "field" (.ref x) [])) nq).trans hq
      have b2 : But y H1 (upd H1 y (.ins CS dy (putF "field" (.ref x) []))) := (But.refl y H1).upd
      refine ⟨_, rfl, q, ys, rfl, .inl ⟨SqL.of hq2, fun t ht => ?_⟩⟩
      have nt : t ≠ y := fun z => by
        rw [z, upd_same] at ht
        cases ht
      have b3 := b2.new (o := .tup ys) ht
      have nqt : q ≠ t := ne_of_none hq2 ht
      refine ⟨_, rfl, y, CS, dy, _, rfl, (upd_ne nt.symm).trans upd_same, TS.cl, TS.nC, (by show 1 < 1000; decide), ?_⟩
      have hq3 := (upd_ne (o := .ins CS dy (putF "coefficients" (.ref t) (putF "field" (.ref x) []))) nq).trans ((upd_ne (o := .tup ys) nqt).trans hq2)
      refine ⟨_, rfl, q, ys, rfl, .inl (SqL.of hq3), _, rfl, y, CS, dy, _, rfl, upd_same, TS.cl, TS.nK, (by show 2 < 1000; decide), ?_⟩
      have bF := (b3.upd (o := .ins CS dy (putF "coefficients" (.ref t) (putF "field" (.ref x) [])))).upd (o := .ins CS dy (putF "known" (.int (ys.length : Int)) (putF "coefficients" (.ref t) (putF "field" (.ref x) []))))
      refine kQ _ hh _ ((Same.but s1).trans bF) ⟨dy, x, t, ys, ?_, (hx.same s1).but hy1 bF, (upd_ne nt).trans ((upd_ne nt).trans upd_same), fn.but hy1 bF, a, r, rfl, c⟩
      rw [← fn.len]
      exact upd_same
end
end Sq

-- needs HandS.Property
-- needs OpenK.KMore
-- needs HandS.OwnEq
-- needs HandS.Star
-- needs KE.KExcMore
-- needs HandS.ExcValue
-- needs HandS.HotCalls
namespace Sq
open PySem L2 PyProof.Rows PySem.Spec
/-- the class has the name as a property at p whose setter is the def at g -/
structure PropSet (K : PySem.W.Frag) (C : Addr) (f : Str) (p g : Addr) : Prop where
  tk : PySem.W.takerIn K C f = some (some (.ref p))
  ty : PySem.W.typeIn K (.ref p) = some (.type "property")
  rec_ : ∃ a rest, PySem.W.recIn K p "property" = some (a :: .ref g :: rest)
/-- o.f = value, a property -/
def sProp (C : Addr) (sp : Sp) (E : XK) (ta tv : TE) : TS := fun D σ H => tv σ H fun y H1 => ta σ H1 fun x H2 => ∃ a dx fs, x = .ref a ∧ H2 a = some (.ins C dx fs) ∧ sp [x, y] H2 (fun _ H3 => D.nx σ H3) E
section
variable {X : Cx} {CX : CXT} {k : Nat} {C p g f' : Addr} {f : Str} {fd : FuncData} {ps : List Str} {sp : Sp} {E : XK} {o value : Expr} {pos pos' : Pos} {ta tv : TE}
theorem ps_prop (ha : PE X o ta) (hv : PE X value tv) (c : Cls X.K C) (hp : PropSet X.K C f p g) (F : FnOk X.prog X.w X.K X.mg X.base CX k g fd ps sp) (hr : Room (k + 2) X.A) (hb : Binds X.K fd ps []) (hx : Passes CX X E)
    (hs : swapsWith value (some (.Attribute o f pos')) pos.line X.env = pure false) : PS X (.Assign [.Attribute o f pos'] value pos) (sProp C sp E ta tv) := by
  refine ⟨fun pins s σ H D I h => ?_⟩
  refine plainObj_wpAny_Assign_Attribute (thn (hv.run pins s σ H _ I h) fun u s1 ⟨y, H1, I1, ry, q⟩ => thn (ha.run pins s1 σ H1 _ I1 q) fun ov s2 ⟨x, H2, I2, rx, a, dx, fs, ex, ea, q2⟩ => ?_) hs
  subst ex
  obtain rfl : ov = Value.ref a := rx
  obtain ⟨mA, O, _, _, _, _⟩ := ins_get I2.hok ea
  obtain ⟨od, J, _⟩ := O.look
  obtain ⟨m, fr⟩ := I2.fr
  obtain ⟨a0, rest, hrec⟩ := hp.rec_
  have I3 := I2.tok (s2.toks + 1)
  have r2 : Vals [V.ref a, y] [Value.ref a, u] := .cons rfl (.cons ry .nil)
  have hl : ([Value.ref a, u] ++ []).length = ps.length := by
    rw [← F.len _ _ _ _ q2]
    rfl
  have hb2 := hb { s2 with toks := s2.toks + 1 } [Value.ref a, u] I3.kIn hl
  refine PySem.W.set_prop fr I2.ok.mod.kin J c.sa c.po hp.tk hp.ty hrec ?_
  refine codeAny_mono (F.run X.A.in1.in1 X.stack { s2 with toks := s2.toks + 1 } H2 ⟨[.ref a, u], []⟩ [.ref a, u] [.ref a, y] _ E hr.in1.in1 I3.env0.in1.in1 hb2 r2 q2) fun r s' hq => ?_
  cases r with
  | error er => exact hx pins σ H2 { s2 with toks := s2.toks + 1 } er s' I3 hq
  | ok fl =>
    cases fl with
    | ret z =>
      obtain ⟨v, H', I4, rv, q3⟩ := I3.after hq
      exact ⟨σ, H', I4, q3⟩
    | next => exact False.elim hq
    | brk => exact False.elim hq
    | cont => exact False.elim hq
end
/-- the class's own op= -/
structure IOp (K : PySem.W.Frag) (C f : Addr) (nm : Str) : Prop where
  at_ : PySem.W.findIn K (.ref C) nm = some (some (.ref f))
  fn : PySem.W.isFn K (.ref f) = true
/-- x op= e by the class's own op=, in a try's body -/
def tAugO (i : Nat) (te : TE) (C : Addr) (sp : Sp) (W : L2.St → XK) : TS := fun D σ H => ∃ x, σ[i]? = some (some x) ∧ te σ H fun y H1 => ∃ a dx fs, x = .ref a ∧ H1 a = some (.ins C dx fs) ∧ sp [x, y] H1 (fun z H2 => D.nx (σ.set i (some z)) H2) (W σ)
section
variable {X : Cx} {CX : CXT} {k i : Nat} {C f : Addr} {x : Str} {fd : FuncData} {ps : List Str} {sp : Sp} {W : L2.St → XK} {e : Expr} {pos pos' : Pos} {te : TE} {op : Operator}
theorem ps_augO (hN : X.N.Nodup) (hi : X.N[i]? = some x) (hx : Loc X.env.scope x) (he : PE X e te) (hc : PySem.W.selfFirst X.K C = true) (O : IOp X.K C f (dunderI op.info.2)) (G : FnOk X.prog X.w X.K X.mg X.base CX k f fd ps sp) (hr : Room k X.A) (hb : Binds X.K fd ps []) (ok : ∀ σ, PassesAt CX X σ (W σ))
    (hf : X.fn x = true ∨ X.env.scope.names.lookup x = some .local := by first | exact .inl rfl | exact .inr rfl | assumption) :
    PS X (.AugAssign (.Name x pos') op e pos) (tAugO i te C sp W) := by
  refine ⟨fun pins s σ H D I h => ?_⟩
  obtain ⟨v, e1, h⟩ := h
  obtain ⟨m, hn, hl⟩ := I.loc
  have vis : Vis X.env.scope x := by rcases hx with k | k; exact .inl k; exact .inr (.inl k)
  obtain ⟨u, r, l⟩ := hl i x v hi e1 vis
  refine wpAny_AugAssign_Name ?_
  have go : wpAny (model X.prog X.w) X.A (eval e X.env) (fun w s₂ => wpAny (model X.prog X.w) X.A (inplaceOp op u w) (fun r s₃ => wpAny (model X.prog X.w) X.A (storeName X.env x r) (fun _ => SP X pins D .next) X.xe s₃) X.xe s₂) X.xe s := by
    refine thn (he.run pins s σ H _ I h) fun w s1 ⟨y, H1, I1, r1, a, dx, fs, ea, ha, q1⟩ => ?_
    subst ea
    obtain rfl : u = Value.ref a := r
    obtain ⟨od, J⟩ := inst_at I1 ha
    obtain ⟨m, fr⟩ := I1.fr
    have go1 : wpAny (model X.prog X.w) X.A (inplaceOp op (.ref a) w) (EP X pins σ (fun z H2 => D.nx (σ.set i (some z)) H2)) X.xe s1 :=
      PySem.W.ksp_inplace fr I1.ok.mod.kin J hc O.at_ O.fn (wpAny_mono (run_fnS (us := [.ref a, w]) (vs := [.ref a, y]) G hr hb (ok σ) I1 (.cons rfl (.cons r1 .nil)) q1) (fun _ _ h => cmpBack_of h) fun _ _ z => z)
    refine thn go1 fun z s2 ⟨zv, H2, I2, r2, q2⟩ => ?_
    exact store_ok I2 hN hi hx r2 (fun s3 I3 => ⟨_, H2, I3, q2⟩) hf
  rcases l with ⟨hk, hm⟩ | ⟨hk, c, hc, hcell⟩
  · exact wpAny_loadName_local I.ok.kind hk hn hm go
  · rcases hk with hk | hk
    · exact wpAny_loadName_cell I.ok.kind hk hc hcell go
    · rcases hx with k | k
      · have : X.env.scope.names.lookup x = some .free := hk
        rw [k] at this; cases this
      · have : X.env.scope.names.lookup x = some .free := hk
        rw [k] at this; cases this
end
/-! ### told() of a caught error -/
def spTold (z : Str) : Sp := fun vs H Q _ => ∃ x, vs = [x] ∧ Q (.str z) H
/-- what a def promises that is called while an error is handled -/
structure FnG (P : Program) (w : World) (K : PySem.W.Frag) (mg : Str → Option Value) (base : Heap) (CX : CXT) (k : Nat) (f : Addr) (fd : FuncData) (ps : List Str) (sp : Sp) : Prop where
  len : ∀ vs H Q E, sp vs H Q E → vs.length = ps.length
  run : ∀ (A : Around) (outer : List Env) (s : Shared) (H : Hp) (args : Args) (us : List Value) (vs : List V) (Q : VK) (E : XK) (p : Addr × Obj), L2H.RoomH k A → L2H.PinOk outer H s p → Env0 P w K mg base A outer s H → BindsTo s fd args (ps.zip us) → Vals vs us → sp vs H Q E →
    codeAny (model P w) A (.call (.ref f) args) (CR CX outer P w H s Q E) s
theorem Fun.okG {P : Program} {w : World} {K : PySem.W.Frag} {mg : Str → Option Value} {base : Heap} {CX : CXT} {k : Nat} {f : Addr} {fd : FuncData} {x qual : Str} {st : Stmt} {N ps : List Str} {sp : Sp} (F : Fun K x qual st f fd) (S : FnScope N ps (defScope st))
    (len : ∀ vs H Q E, sp vs H Q E → vs.length = ps.length)
    (hbody : ∀ (cdv : Value) (A : Around) (outer : List Env) (s : Shared) (H : Hp) (vs : List V) (Q : VK) (E : XK) (p : Addr × Obj), sp vs H Q E →
      ∃ t, PSs (L2H.cxH CX P w K mg base N qual (defScope st) f cdv A outer s H E p) (defBody st) t ∧ t { nx := fun _ H' => Q .non H', rt := Q } (L2.start N vs) H) : FnG P w K mg base CX (k + 1) f fd ps sp := by
  obtain ⟨oc, od, kV, doc, pm, an, cdv, ct, osl, rfl, lk, hcd⟩ := F.ex
  refine ⟨len, fun A outer s H args us vs Q E p hr hpin e0 hb r hsp => ?_⟩
  have hl := len _ _ _ _ hsp
  have KX : K.In s.heap := e0.mod.kin.keeps fun b o e => (e0.bs b o e).1
  have lim : s.heap.NoLimit := e0.mod.nolimit.keeps fun b o e => (e0.bs b o e).1
  have hkind : ∀ y ∈ ps.zip us, (defScope st).names.lookup y.1 = some .local ∨ ((defScope st).names.lookup y.1 = some .cell ∧ ((cellsFrom (s.heap.objs.size + 1) (defScope st).names []).lookup y.1).isSome = true) := fun ⟨n, v⟩ hy => by
    rcases S.par n (List.of_mem_zip hy).1 with q | q
    · exact .inl q
    · exact .inr ⟨q, PySem.W.cellsFrom_some _ _ _ (.inl q)⟩
  refine codeAny_call_function hr.depth (KX _ _ lk) rfl S.co S.gen rfl (PySem.W.codeRec_of KX hcd) (hb _ _ _ _ ?_)
  refine wpAny_newFunctionEnv_cells S.kind hkind fun env he s1 x => ?_
  subst he
  refine ⟨lim.keeps x.toInCall.keep, codeAny_func ?_⟩
  obtain ⟨t, ht, hq⟩ := hbody cdv A outer s H vs Q E p hsp
  have I : Inv (L2H.cxH CX P w K mg base N qual (defScope st) f cdv A outer s H E p) [] (L2.start N vs) H s1 := L2H.inv_startH S hpin e0 hl r x
  refine wpAny_mono (ht.run [] s1 (L2.start N vs) H _ I hq) (fun fl s' hs => ?_) fun e s' hs => hs
  have fin : ∀ {σ' : L2.St} {H' : Hp} {v : V} {u : Value}, Inv (L2H.cxH CX P w K mg base N qual (defScope st) f cdv A outer s H E p) [] σ' H' s' → RelV v u → Q v H' → CE outer P w H s Q u s' :=
    fun {σ' H' v u} J rv q => ⟨v, H', J.os, J.bare, J.base, J.hok, rv, q⟩
  cases fl with
  | ret u =>
    obtain ⟨v, σ', H', J, rv, q⟩ := hs
    exact fin J rv q
  | next =>
    obtain ⟨σ', H', J, q⟩ := hs
    exact fin (v := V.non) (u := Value.none) J rfl q
  | brk =>
    obtain ⟨_, _, _, q⟩ := hs
    exact False.elim q
  | cont =>
    obtain ⟨_, _, _, q⟩ := hs
    exact False.elim q
theorem run_fnG {X : Cx} {k : Nat} {f : Addr} {fd : FuncData} {ps : List Str} {sp : Sp} {pins : List (Addr × Obj)} {σ : L2.St} {H : Hp} {s : Shared} {Q : VK} {us : List Value} {vs : List V} {p : Addr × Obj} (F : FnG X.prog X.w X.K X.mg X.base CX0 k f fd ps sp) (hr : L2H.RoomH k X.A) (hp : p ∈ X.pn) (hb : Binds X.K fd ps [])
    (I : Inv X pins σ H s) (r : Vals vs us) (h : sp vs H Q E0) : wpAny (model X.prog X.w) X.A (call (.ref f) us) (EP X pins σ Q) X.xe s := by
  have hl : us.length = ps.length := by rw [← r.length]; exact F.len _ _ _ _ h
  have b := hb s us I.kIn (by rw [List.append_nil]; exact hl)
  rw [List.append_nil] at b
  have P1 := I.pin p (List.mem_append_left _ hp)
  have hpin : L2H.PinOk X.stack H s p := ⟨P1.1, P1.2.1, fun hm => (List.mem_cons.mp (I.stkSub p.1 hm)).elim P1.2.2.1 P1.2.2.2.1, P1.2.2.2.2⟩
  refine wpAny_call (codeAny_mono (F.run X.A X.stack s H ⟨us, []⟩ us vs Q E0 p hr hpin I.env0 b r h) fun r s' hq => ?_)
  cases r with
  | error e => exact False.elim hq
  | ok fl =>
    cases fl with
    | ret u => exact I.after hq
    | next => exact False.elim hq
    | brk => exact False.elim hq
    | cont => exact False.elim hq
structure ToldBy (P : Program) (w : World) (K : PySem.W.Frag) (mg : Str → Option Value) (base : Heap) (D : Addr) (z : Str) : Prop where
  ga : PySem.W.findIn K (.ref D) "__getattribute__" = some (some (.builtin "BaseException.__getattribute__"))
  gg : PySem.W.findIn K (.ref D) "__getattr__" = some none
  by_ : ∃ (f : Addr) (fd : FuncData), PySem.W.findIn K (.ref D) "told" = some (some (.ref f)) ∧ PySem.W.isFn K (.ref f) = true ∧ PySem.W.keepIn K (.ref f) = true ∧ FnG P w K mg base CX0 1 f fd ["self"] (spTold z) ∧ Binds K fd ["self"] []
def tXtold (a : Addr) (cls : Value) (d : Option Addr) (C : Addr) (z : Str) (te : TE) : TE := fun σ H Q => te σ H fun x H1 => x = .ref a ∧ cls = .ref C ∧ (∃ (dd : Addr) (fs : List (Str × V)), d = some dd ∧ H1 dd = some (.xd fs) ∧ fs.lookup ("told" : Str) = none) ∧ Q (.str z) H1
theorem pe_xtold {X : Cx} {a C : Addr} {oe : Obj} {cls : Value} {d : Option Addr} {pn : List (Addr × Obj)} {o : Expr} {te : TE} {pos apos : Pos} {z : Str} {pl : Sem Bool} (T : ToldBy X.prog X.w X.K X.mg X.base C z) (hr : Room 1 X.A)
    (hz : Zc cls d oe) (hf : ∃ vs, oe.data = .fields vs) (ho : PE (X.suite a ((a, oe) :: pn)) o te)
    (ht : eval (.Call (.Attribute o "told" apos) [] [] pos) X.env = (do
      let ov ← eval o X.env
      standAt apos.atName
      let (f, first) ← holding [ov] (getMethod ov "told" pl)
      callWith pos f first (backTo pos (starEach [] X.env)) (backToKw pos (keywordEach [] X.env))) := by rfl) :
    PE (X.suite a ((a, oe) :: pn)) (.Call (.Attribute o "told" apos) [] [] pos) (tXtold a cls d C z te) := by
  refine ⟨fun pins s σ H Q I h => ?_⟩
  refine PySem.W.methodCall_KW (pl := pl) (thn (ho.run pins s σ H _ I h) fun u s1 hh => ?_) ht
  obtain ⟨x, H1, I1, rx, ex, ec, ⟨dd, fs, ed, ea, l⟩, q⟩ := hh
  subst ex
  obtain rfl : u = Value.ref a := rx
  subst ec
  subst ed
  obtain ⟨f, fd, hf1, hi, hk, F, hb⟩ := T.by_
  obtain ⟨ha, _⟩ := I1.pin (a, oe) (List.mem_append_left _ List.mem_cons_self)
  obtain ⟨vs, hd⟩ := hf
  have hx : ObjOk X.prog X.w H1 s1.heap dd (.xd fs) := I1.hok dd _ ea
  obtain ⟨mA, hns, hr2⟩ := hx
  obtain ⟨od, ho', hl⟩ := lookIn_ns hns
  have J : PySem.W.InstAt s1.heap a oe C (some od) := ⟨ha, hz.1, by unfold PySem.W.notCls; rw [hd] <;> rfl, by rw [hz.2]; exact ho'⟩
  have sh : PySem.W.shadowIn (some od) "told" = some false := by
    show (PySem.W.lookIn "told" od).map (·.isSome) = some false
    rw [hl]
    have q := hr2 "told"
    rw [l] at q
    rw [RelO.none_of q]
    rfl
  obtain ⟨m, fr⟩ := I1.fr
  exact PySem.W.method_exc fr I1.ok.mod.kin J T.ga T.gg hf1 hi sh (PySem.W.callWith_K0 (first := [.ref a]) I1.kIn hk (run_fnG (X := X.suite a ((a, oe) :: pn)) (p := (a, oe)) (us := [.ref a]) (vs := [.ref a]) F ⟨hr.dp, hr.un⟩ List.mem_cons_self hb I1 (.cons rfl .nil) ⟨_, rfl, q⟩))
end Sq

namespace Sq
open PySem L2 PyProof.Rows
abbrev s_rinit : Stmt := inClass (top 42) 1
abbrev s_rlen : Stmt := inClass (top 42) 2
abbrev s_rget : Stmt := inClass (top 42) 3
abbrev s_rset : Stmt := inClass (top 42) 4
abbrev s_riadd : Stmt := inClass (top 42) 7
abbrev s_rser : Stmt := inClass (top 42) 8
abbrev s_fill : Stmt := top 43
theorem mkR_go {K : PySem.W.Frag} {CRd r dr l : Addr} {H : Hp} {xs : List V} {Q : VK} {E : XK} (hl : H l = some (.lst xs) ∨ H l = some (.tup xs)) (nr : H r = none) (ndr : H dr = none) (ne : dr ≠ r) (k : ∀ H', Same H H' → RdyAt CRd H' r xs → Q .non H') :
    spReady CRd K [.ref r, .ref l] (upd (upd H dr (.own r)) r (.ins CRd dr [])) Q E := by
  have s0 : Same H (upd (upd H dr (.own r)) r (.ins CRd dr [])) := same_pair nr ndr ne
  exact ⟨r, dr, l, xs, rfl, upd_same, hl.imp (s0 _ _) (s0 _ _), fun H' b h => k H' (same_made nr ndr b) h⟩
theorem mkS_any {K : PySem.W.Frag} {C CS CF CRd CNP y dy x : Addr} {H : Hp} {p : Int} {v : V} {b : Bool} {g : Int ⊕ List (Int × Int)} {Q : VK} {E : XK} (hx : FldAt CF H x p) (hg : goodP p = true) (sr : SRow K C CRd H p 1 32 v b g) (ny : H y = none) (ndy : H dy = none) (ne : dy ≠ y)
    (kE : ∀ n, headG g = .inl n → ∀ H', Same H H' → ∀ d, H' d = none → E (.ref CNP) (some d) (upd H' d (fldAt "place" (.int n)))) (k : ∀ prs, headG g = .inr prs → ∀ H', Same H H' → Ser C CS CF H' y p prs → Q .non H') : spSInit K C CS CF CRd CNP [.ref y, .ref x, v] (upd (upd H dy (.own y)) y (.ins CS dy [])) Q E := by
  have s0 : Same H (upd (upd H dy (.own y)) y (.ins CS dy [])) := same_pair ny ndy ne
  exact ⟨y, dy, x, p, v, b, g, rfl, upd_same, hx.same s0, hg, sr.same s0, fun n e H1 s1 d hd => kE n e H1 (s0.trans s1) d hd, fun q e H1 b1 s => k q e H1 (same_made ny ndy b1) s⟩
def rlf (fx ct : Addr) : List (Str × V) := putF "_held" (.ref ct) (putF "field" (.ref fx) [])
theorem rlf_field (fx ct : Addr) : (rlf fx ct).lookup ("field" : Str) = some (.ref fx) := by
  unfold rlf
  rfl
theorem rlf_held (fx ct : Addr) : (rlf fx ct).lookup ("_held" : Str) = some (.ref ct) := by
  unfold rlf
  rfl
theorem rlf_most (fx ct : Addr) : (rlf fx ct).lookup ("MOST" : Str) = none := by
  unfold rlf
  rfl
theorem rlf_put (fx ct dt : Addr) : putF "_held" (.ref dt) (rlf fx ct) = rlf fx dt := by
  unfold rlf
  rfl
structure RdrAt (C CRr CF : Addr) (H : Hp) (x : Addr) (p : Int) (prs : List (Int × Int)) (dx fx ct : Addr) (ys : List V) : Prop where
  ob : H x = some (.ins CRr dx (rlf fx ct))
  fl : FldAt CF H fx p
  co : H ct = some (.tup ys)
  nu : FNs C H p ys prs
  wf : prs = [] ∨ ∃ a r, prs = a :: r ∧ a.1 ≠ 0
  l32 : prs.length ≤ 32
  ft : ∀ a ∈ prs, Fit a.1 ∧ Fit a.2
def Rdr (C CRr CF : Addr) (H : Hp) (x : Addr) (p : Int) (prs : List (Int × Int)) : Prop := ∃ dx fx ct ys, RdrAt C CRr CF H x p prs dx fx ct ys
theorem RdrAt.same {C CRr CF : Addr} {H H' : Hp} {x : Addr} {p : Int} {prs : List (Int × Int)} {dx fx ct : Addr} {ys : List V} (s : Same H H') (h : RdrAt C CRr CF H x p prs dx fx ct ys) : RdrAt C CRr CF H' x p prs dx fx ct ys := ⟨s _ _ h.ob, h.fl.same s, s _ _ h.co, h.nu.same s, h.wf, h.l32, h.ft⟩
theorem Rdr.same {C CRr CF : Addr} {H H' : Hp} {x : Addr} {p : Int} {prs : List (Int × Int)} (s : Same H H') (h : Rdr C CRr CF H x p prs) : Rdr C CRr CF H' x p prs := by
  obtain ⟨dx, fx, ct, ys, R⟩ := h
  exact ⟨dx, fx, ct, ys, R.same s⟩
structure TRr (K : PySem.W.Frag) (CRr : Addr) : Prop where
  cl : Cls K CRr
  nF : NoAttr K CRr "field"
  nH : NoAttr K CRr "_held"
/-! ### the reader changes, all else stands -/
theorem RatAt.butR {C CRr : Addr} {H H' : Hp} {x y dx fx ct : Addr} {t u : Int} (hy : H x = some (.ins CRr dx (rlf fx ct))) (b : But x H H') (h : RatAt C H y t u) : RatAt C H' y t u := by
  obtain ⟨d, h⟩ := h
  refine ⟨d, b _ _ h fun e => ?_⟩
  subst e
  rw [h] at hy
  injection Option.some.inj hy with _ _ e3
  have := congrArg (fun l => l.lookup ("top" : Str)) e3
  rw [rf_top] at this
  cases this
theorem FldAt.butR {CF CRr : Addr} {H H' : Hp} {x y dx fx ct : Addr} {p : Int} (hy : H x = some (.ins CRr dx (rlf fx ct))) (b : But x H H') (h : FldAt CF H y p) : FldAt CF H' y p := by
  obtain ⟨d, h⟩ := h
  refine ⟨d, b _ _ h fun e => ?_⟩
  subst e
  rw [h] at hy
  injection Option.some.inj hy with _ _ e3
  have := congrArg (fun l => l.lookup ("prime" : Str)) e3
  rw [pf_prime] at this
  cases this
theorem FN.butR {C CRr : Addr} {H H' : Hp} {x dx fx ct : Addr} {p t u : Int} {v : V} (hy : H x = some (.ins CRr dx (rlf fx ct))) (b : But x H H') (h : FN C H p v t u) : FN C H' p v t u := by
  rcases h with ⟨p0, ⟨r, e, R⟩, a, c⟩ | h
  · exact .inl ⟨p0, ⟨r, e, R.butR hy b⟩, a, c⟩
  · exact .inr h
theorem FNs.butR {C CRr : Addr} {H H' : Hp} {x dx fx ct : Addr} {p : Int} {ys : List V} {prs : List (Int × Int)} (hy : H x = some (.ins CRr dx (rlf fx ct))) (b : But x H H') (h : FNs C H p ys prs) : FNs C H' p ys prs := ⟨h.len, fun i z pr e1 e2 => (h.at_ i z pr e1 e2).butR hy b⟩
/-- what is given for the numbers of a reader, and what becomes of it -/
inductive XRow (K : PySem.W.Frag) (C CRd : Addr) (H : Hp) (p : Int) : V → Int ⊕ List (Int × Int) → Prop where
  | emp {l : Addr} (h : LT H l []) : XRow K C CRd H p (.ref l) (.inr [])
  | ser {v : V} {g : Int ⊕ List (Int × Int)} (sr : SRow K C CRd H p 1 32 v false g) (hq : IsQ K H v false ∨ ∃ l xs, v = .ref l ∧ LT H l xs ∧ xs ≠ []) : XRow K C CRd H p v (headG g)
theorem XRow.same {K : PySem.W.Frag} {C CRd : Addr} {H H' : Hp} {p : Int} {v : V} {g : Int ⊕ List (Int × Int)} (s : Same H H') (h : XRow K C CRd H p v g) : XRow K C CRd H' p v g := by
  cases h with
  | emp h => exact .emp (h.same s)
  | ser sr hq =>
    refine .ser (sr.same s) ?_
    rcases hq with h | ⟨l, xs, e, h, n⟩
    · exact .inl (h.same s)
    · exact .inr ⟨l, xs, e, h.same s, n⟩
theorem headG_len {K : PySem.W.Frag} {C CRd : Addr} {H : Hp} {p : Int} {v : V} {g : Int ⊕ List (Int × Int)} {prs : List (Int × Int)} (sr : SRow K C CRd H p 1 32 v false g) (e : headG g = .inr prs) : prs.length ≤ 32 := by
  cases sr with
  | no nc h => cases e
  | size nc h n => cases e
  | bad nc h n0 n g lt => cases e
  | @row l xs ps nc h n0 n g =>
    have hl : ps.length ≤ 32 := by
      have := g.len
      rw [List.length_map] at this
      omega
    cases ps with
    | nil => cases e
    | cons a r =>
      have e2 : (if a.1 = 0 then Sum.inl (0 : Int) else Sum.inr (a :: r)) = Sum.inr prs := e
      by_cases c : a.1 = 0
      · rw [if_pos c] at e2
        cases e2
      · rw [if_neg c] at e2
        cases e2
        exact hl
theorem fit_small {p a : Int} (hg : goodP p = true) (p0 : p ≠ 0) (h0 : 0 ≤ a) (h1 : a < p) : Fit a := by
  obtain ⟨_, p9⟩ := prime_lt hg p0
  have : (2 : Nat) ^ 60 = 1152921504606846976 := by decide
  exact fit60 (by omega)
theorem givs_fit {K : PySem.W.Frag} {C : Addr} {H : Hp} {p : Int} {xs : List V} {prs : List (Int × Int)} (hg : goodP p = true) (g : Givs K C H p xs (prs.map some)) : ∀ a ∈ prs, Fit a.1 ∧ Fit a.2 := by
  intro a ha
  obtain ⟨i, hi⟩ := List.mem_iff_getElem?.mp ha
  have li := get_len hi
  have lx : i < xs.length := by
    have := g.len
    rw [List.length_map] at this
    omega
  have e1 : (prs.map some)[i]? = some (some a) := by rw [List.getElem?_map, hi]; rfl
  obtain ⟨t, u, n, pu, st, su, h0, hp⟩ := g.at_ i _ _ (List.getElem?_eq_getElem lx) e1
  by_cases p0 : p = 0
  · rw [(h0 p0).1]
    exact ⟨st, su⟩
  · obtain ⟨_, a2, a0, a1, _⟩ := hp p0
    exact ⟨fit_small hg p0 a0 a1, by rw [a2]; exact fit_one⟩
theorem headG_eq {q prs : List (Int × Int)} (e : headG (.inr q) = .inr prs) : q = prs := by
  cases q with
  | nil => cases e
  | cons a r =>
    have e2 : (if a.1 = 0 then Sum.inl (0 : Int) else Sum.inr (a :: r)) = Sum.inr prs := e
    by_cases c : a.1 = 0
    · rw [if_pos c] at e2
      cases e2
    · rw [if_neg c] at e2
      cases e2
      rfl
theorem headG_fit {K : PySem.W.Frag} {C CRd : Addr} {H : Hp} {p : Int} {v : V} {g : Int ⊕ List (Int × Int)} {prs : List (Int × Int)} (hg : goodP p = true) (sr : SRow K C CRd H p 1 32 v false g) (e : headG g = .inr prs) : ∀ a ∈ prs, Fit a.1 ∧ Fit a.2 := by
  cases sr with
  | no nc h => cases e
  | size nc h n => cases e
  | bad nc h n0 n g lt => cases e
  | row nc h n0 n g =>
    rw [← headG_eq e]
    exact givs_fit hg g
/-- what is given to +=, behind m numbers -/
inductive ARow (K : PySem.W.Frag) (C CRd : Addr) (H : Hp) (p : Int) (m : Nat) : V → Int ⊕ List (Int × Int) → Prop where
  | no {v : V} (h : IsQ K H v false) : ARow K C CRd H p m v (.inl (-1))
  | long {l : Addr} {xs : List V} (h : LT H l xs) (n : 32 < m + xs.length) : ARow K C CRd H p m (.ref l) (.inl (-1))
  | bad {l : Addr} {xs : List V} {os : List (Option (Int × Int))} (h : LT H l xs) (n : m + xs.length ≤ 32) (g : Givs K C H p xs os) (lt : (pre os).length < os.length) : ARow K C CRd H p m (.ref l) (.inl ((pre os).length : Nat))
  | row {l : Addr} {xs : List V} {prs : List (Int × Int)} (h : LT H l xs) (n : m + xs.length ≤ 32) (g : Givs K C H p xs (prs.map some)) : ARow K C CRd H p m (.ref l) (.inr prs)
/-- behind the numbers held -/
def addG (held : List (Int × Int)) : Int ⊕ List (Int × Int) → Int ⊕ List (Int × Int)
  | .inl n => .inl n
  | .inr prs => if held ++ prs = [] then .inr [] else headG (.inr (held ++ prs))
def spRInit (C CRr CF : Addr) : Sp := fun vs H Q _ => ∃ (y dy fx : Addr) (p : Int), vs = [.ref y, .ref fx] ∧ H y = some (.ins CRr dy []) ∧ FldAt CF H fx p ∧ ∀ H', But y H H' → Rdr C CRr CF H' y p [] → Q .non H'
def spRLen (C CRr CF : Addr) : Sp := fun vs H Q _ => ∃ (x : Addr) (p : Int) (prs : List (Int × Int)), vs = [.ref x] ∧ Rdr C CRr CF H x p prs ∧ Q (.int (prs.length : Int)) H
def spRGet (C CRr CF : Addr) : Sp := fun vs H Q _ => ∃ (x : Addr) (p : Int) (prs : List (Int × Int)), vs = [.ref x] ∧ Rdr C CRr CF H x p prs ∧ ∀ ct ys, H ct = some (.tup ys) → FNs C H p ys prs → Q (.ref ct) H
def spRSet (K : PySem.W.Frag) (C CRr CF CRd CNP : Addr) : Sp := fun vs H Q E => ∃ (x : Addr) (v : V) (p : Int) (old : List (Int × Int)) (g : Int ⊕ List (Int × Int)), vs = [.ref x, v] ∧ Rdr C CRr CF H x p old ∧ goodP p = true ∧ XRow K C CRd H p v g ∧
  (∀ n, g = .inl n → ∀ H', Same H H' → ∀ d, H' d = none → E (.ref CNP) (some d) (upd H' d (fldAt "place" (.int n)))) ∧
  (∀ prs, g = .inr prs → ∀ H', But x H H' → Rdr C CRr CF H' x p prs → Q .non H')
def spRIadd (K : PySem.W.Frag) (C CRr CF CRd CNP : Addr) : Sp := fun vs H Q E => ∃ (x : Addr) (v : V) (p : Int) (old : List (Int × Int)) (g : Int ⊕ List (Int × Int)), vs = [.ref x, v] ∧ Rdr C CRr CF H x p old ∧ goodP p = true ∧ ARow K C CRd H p old.length v g ∧
  (∀ n, addG old g = .inl n → ∀ H', Same H H' → ∀ d, H' d = none → E (.ref CNP) (some d) (upd H' d (fldAt "place" (.int n)))) ∧
  (∀ prs, addG old g = .inr prs → ∀ H', But x H H' → Rdr C CRr CF H' x p prs → Q (.ref x) H')
def spRSer (C CRr CS CF : Addr) : Sp := fun vs H Q _ => ∃ (x : Addr) (p : Int) (prs : List (Int × Int)), vs = [.ref x] ∧ Rdr C CRr CF H x p prs ∧ goodP p = true ∧ prs ≠ [] ∧ ∀ y H', Same H H' → Ser C CS CF H' y p prs → Q (.ref y) H'
def spFill (K : PySem.W.Frag) (C CRr CF CRd CNP : Addr) : Sp := fun vs H Q E => ∃ (x : Addr) (v : V) (p : Int) (old : List (Int × Int)) (g : Int ⊕ List (Int × Int)), vs = [.ref x, v] ∧ Rdr C CRr CF H x p old ∧ goodP p = true ∧ XRow K C CRd H p v g ∧
  (∀ n, g = .inl n → ∀ H', Same H H' → ∀ d, H' d = none → E (.ref CNP) (some d) (upd H' d (fldAt "place" (.int n)))) ∧
  (∀ prs, g = .inr prs → ∀ H', But x H H' → Rdr C CRr CF H' x p prs → Q (.ref x) H')
section
variable {P : Program} {w : World} {K : PySem.W.Frag} {mg : Str → Option Value} {base : Heap}
theorem sc_rinit : FnScope ["self", "field"] ["self", "field"] (defScope s_rinit) := ⟨rfl, rfl, rfl, by decide +kernel, rfl, by decide +kernel, by decide +kernel⟩
theorem ok_rinit {f C CRr CF : Addr} {fd : FuncData} (F : Fun K "__init__" "Reader.__init__" s_rinit f fd) (TR : TRr K CRr) : FnOk P w K mg base CX0 1 f fd ["self", "field"] (spRInit C CRr CF) := by
  refine F.ok sc_rinit (fun vs H Q E h => ?_) (fun cdv A outer s H vs Q E hr h => ?_)
  · obtain ⟨y, dy, fx, p, rfl, _⟩ := h
    rfl
  · obtain ⟨y, dy, fx, p, rfl, hy, hx, k⟩ := h
    refine ⟨_, (pss_cons (ps_fld (pv 0) (pv 1) rfl) (pss_one (ps_fld (pv 0) (pe_tup pa_nil) rfl))), ?_⟩
    refine ⟨_, rfl, _, rfl, y, CRr, dy, [], rfl, hy, TR.cl, TR.nF, (by show 0 < 1000; decide), ?_⟩
    have b1 : But y H (upd H y (.ins CRr dy (putF "field" (.ref fx) []))) := (But.refl y H).upd
    have h1 : upd H y (.ins CRr dy (putF "field" (.ref fx) [])) y = some (.ins CRr dy (putF "field" (.ref fx) [])) := upd_same
    generalize upd H y (.ins CRr dy (putF "field" (.ref fx) [])) = H1 at *
    refine ⟨(by show 0 ≤ sizeLine; decide), fun q hq => ?_⟩
    have n1 : y ≠ q := ne_of_none h1 hq
    refine ⟨_, rfl, y, CRr, dy, _, rfl, (upd_ne n1).trans h1, TR.cl, TR.nH, (by show 1 < 1000; decide), ?_⟩
    have b2 := (b1.new (o := .tup []) hq).upd (o := .ins CRr dy (putF "_held" (.ref q) (putF "field" (.ref fx) [])))
    exact k _ b2 ⟨dy, fx, q, [], upd_same, hx.but hy b2, (upd_ne n1.symm).trans upd_same, FNs.nil, .inl rfl, Nat.zero_le _, fun a z => by cases z⟩
theorem sc_rlen : FnScope ["self"] ["self"] (defScope s_rlen) := ⟨rfl, rfl, rfl, by decide +kernel, rfl, by decide +kernel, by decide +kernel⟩
theorem ok_rlen {f C CRr CF : Addr} {fd : FuncData} (F : Fun K "__len__" "Reader.__len__" s_rlen f fd) (TR : TRr K CRr) (B : QTx mg) : FnOk P w K mg base CX0 1 f fd ["self"] (spRLen C CRr CF) := by
  refine F.ok sc_rlen (fun vs H Q E h => ?_) (fun cdv A outer s H vs Q E hr h => ?_)
  · obtain ⟨x, p, prs, rfl, _⟩ := h
    rfl
  · obtain ⟨x, p, prs, rfl, ⟨dx, fx, ct, ys, R⟩, k⟩ := h
    refine ⟨_, pss_one (ps_ret (pe_callB call_len_seq (by rfl) B.b_len (by decide +kernel) (pa_cons (pe_fld (pv 0) rfl) pa_nil))), ?_⟩
    refine ⟨_, rfl, x, CRr, dx, _, _, rfl, R.ob, TR.cl, TR.nH, rlf_held _ _, ct, ys, rfl, .inr (SqT.of R.co), ?_⟩
    rw [R.nu.len]
    exact k
theorem sc_rget : FnScope ["self"] ["self"] (defScope s_rget) := ⟨rfl, rfl, rfl, by decide +kernel, rfl, by decide +kernel, by decide +kernel⟩
theorem ok_rget {f C CRr CF : Addr} {fd : FuncData} (F : Fun K "numbers" "Reader.numbers" s_rget f fd) (TR : TRr K CRr) : FnOk P w K mg base CX0 1 f fd ["self"] (spRGet C CRr CF) := by
  refine F.ok sc_rget (fun vs H Q E h => ?_) (fun cdv A outer s H vs Q E hr h => ?_)
  · obtain ⟨x, p, prs, rfl, _⟩ := h
    rfl
  · obtain ⟨x, p, prs, rfl, ⟨dx, fx, ct, ys, R⟩, k⟩ := h
    refine ⟨_, pss_one (ps_ret (pe_fld (pv 0) rfl)), ?_⟩
    exact ⟨_, rfl, x, CRr, dx, _, _, rfl, R.ob, TR.cl, TR.nH, rlf_held _ _, k ct ys R.co R.nu⟩
theorem sc_rset : FnScope ["self", "value"] ["self", "value"] (defScope s_rset) := ⟨rfl, rfl, rfl, by decide +kernel, rfl, by decide +kernel, by decide +kernel⟩
theorem ok_rset {f C CF CS CRr CRd CNP fseq fsinit : Addr} {fd fdseq fdsinit : FuncData} (F : Fun K "numbers" "Reader.numbers" s_rset f fd) (TR : TRr K CRr) (TS : STx K CS) (B : QTx mg) (G_seq : FnOk P w K mg base CX0 1 fseq fdseq ["value"] (spSeq K)) (m_seq : mg "is_a_sequence" = some (.ref fseq)) (k_seq : PySem.W.keepIn K (.ref fseq) = true) (b_seq : Binds K fdseq ["value"] [])
    (MS : Mk K CS fsinit) (G_sinit : FnOk P w K mg base (L2.CX P w) 12 fsinit fdsinit ["self", "field", "coefficients"] (spSInit K C CS CF CRd CNP)) (b_sinit : Binds K fdsinit ["self", "field", "coefficients"] []) (m_S : mg "Series" = some (.ref CS)) : FnOk P w K mg base (L2.CX P w) 14 f fd ["self", "value"] (spRSet K C CRr CF CRd CNP) := by
  refine F.okX sc_rset (fun vs H Q E h => ?_) (fun cdv A outer s H vs Q E hr h => ?_)
  · obtain ⟨x, v, p, old, g, rfl, _⟩ := h
    rfl
  · obtain ⟨x, v, p, old, g, rfl, ⟨dx, fx, ct, ys, R⟩, hg, xr, kE, kQ⟩ := h
    refine ⟨_, (pss_one (ps_if (PW.pt (pw_and (pt_val (pe_call G_seq (hr.mono (by decide)) rfl m_seq k_seq b_seq .nil pass0 (pa_cons (pv 1) pa_nil))) (pw_and1 (pt_cmpR op_eq (pe_callB call_len_seq (by rfl) B.b_len (by decide +kernel) (pa_cons (pv 1) pa_nil)) pe_int (nomark _))))) (pss_one (ps_fld (pv 0) (pe_tup pa_nil) rfl)) (pss_one (ps_fld (pv 0) (pe_fld (pe_make (E := E) MS G_sinit (hr.mono (by decide)) rfl m_S b_sinit .nil (passes_call (takes_of rfl rfl rfl rfl) fun _ _ _ _ h => h) (pa_cons (pe_fld (pv 0) rfl) (pa_cons (pv 1) pa_nil))) rfl) rfl)))), ?_⟩
    have viaS : ∀ {v : V} {g : Int ⊕ List (Int × Int)} {H1 : Hp}, Same H H1 → SRow K C CRd H1 p 1 32 v false g → (∀ n, headG g = .inl n → ∀ H', Same H H' → ∀ d, H' d = none → E (.ref CNP) (some d) (upd H' d (fldAt "place" (.int n)))) → (∀ prs, headG g = .inr prs → ∀ H', But x H H' → Rdr C CRr CF H' x p prs → Q .non H') →
        (∀ y dy, H1 y = none → H1 dy = none → dy ≠ y → spSInit K C CS CF CRd CNP [.ref y, .ref fx, v] (upd (upd H1 dy (.own y)) y (.ins CS dy [])) (fun r H2 => r = .non ∧ ∃ a C' dx' fs v', V.ref y = .ref a ∧ H2 a = some (.ins C' dx' fs) ∧ Cls K C' ∧ NoAttr K C' "coefficients" ∧ fs.lookup ("coefficients" : Str) = some v' ∧
          ∃ z, [some (V.ref x), some v][0]? = some (some z) ∧ ∃ a C' dx' fs, z = .ref a ∧ H2 a = some (.ins C' dx' fs) ∧ Cls K C' ∧ NoAttr K C' "_held" ∧ fs.length < 1000 ∧ Q .non (upd H2 a (.ins C' dx' (putF "_held" v' fs)))) E) := fun {v g H1} s1 sr kE kQ y dy ny ndy ne => by
      have R1 := R.same s1
      refine mkS_any R1.fl hg sr ny ndy ne (fun n e H' s' d hd => kE n e H' (s1.trans s') d hd) fun prs e H2 s2 ⟨dy2, fy2, ct2, ys2, SO⟩ => ?_
      have R2 := R1.same s2
      refine ⟨rfl, y, CS, dy2, _, _, rfl, SO.ob, TS.cl, TS.nC, slf_coef _ _ _, _, rfl, x, CRr, dx, _, rfl, R2.ob, TR.cl, TR.nH, (by show 2 < 1000; decide), ?_⟩
      rw [rlf_put]
      have bt : But x H (upd H2 x (.ins CRr dx (rlf fx ct2))) := (Same.but (s1.trans s2)).upd
      have b2 : But x H2 (upd H2 x (.ins CRr dx (rlf fx ct2))) := (But.refl _ _).upd
      refine kQ prs e _ bt ⟨dx, fx, ct2, ys2, upd_same, R2.fl.butR R2.ob b2, b2 _ _ SO.co fun e => ?_, SO.nu.butR R2.ob b2, .inr SO.hd, headG_len sr e, headG_fit hg sr e⟩
      have := R2.ob
      rw [← e, SO.co] at this
      cases this
    cases xr with
    | emp hl =>
      refine ⟨_, rfl, _, true, rfl, hl.isQ, fun H1 s1 => ⟨_, rfl, iteT ?_⟩⟩
      refine ⟨_, rfl, _, [], rfl, (hl.same s1).imp SqL.of SqT.of, rfl, _, rfl, ?_⟩
      refine itD (decide_eq_true rfl) ?_
      refine ⟨(by show 0 ≤ sizeLine; decide), fun q hq => ?_⟩
      have R1 := R.same s1
      have R2 := R1.same (same_new (o := .tup []) (Same.refl H1) hq)
      refine ⟨_, rfl, x, CRr, dx, _, rfl, R2.ob, TR.cl, TR.nH, (by show 2 < 1000; decide), ?_⟩
      have h3 : upd H1 q (.tup []) q = some (.tup []) := upd_same
      have s2 := s1.trans (same_new (o := .tup []) (Same.refl H1) hq)
      generalize upd H1 q (.tup []) = H2 at *
      show Q .non (upd H2 x (.ins CRr dx (putF "_held" (.ref q) (rlf fx ct))))
      rw [rlf_put]
      have b2 : But x H2 (upd H2 x (.ins CRr dx (rlf fx q))) := (But.refl _ _).upd
      refine kQ [] rfl _ (Same.but s2).upd ⟨dx, fx, q, [], upd_same, R2.fl.butR R2.ob b2, b2 _ _ h3 fun e => ?_, FNs.nil, .inl rfl, Nat.zero_le _, fun a z => by cases z⟩
      have := R2.ob
      rw [← e, h3] at this
      cases this
    | ser sr hq =>
      rcases hq with hq | ⟨l, xs, rfl, hl, ne⟩
      · refine ⟨_, rfl, _, false, rfl, hq, fun H1 s1 => ⟨_, rfl, iteF ?_⟩⟩
        have R1 := R.same s1
        exact ⟨_, rfl, x, CRr, dx, _, _, rfl, R1.ob, TR.cl, TR.nF, rlf_field _ _, _, rfl, fun y dy ny ndy ne => viaS s1 (sr.same s1) kE kQ y dy ny ndy ne⟩
      · refine ⟨_, rfl, _, true, rfl, hl.isQ, fun H1 s1 => ⟨_, rfl, iteT ?_⟩⟩
        refine ⟨_, rfl, _, xs, rfl, (hl.same s1).imp SqL.of SqT.of, rfl, _, rfl, ?_⟩
        have n0 : xs.length ≠ 0 := fun z => ne (List.eq_nil_of_length_eq_zero z)
        refine itDn (fun z => n0 ?_) ?_
        · have := V.int.inj (of_decide_eq_true z)
          omega
        have R1 := R.same s1
        exact ⟨_, rfl, x, CRr, dx, _, _, rfl, R1.ob, TR.cl, TR.nF, rlf_field _ _, _, rfl, fun y dy ny ndy ne => viaS s1 (sr.same s1) kE kQ y dy ny ndy ne⟩
theorem sc_fill : FnScope ["reader", "numbers"] ["reader", "numbers"] (defScope s_fill) := ⟨rfl, rfl, rfl, by decide +kernel, rfl, by decide +kernel, by decide +kernel⟩
theorem ok_fill {f C CF CRr CRd CNP pnum frset : Addr} {fd fdrset : FuncData} (F : Fun K "fill" "fill" s_fill f fd) (TR : TRr K CRr) (PS : PropSet K CRr "numbers" pnum frset) (G_rset : FnOk P w K mg base (L2.CX P w) 14 frset fdrset ["self", "value"] (spRSet K C CRr CF CRd CNP)) (b_rset : Binds K fdrset ["self", "value"] []) : FnOk P w K mg base (L2.CX P w) 17 f fd ["reader", "numbers"] (spFill K C CRr CF CRd CNP) := by
  refine F.okX sc_fill (fun vs H Q E h => ?_) (fun cdv A outer s H vs Q E hr h => ?_)
  · obtain ⟨x, v, p, old, g, rfl, _⟩ := h
    rfl
  · obtain ⟨x, v, p, old, g, rfl, RR, hg, xr, kE, kQ⟩ := h
    refine ⟨_, (pss_cons (ps_prop (E := E) (pv 0) (pv 1) TR.cl PS G_rset (hr.mono (by decide)) b_rset (passes_call (takes_of rfl rfl rfl rfl) fun _ _ _ _ h => h) rfl) (pss_one (ps_ret (pv 0)))), ?_⟩
    obtain ⟨dx, fx, ct, ys, R⟩ := id RR
    exact ⟨_, rfl, _, rfl, x, dx, _, rfl, R.ob, x, v, p, old, g, rfl, RR, hg, xr, kE, fun prs e H' b r => ⟨_, rfl, kQ prs e H' b r⟩⟩
end
end Sq

namespace Sq
open PySem L2 PyProof.Rows
theorem FNs.givs {K : PySem.W.Frag} {C : Addr} {H : Hp} {p : Int} {ys : List V} {prs : List (Int × Int)} (hg : goodP p = true) (h : FNs C H p ys prs) (f : ∀ a ∈ prs, Fit a.1 ∧ Fit a.2) : Givs K C H p ys (prs.map some) := by
  refine ⟨by rw [List.length_map]; exact h.len, fun i x o a b => ?_⟩
  rw [List.getElem?_map] at b
  cases e : prs[i]? with
  | none =>
    rw [e] at b
    cases b
  | some c =>
    rw [e] at b
    have : o = some c := (Option.some.inj b).symm
    subst this
    have fc := f c (List.mem_of_getElem? e)
    exact giv_fn hg (h.at_ i x c a e) fc.1 fc.2
section
variable {P : Program} {w : World} {K : PySem.W.Frag} {mg : Str → Option Value} {base : Heap}
theorem sc_riadd : FnScope ["self", "other", "row"] ["self", "other"] (defScope s_riadd) := ⟨rfl, rfl, rfl, by decide +kernel, rfl, by decide +kernel, by decide +kernel⟩
theorem ok_riadd {f C CF CRr CRd CNP fNP fseq ftaken pnum frset : Addr} {fd fdNP fdseq fdtaken fdrset : FuncData} {v32 : Value} (F : Fun K "__iadd__" "Reader.__iadd__" s_riadd f fd) (TR : TRr K CRr) (B : QTx mg) (KR : KRd K C CRd) (cm : Con K CRr "MOST" (.int 32) v32) (G_seq : FnOk P w K mg base CX0 1 fseq fdseq ["value"] (spSeq K)) (m_seq : mg "is_a_sequence" = some (.ref fseq)) (k_seq : PySem.W.keepIn K (.ref fseq) = true) (b_seq : Binds K fdseq ["value"] []) (G_taken : FnOk P w K mg base CX0 9 ftaken fdtaken ["field", "values"] (spTaken K C CF)) (m_taken : mg "taken" = some (.ref ftaken)) (k_taken : PySem.W.keepIn K (.ref ftaken) = true) (b_taken : Binds K fdtaken ["field", "values"] [])
    (m_NP : mg "NoSeries" = some (.ref CNP)) (NP : NTxF K "place" CNP fNP) (G_NP : FnOk P w K mg base CX0 1 fNP fdNP ["self", "place"] (spFInit "place" CNP)) (b_NP : Binds K fdNP ["self", "place"] [])
    (PS : PropSet K CRr "numbers" pnum frset) (G_rset : FnOk P w K mg base (L2.CX P w) 14 frset fdrset ["self", "value"] (spRSet K C CRr CF CRd CNP)) (b_rset : Binds K fdrset ["self", "value"] []) : FnOk P w K mg base (L2.CX P w) 17 f fd ["self", "other"] (spRIadd K C CRr CF CRd CNP) := by
  refine F.okX sc_riadd (fun vs H Q E h => ?_) (fun cdv A outer s H vs Q E hr h => ?_)
  · obtain ⟨x, v, p, old, g, rfl, _⟩ := h
    rfl
  · obtain ⟨x, v, p, old, g, rfl, ⟨dx, fx, ct, ys, R⟩, hg, ar, kE, kQ⟩ := h
    refine ⟨_, (pss_cons (ps_if (PW.pt (pw_or (pt_not (pt_val (pe_call G_seq (hr.mono (by decide)) rfl m_seq k_seq b_seq .nil pass0 (pa_cons (pv 1) pa_nil)))) (pw_or1 (pt_cmpR op_gt (pe_op op_add (pe_callB call_len_seq (by rfl) B.b_len (by decide +kernel) (pa_cons (pe_fld (pv 0) rfl) pa_nil)) (pe_callB call_len_seq (by rfl) B.b_len (by decide +kernel) (pa_cons (pv 1) pa_nil))) (pe_con (pv 0) rfl) (nomark _))))) (pss_one (ps_raise rfl (takes_of rfl rfl rfl rfl) (pmk_oex NP.oex NP.iC NP.tI G_NP (hr.mono (by decide)) b_NP .nil pass0 rfl m_NP (pa_cons (pe_un un_neg pe_int) pa_nil)))) pss_nil)
      (pss_cons (ps_set (i := 2) sc_riadd.nd rfl (Or.inl rfl) (pe_call (E := E0) G_taken (hr.mono (by decide)) rfl m_taken k_taken b_taken .nil pass0 (pa_cons (pe_fld (pv 0) rfl) (pa_cons (pv 1) pa_nil))))
      (pss_cons (ps_if (pt_cmpR op_lt (pe_callB call_len_seq (by rfl) B.b_len (by decide +kernel) (pa_cons (pv 2) pa_nil)) (pe_callB call_len_seq (by rfl) B.b_len (by decide +kernel) (pa_cons (pv 1) pa_nil)) (nomark _)) (pss_one (ps_raise rfl (takes_of rfl rfl rfl rfl) (pmk_oex NP.oex NP.iC NP.tI G_NP (hr.mono (by decide)) b_NP .nil pass0 rfl m_NP (pa_cons (pe_callB call_len_seq (by rfl) B.b_len (by decide +kernel) (pa_cons (pv 2) pa_nil)) pa_nil)))) pss_nil)
      (pss_cons (ps_prop (E := E) (pv 0) (pe_lst (StX.pa_star (pe_fld (pv 0) rfl) (StX.pa_star (pv 2) pa_nil))) TR.cl PS G_rset (hr.mono (by decide)) b_rset (passes_call (takes_of rfl rfl rfl rfl) fun _ _ _ _ h => h) rfl)
      (pss_one (ps_ret (pv 0))))))), ?_⟩
    have e24 : (sizeLine : Nat) = 16777216 := sizeLine_eq
    have ly := R.nu.len
    cases ar with
    | no h =>
      exact ⟨_, rfl, v, false, rfl, h, fun H1 s1 => ⟨_, rfl, iteT ⟨_, rfl, by decide, mkO_readF (kE _ rfl H1 s1)⟩⟩⟩
    | @long l xs h n =>
      refine ⟨_, rfl, _, true, rfl, h.isQ, fun H1 s1 => ⟨_, rfl, iteF ?_⟩⟩
      have R1 := R.same s1
      refine ⟨_, rfl, x, CRr, dx, _, _, rfl, R1.ob, TR.cl, TR.nH, rlf_held _ _, ct, ys, rfl, .inr (SqT.of R1.co), _, rfl, l, xs, rfl, (h.same s1).imp SqL.of SqT.of, _, _, rfl, rfl, _, rfl, x, CRr, dx, _, _, _, rfl, R1.ob, TR.cl, cm, rlf_most _ _, _, _, rfl, rfl, _, rfl, ?_⟩
      refine itD (decide_eq_true (by omega)) ?_
      exact ⟨_, rfl, by decide, mkO_readF (kE _ rfl H1 s1)⟩
    | @bad l xs os h n gv lt =>
      refine ⟨_, rfl, _, true, rfl, h.isQ, fun H1 s1 => ⟨_, rfl, iteF ?_⟩⟩
      have R1 := R.same s1
      refine ⟨_, rfl, x, CRr, dx, _, _, rfl, R1.ob, TR.cl, TR.nH, rlf_held _ _, ct, ys, rfl, .inr (SqT.of R1.co), _, rfl, l, xs, rfl, (h.same s1).imp SqL.of SqT.of, _, _, rfl, rfl, _, rfl, x, CRr, dx, _, _, _, rfl, R1.ob, TR.cl, cm, rlf_most _ _, _, _, rfl, rfl, _, rfl, ?_⟩
      refine itDn (by simp; omega) ?_
      refine ⟨_, rfl, x, CRr, dx, _, _, rfl, R1.ob, TR.cl, TR.nF, rlf_field _ _, _, rfl, fx, l, p, xs, os, rfl, R1.fl, hg, h.same s1, by omega, gv.same s1, fun q zs H2 s2 hq fn => ?_⟩
      have h2 := (h.same s1).same s2
      have lz := fn.len
      have lo := gv.len
      refine ⟨_, rfl, q, zs, rfl, .inl (SqL.of hq), _, rfl, l, xs, rfl, h2.imp SqL.of SqT.of, _, _, rfl, rfl, _, rfl, ?_⟩
      refine itD (decide_eq_true (by omega)) ?_
      refine ⟨_, rfl, q, zs, rfl, .inl (SqL.of hq), (by show 1 ≤ 1000; decide), mkO_readF ?_⟩
      rw [lz]
      exact kE _ rfl H2 (s1.trans s2)
    | @row l xs prs h n gv =>
      refine ⟨_, rfl, _, true, rfl, h.isQ, fun H1 s1 => ⟨_, rfl, iteF ?_⟩⟩
      have R1 := R.same s1
      refine ⟨_, rfl, x, CRr, dx, _, _, rfl, R1.ob, TR.cl, TR.nH, rlf_held _ _, ct, ys, rfl, .inr (SqT.of R1.co), _, rfl, l, xs, rfl, (h.same s1).imp SqL.of SqT.of, _, _, rfl, rfl, _, rfl, x, CRr, dx, _, _, _, rfl, R1.ob, TR.cl, cm, rlf_most _ _, _, _, rfl, rfl, _, rfl, ?_⟩
      refine itDn (by simp; omega) ?_
      refine ⟨_, rfl, x, CRr, dx, _, _, rfl, R1.ob, TR.cl, TR.nF, rlf_field _ _, _, rfl, fx, l, p, xs, _, rfl, R1.fl, hg, h.same s1, by omega, gv.same s1, fun q zs H2 s2 hq fn => ?_⟩
      have h2 := (h.same s1).same s2
      rw [pre_all rfl] at fn
      have lz := fn.len
      have lo := gv.len
      rw [List.length_map] at lo
      have R2 := R1.same s2
      refine ⟨_, rfl, q, zs, rfl, .inl (SqL.of hq), _, rfl, l, xs, rfl, h2.imp SqL.of SqT.of, _, _, rfl, rfl, _, rfl, ?_⟩
      refine itDn (by simp; omega) ?_
      refine ⟨_, rfl, x, CRr, dx, _, _, rfl, R2.ob, TR.cl, TR.nH, rlf_held _ _, ct, ys, rfl, .inl (SqT.of R2.co), _, rfl, q, zs, rfl, .inr (SqL.of hq), (by simp; omega), fun L hL => ?_⟩
      rw [List.append_nil] at *
      have s3 := same_new (o := .lst (ys ++ zs)) (Same.refl H2) hL
      have hL3 : upd H2 L (.lst (ys ++ zs)) L = some (.lst (ys ++ zs)) := upd_same
      have R3 := R2.same s3
      have fn3 := (R2.nu.app fn).same s3
      generalize upd H2 L (.lst (ys ++ zs)) = H3 at *
      have s03 := (s1.trans s2).trans s3
      have fit : ∀ a ∈ old ++ prs, Fit a.1 ∧ Fit a.2 := fun a ha => (List.mem_append.mp ha).elim (R.ft a) (givs_fit hg gv a)
      have lall : (ys ++ zs).length = (old ++ prs).length := fn3.len
      have l32 : (old ++ prs).length ≤ 32 := by rw [List.length_append]; omega
      by_cases c : old ++ prs = []
      · have z : ys ++ zs = [] := List.eq_nil_of_length_eq_zero (by rw [lall, c]; rfl)
        rw [z] at hL3
        refine ⟨_, rfl, x, dx, _, rfl, R3.ob, x, _, p, old, _, rfl, ⟨dx, fx, ct, ys, R3⟩, hg, .emp (.inl hL3), (fun n e => by cases e), fun ps e H4 b4 r => ⟨_, rfl, ?_⟩⟩
        cases e
        exact kQ [] (if_pos c) H4 ((Same.but s03).trans b4) r
      · have n0 : 0 < (old ++ prs).length := List.length_pos_iff.mpr c
        have hn : ys ++ zs ≠ [] := fun z => by
          rw [z] at lall
          have : (0 : Nat) = (old ++ prs).length := lall
          omega
        have sr : SRow K C CRd H3 p 1 32 (.ref L) false (.inr (old ++ prs)) := .row ⟨_, .base (.lst hL3), KR.klist⟩ (.inl hL3) (by omega) (by omega) (fn3.givs hg fit)
        refine ⟨_, rfl, x, dx, _, rfl, R3.ob, x, _, p, old, _, rfl, ⟨dx, fx, ct, ys, R3⟩, hg, .ser sr (.inr ⟨L, _, rfl, .inl hL3, hn⟩), fun n e H4 s4 d hd => kE n ((if_neg c).trans e) H4 (s03.trans s4) d hd, fun ps e H4 b4 r => ⟨_, rfl, kQ ps ((if_neg c).trans e) H4 ((Same.but s03).trans b4) r⟩⟩
theorem sc_rser : FnScope ["self"] ["self"] (defScope s_rser) := ⟨rfl, rfl, rfl, by decide +kernel, rfl, by decide +kernel, by decide +kernel⟩
theorem ok_rser {f C CF CS CRr CRd CNP fNP fsinit frd : Addr} {fd fdNP fdsinit fdrd : FuncData} (F : Fun K "series" "Reader.series" s_rser f fd) (TR : TRr K CRr) (B : QTx mg) (m_NP : mg "NoSeries" = some (.ref CNP)) (NP : NTxF K "place" CNP fNP) (G_NP : FnOk P w K mg base CX0 1 fNP fdNP ["self", "place"] (spFInit "place" CNP)) (b_NP : Binds K fdNP ["self", "place"] [])
    (MS : Mk K CS fsinit) (G_sinit : FnOk P w K mg base (L2.CX P w) 12 fsinit fdsinit ["self", "field", "coefficients"] (spSInit K C CS CF CRd CNP)) (b_sinit : Binds K fdsinit ["self", "field", "coefficients"] []) (m_S : mg "Series" = some (.ref CS)) (MRd : Mk K CRd frd) (G_rd : FnOk P w K mg base CX0 1 frd fdrd ["self", "row"] (spReady CRd K)) (b_rd : Binds K fdrd ["self", "row"] []) (m_Rd : mg "Ready" = some (.ref CRd)) : FnOk P w K mg base (L2.CX P w) 14 f fd ["self"] (spRSer C CRr CS CF) := by
  refine F.okX sc_rser (fun vs H Q E h => ?_) (fun cdv A outer s H vs Q E hr h => ?_)
  · obtain ⟨x, p, prs, rfl, _⟩ := h
    rfl
  · obtain ⟨x, p, prs, rfl, ⟨dx, fx, ct, ys, R⟩, hg, ne, k⟩ := h
    refine ⟨_, (pss_cons (ps_if (pt_cmpR op_eq (pe_callB call_len_seq (by rfl) B.b_len (by decide +kernel) (pa_cons (pe_fld (pv 0) rfl) pa_nil)) pe_int (nomark _)) (pss_one (ps_raise rfl (takes_of rfl rfl rfl rfl) (pmk_oex NP.oex NP.iC NP.tI G_NP (hr.mono (by decide)) b_NP .nil pass0 rfl m_NP (pa_cons (pe_un un_neg pe_int) pa_nil)))) pss_nil)
      (pss_one (ps_ret (pe_make (E := fun _ _ _ => False) MS G_sinit (hr.mono (by decide)) rfl m_S b_sinit .nil passL (pa_cons (pe_fld (pv 0) rfl) (pa_cons (pe_make (E := fun _ _ _ => False) MRd G_rd (hr.mono (by decide)) rfl m_Rd b_rd .nil pass0 (pa_cons (pe_fld (pv 0) rfl) pa_nil)) pa_nil)))))), ?_⟩
    have ly := R.nu.len
    have n0 : 0 < prs.length := List.length_pos_iff.mpr ne
    refine ⟨_, rfl, x, CRr, dx, _, _, rfl, R.ob, TR.cl, TR.nH, rlf_held _ _, ct, ys, rfl, .inr (SqT.of R.co), rfl, _, rfl, ?_⟩
    refine itDn (fun z => by
      have := V.int.inj (of_decide_eq_true z)
      omega) ?_
    refine ⟨_, rfl, x, CRr, dx, _, _, rfl, R.ob, TR.cl, TR.nF, rlf_field _ _, _, rfl, x, CRr, dx, _, _, rfl, R.ob, TR.cl, TR.nH, rlf_held _ _, fun r dr nr ndr ner => mkR_go (.inr R.co) nr ndr ner fun H4 s4 rdy => ⟨rfl, fun y dy ny ndy ney => ?_⟩⟩
    rcases R.wf with z | hd
    · exact absurd z ne
    have hh := head_ok hd
    refine mkS_any (R.fl.same s4) hg (.rdy rdy (R.nu.same s4) ne) ny ndy ney (fun n e => by rw [hh] at e; cases e) fun qs e H5 s5 ser => ⟨rfl, ?_⟩
    rw [hh] at e
    cases e
    exact k y H5 (s4.trans s5) ser
end
end Sq

-- needs HandS.Deep
namespace Sq
open PySem L2 PyProof.Rows
abbrev s_given : Stmt := top 53
abbrev s_rowg : Stmt := top 54
abbrev s_lpair : Stmt := top 55
abbrev s_lpairs : Stmt := top 56
abbrev s_spairs : Stmt := top 57
def PairAt (H : Hp) (q : Addr) (a : Int × Int) : Prop := H q = some (.tup [.int a.1, .int a.2])
theorem PairAt.same {H H' : Hp} {q : Addr} {a : Int × Int} (s : Same H H') (h : PairAt H q a) : PairAt H' q a := s _ _ h
theorem lt20 {x : Int} (h0 : -1000000 ≤ x) (h1 : x ≤ 1000000) : x.natAbs < 2 ^ 20 := by
  have : (2 : Nat) ^ 20 = 1048576 := by decide
  omega
theorem lt20f {x : Int} (h0 : -1000000 ≤ x) (h1 : x ≤ 1000000) : Fit x := Nat.lt_of_lt_of_le (lt20 h0 h1) (Nat.pow_le_pow_right (by decide) (by decide))
theorem lt204 {x : Int} (h0 : -1000000 ≤ x) (h1 : x ≤ 1000000) : x.natAbs < 2 ^ 4000 := Nat.lt_of_lt_of_le (lt20 h0 h1) (Nat.pow_le_pow_right (by decide) (by decide))
def NumN (n : Nat) (p : Int) (a : Int × Int) : Prop := 1 ≤ a.2 ∧ (p = 0 → Int.gcd a.1 a.2 = 1 ∧ Bd n a) ∧ (p ≠ 0 → a.2 = 1 ∧ 0 ≤ a.1 ∧ a.1 < p)
abbrev NumOk (p : Int) (a : Int × Int) : Prop := NumN 5 p a
abbrev NumW (p : Int) (a : Int × Int) : Prop := NumN 1400 p a
theorem NumN.le {n m : Nat} {p : Int} {a : Int × Int} (h : NumN n p a) (l : n ≤ m) : NumN m p a := ⟨h.1, fun p0 => ⟨(h.2.1 p0).1, (h.2.1 p0).2.le l⟩, h.2.2⟩
theorem NumN.bd {n : Nat} {p : Int} {a : Int × Int} (hg : goodP p = true) (h : NumN n p a) (p0 : p ≠ 0) : Bd 20 a := by
  obtain ⟨e, a0, a1⟩ := h.2.2 p0
  have := prime_lt hg p0
  refine ⟨?_, ?_⟩
  · have : (2 : Nat) ^ 20 = 1048576 := by decide
    omega
  · have : (2 : Nat) ^ 20 = 1048576 := by decide
    omega
theorem NumN.all {n m : Nat} {p : Int} {a : Int × Int} (hg : goodP p = true) (h : NumN n p a) (l1 : n ≤ m) (l2 : 20 ≤ m) : Bd m a := by
  by_cases p0 : p = 0
  · exact (h.2.1 p0).2.le l1
  · exact (h.bd hg p0).le l2
theorem NumN.fit {n : Nat} {p : Int} {a : Int × Int} (hg : goodP p = true) (h : NumN n p a) (l : n ≤ 1500) : Fit a.1 ∧ Fit a.2 := (h.all hg l (by decide)).fit (by decide)
structure RowV (H : Hp) (vs : List V) (prs : List (Int × Int)) : Prop where
  len : vs.length = prs.length
  at_ : ∀ (i : Nat) (v : V) (a : Int × Int), vs[i]? = some v → prs[i]? = some a → ∃ q, v = .ref q ∧ PairAt H q a
theorem RowV.same {H H' : Hp} {vs : List V} {prs : List (Int × Int)} (s : Same H H') (h : RowV H vs prs) : RowV H' vs prs := ⟨h.len, fun i v a e1 e2 => by
  obtain ⟨q, e, hq⟩ := h.at_ i v a e1 e2
  exact ⟨q, e, hq.same s⟩⟩
theorem RowV.nil {H : Hp} : RowV H [] [] := ⟨rfl, fun i v a e _ => by simp at e⟩
theorem RowV.snoc {H : Hp} {vs : List V} {prs : List (Int × Int)} {q : Addr} {a : Int × Int} (h : RowV H vs prs) (hq : PairAt H q a) : RowV H (vs ++ [.ref q]) (prs ++ [a]) := by
  refine ⟨by rw [List.length_append, List.length_append, h.len]; rfl, fun i z b e1 e2 => ?_⟩
  rcases get_snoc e1 with e1 | ⟨i1, rfl⟩
  · rcases get_snoc e2 with e2 | ⟨i2, rfl⟩
    · exact h.at_ i z b e1 e2
    · have := get_len e1
      have := h.len
      omega
  · rcases get_snoc e2 with e2 | ⟨i2, rfl⟩
    · have := get_len e2
      have := h.len
      omega
    · exact ⟨q, rfl, hq⟩
theorem RowV.upd {H : Hp} {vs : List V} {prs : List (Int × Int)} {D : Addr} {xs : List V} {o : HO} (hD : H D = some (.lst xs)) (h : RowV H vs prs) : RowV (L2.upd H D o) vs prs := ⟨h.len, fun i v a e1 e2 => by
  obtain ⟨q, e, hq⟩ := h.at_ i v a e1 e2
  refine ⟨q, e, (upd_ne fun z => ?_).trans hq⟩
  rw [z] at hq
  rw [PairAt, hD] at hq
  cases hq⟩
def RowAt (H : Hp) (l : Addr) (prs : List (Int × Int)) : Prop := ∃ vs, H l = some (.lst vs) ∧ RowV H vs prs
theorem RowAt.same {H H' : Hp} {l : Addr} {prs : List (Int × Int)} (s : Same H H') (h : RowAt H l prs) : RowAt H' l prs := by
  obtain ⟨vs, e, r⟩ := h
  exact ⟨vs, s _ _ e, r.same s⟩
def pairD (a : Int × Int) : PyData := .tuple [.int a.1, .int a.2]
theorem rowV_dp {K : PySem.W.Frag} {H : Hp} : ∀ {vs : List V} {prs : List (Int × Int)}, RowV H vs prs → DpAll K H vs (prs.map pairD)
  | [], [], _ => .nil
  | [], _ :: _, h => by have := h.len; simp at this
  | _ :: _, [], h => by have := h.len; simp at this
  | v :: vs, a :: prs, h => by
    obtain ⟨q, e, hq⟩ := h.at_ 0 v a rfl rfl
    subst e
    have tl : RowV H vs prs := ⟨by have := h.len; simpa using this, fun i x b e1 e2 => h.at_ (i + 1) x b e1 e2⟩
    exact .cons (.tup (SqT.of hq) (.cons (.int _) (.cons (.int _) .nil))) (rowV_dp tl)
theorem RowAt.dp {K : PySem.W.Frag} {H : Hp} {l : Addr} {prs : List (Int × Int)} (h : RowAt H l prs) : Dp K H (.ref l) (.list (prs.map pairD)) := by
  obtain ⟨vs, e, r⟩ := h
  exact .lst (SqL.of e) (rowV_dp r)
theorem row_lay : ∀ prs : List (Int × Int), PyData.canLayAll0 (prs.map pairD) = true
  | [] => by simp [PyData.canLayAll0]
  | a :: r => by
    show (PyData.canLay0 (pairD a) && PyData.canLayAll0 (r.map pairD)) = true
    rw [row_lay r]
    simp [pairD, PyData.canLay0, PyData.canLayAll0]
theorem row_depth : ∀ prs : List (Int × Int), PyData.depthAll (prs.map pairD) ≤ 1
  | [] => by simp [PyData.depthAll]
  | a :: r => by
    have := row_depth r
    show max (PyData.depth (pairD a)) (PyData.depthAll (r.map pairD)) ≤ 1
    have e : PyData.depth (pairD a) = 1 := by simp [pairD, PyData.depth, PyData.depthAll]
    omega
theorem row_shaped (prs : List (Int × Int)) : SeqAt.shaped (.list (prs.map pairD)) = true := by
  unfold SeqAt.shaped
  rw [Bool.and_eq_true, decide_eq_true_eq]
  refine ⟨?_, ?_⟩
  · show PyData.canLayAll0 (prs.map pairD) = true
    exact row_lay prs
  · show PyData.depthAll (prs.map pairD) + 1 ≤ 64
    have := row_depth prs
    omega
theorem none_free (prs : List (Int × Int)) : ((prs.map pairD).any fun z => PyData.eqv z .none) = false := by
  rw [List.any_eq_false]
  intro z hz
  obtain ⟨a, _, rfl⟩ := List.mem_map.mp hz
  show ¬ PyData.eqv (pairD a) .none = true
  simp [pairD, PyData.eqv]
theorem passed_giv {K : PySem.W.Frag} {C : Addr} {H : Hp} {p b t u : Int} {a : Int × Int} {y : V} (hg : goodP p = true) (p0 : p ≠ 0) (ok : NumW p a) (hb : (p = 2 ∧ b = 3) ∨ (p ≠ 2 ∧ b = 2)) (L : Low (a.1 * b + p) b t u) (hy : NumAt C H y t u) : Giv K C H p y (some a) := by
  obtain ⟨p2, p3, hp⟩ := goodP_pos hg p0
  obtain ⟨e1, a0, a1⟩ := ok.2.2 p0
  have b1 : 2 ≤ b ∧ b ≤ 3 := by omega
  have sb : b.natAbs < 2 ^ 2 := by
    have : (2 : Nat) ^ 2 = 4 := by decide
    omega
  have cop : ∀ z : Int, p ∣ b * z → p ∣ z := by
    intro z hz
    have g : Int.gcd p b = 1 := by
      rcases hb with ⟨rfl, rfl⟩ | ⟨n2, rfl⟩
      · decide
      · exact gcd_prime p2 p3 hp (by decide) (by omega)
    have dn : p.natAbs ∣ b.natAbs * z.natAbs := by
      rw [← Int.natAbs_mul]
      exact Int.natAbs_dvd_natAbs.mpr hz
    exact Int.natAbs_dvd_natAbs.mp (Nat.Coprime.dvd_of_dvd_mul_left (show Nat.Coprime p.natAbs b.natAbs from g) dn)
  have v := L.val
  have pu := L.pos
  have ub : u ≤ b := by have := L.lu; omega
  have tb : t.natAbs < 2 ^ 40 := by
    refine Nat.lt_of_le_of_lt L.lt ?_
    have h1 : (a.1 * b).natAbs < 2 ^ 30 := by
      have : (a.1 * b).natAbs < 2 ^ (20 + 2) := wide_lt (ok.bd hg p0).1 sb
      exact Nat.lt_of_lt_of_le this (by decide)
    have : (2 : Nat) ^ 30 = 1073741824 := by decide
    have : (2 : Nat) ^ 40 = 1099511627776 := by decide
    omega
  refine ⟨t, u, hy, pu, Nat.lt_of_lt_of_le tb (Nat.pow_le_pow_right (by decide) (by decide)), lt20f (by omega) (by omega), fun h => absurd h p0, fun _ => ⟨?_, e1, a0, a1, ?_⟩⟩
  · intro z
    have du : p ∣ u := Int.dvd_of_emod_eq_zero z
    have : p ≤ u := Int.le_of_dvd (by omega) du
    rcases hb with ⟨rfl, rfl⟩ | ⟨n2, rfl⟩
    · have u23 : u = 2 ∨ u = 3 := by omega
      rcases u23 with rfl | rfl
      · have e : t * 3 = (a.1 * 3 + 2) * 2 := v
        have := L.cop
        have t2 : (2 : Int) ∣ t := by omega
        obtain ⟨k, hk⟩ := t2
        rw [hk] at this
        have d := Int.dvd_coe_gcd (show (2 : Int) ∣ 2 * k from ⟨k, rfl⟩) (Int.dvd_refl 2)
        rw [this] at d
        exact absurd d (by decide)
      · omega
    · omega
  · have d : p ∣ a.1 * u - t := by
      refine cop _ ⟨-u, ?_⟩
      rw [Int.mul_sub, Int.mul_comm b t, v, Int.add_mul]
      have : b * (a.1 * u) = a.1 * b * u := by rw [← Int.mul_assoc, Int.mul_comm b a.1]
      rw [this, Int.mul_neg]
      omega
    obtain ⟨k, hk⟩ := d
    refine ⟨k, ?_⟩
    rw [Int.mul_comm k p, ← hk]
    omega
theorem mkF_go {K : PySem.W.Frag} {CF CNF z dz : Addr} {H : Hp} {p : Int} {Q : VK} {E : XK} (hg : goodP p = true) (nz : H z = none) (ndz : H dz = none) (_ne : dz ≠ z) (k : ∀ H', FldAt CF H' z p → Same H H' → Q .non H') :
    spFieldInit K CF CNF [.ref z, .int p] (upd (upd H dz (.own z)) z (.ins CF dz [])) Q E :=
  ⟨z, dz, .int p, rfl, upd_same, .int _, fun h => (by have := h p rfl; rw [hg] at this; cases this), fun p' e _ H' hx b => (by cases e; exact k H' hx (same_made nz ndz b))⟩
theorem PairAt.updl {H : Hp} {x q : Addr} {a : Int × Int} {xs : List V} {o : HO} (hq : H q = some (.lst xs)) (h : PairAt H x a) : PairAt (L2.upd H q o) x a := by
  refine (upd_ne fun z => ?_).trans h
  rw [PairAt, z, hq] at h
  cases h
theorem RowAt.updl {H : Hp} {l q : Addr} {prs : List (Int × Int)} {xs : List V} {o : HO} (ne : l ≠ q) (hq : H q = some (.lst xs)) (h : RowAt H l prs) : RowAt (L2.upd H q o) l prs := by
  obtain ⟨vs, e, r⟩ := h
  exact ⟨vs, (upd_ne ne).trans e, r.upd hq⟩
theorem RowV.set {H : Hp} {vs : List V} {prs : List (Int × Int)} {q : Addr} {a : Int × Int} (h : RowV H vs prs) (hq : PairAt H q a) (j : Nat) : RowV H (vs.set j (.ref q)) (prs.set j a) := by
  refine ⟨by rw [List.length_set, List.length_set, h.len], fun i x b e1 e2 => ?_⟩
  rw [List.getElem?_set] at e1 e2
  by_cases c : j = i
  · rw [if_pos c] at e1 e2
    split at e1
    · cases e1
      split at e2
      · cases e2
        exact ⟨q, rfl, hq⟩
      · cases e2
    · cases e1
  · rw [if_neg c] at e1 e2
    exact h.at_ i x b e1 e2
theorem ne_row {K : PySem.W.Frag} {H : Hp} {p q : Addr} {prs : List (Int × Int)} {Q : VK} (hp : RowAt H p prs) (hq : RowAt H q prs) (k : Q (.bl false) H) : rNeD K (.ref p) (.ref q) H Q :=
  ⟨_, _, hp.dp, hq.dp, row_shaped prs, row_shaped prs, by
    rw [SeqAt.eqv_refl _ (SeqAt.canLay_of_shaped (row_shaped prs))]
    exact k⟩
/-- a pair that is drawn -/
def SP (p : Int) (a : Int × Int) : Prop := NumOk p a ∧ a.2 = 1
def nonzP (a : Int × Int) : Int × Int := if a.1 = 0 then (1, 1) else a
def spSmall : Sp := fun vs H Q _ => ∃ (st : Addr) (p : Int) (m : Nat), vs = [.ref st, .int p] ∧ StrAt H st m ∧ m < 1000 ∧ goodP p = true ∧ ∀ q a H', StrAt H' st (m + 1) → But st H H' → PairAt H' q a → SP p a → Q (.ref q) H'
def spNonz : Sp := fun vs H Q _ => ∃ (q : Addr) (a : Int × Int), vs = [.ref q] ∧ PairAt H q a ∧ ∀ q' H', Same H H' → PairAt H' q' (nonzP a) → Q (.ref q') H'
def spGiven (K : PySem.W.Frag) (C : Addr) : Sp := fun vs H Q _ => ∃ (q : Addr) (p : Int) (a : Int × Int), vs = [.ref q, .int p] ∧ goodP p = true ∧ PairAt H q a ∧ SP p a ∧ ∀ y H', Same H H' → Giv K C H' p y (some a) → Q y H'
def spRowG (K : PySem.W.Frag) (C : Addr) : Sp := fun vs H Q _ => ∃ (l : Addr) (p : Int) (prs : List (Int × Int)), vs = [.ref l, .int p] ∧ goodP p = true ∧ RowAt H l prs ∧ (∀ a ∈ prs, SP p a) ∧ prs.length ≤ 1000 ∧ ∀ l' xs H', Same H H' → H l' = none → H' l' = some (.lst xs) → Givs K C H' p xs (prs.map some) → Q (.ref l') H'
def spLPair (C : Addr) : Sp := fun vs H Q _ => ∃ (p : Int) (y : V) (a : Int × Int), vs = [y, .int p] ∧ goodP p = true ∧ FN C H p y a.1 a.2 ∧ ∀ q H', Same H H' → PairAt H' q a → Q (.ref q) H'
def spLPairs (C : Addr) : Sp := fun vs H Q _ => ∃ (p : Int) (ct : Addr) (ys : List V) (prs : List (Int × Int)), vs = [.ref ct, .int p] ∧ goodP p = true ∧ H ct = some (.tup ys) ∧ FNs C H p ys prs ∧ ys.length ≤ 1000 ∧ ∀ l H', Same H H' → RowAt H' l prs → Q (.ref l) H'
def spSPairs (C CS CF : Addr) : Sp := fun vs H Q _ => ∃ (p : Int) (x : Addr) (prs : List (Int × Int)), vs = [.ref x, .int p] ∧ goodP p = true ∧ Ser C CS CF H x p prs ∧ prs.length ≤ 900 ∧ ∀ l H', Same H H' → RowAt H' l prs → Q (.ref l) H'
section
variable {P : Program} {w : World} {K : PySem.W.Frag} {mg : Str → Option Value} {base : Heap}
theorem sc_small : FnScope ["_law_stream_here", "_law_prime_here"] ["_law_stream_here", "_law_prime_here"] (defScope s_small) := ⟨rfl, rfl, rfl, by decide +kernel, rfl, by decide +kernel, by decide +kernel⟩
theorem ok_small {f fdraw : Addr} {fd fddraw : FuncData} (F : Fun K "_law_small" "_law_small" s_small f fd) (G_draw : FnOk P w K mg base CX0 1 fdraw fddraw ["_law_stream_here", "_law_size"] spDraw) (m_draw : mg "_law_draw" = some (.ref fdraw)) (k_draw : PySem.W.keepIn K (.ref fdraw) = true) (b_draw : Binds K fddraw ["_law_stream_here", "_law_size"] []) : FnOk P w K mg base CX0 2 f fd ["_law_stream_here", "_law_prime_here"] spSmall := by
  refine F.ok sc_small (fun vs H Q E h => ?_) (fun cdv A outer s H vs Q E hr h => ?_)
  · obtain ⟨st, p, m, rfl, _⟩ := h
    rfl
  · obtain ⟨st, p, m, rfl, S, lm, hg, k⟩ := h
    refine ⟨_, (pss_cons (ps_if (pt_cmpR op_ne (pv 1) pe_int (nomark _))
        (pss_one (ps_ret (pe_tup (pa_cons (pe_call G_draw (hr.mono (by decide)) rfl m_draw k_draw b_draw .nil pass0 (pa_cons (pv 0) (pa_cons (pv 1) pa_nil))) (pa_cons pe_int pa_nil)))))
        pss_nil)
      (pss_one (ps_ret (pe_tup (pa_cons (pe_op op_sub (pe_call G_draw (hr.mono (by decide)) rfl m_draw k_draw b_draw .nil pass0 (pa_cons (pv 0) (pa_cons pe_int pa_nil))) pe_int) (pa_cons pe_int pa_nil)))))), ?_⟩
    refine ⟨_, rfl, rfl, _, rfl, ?_⟩
    have fin : ∀ (v : Int) (H1 : Hp), StrAt H1 st (m + 1) → But st H H1 → SP p (v, 1) → ∀ q, H1 q = none → Q (.ref q) (upd H1 q (.tup [.int v, .int 1])) := fun v H1 S1 B1 sp q hq =>
      k q (v, 1) _ (S1.same (same_new (Same.refl _) hq)) (B1.new hq) upd_same sp
    by_cases p0 : p = 0
    · refine itDn (by simp [p0]) ?_
      refine ⟨_, rfl, st, 7, m, rfl, by decide, by decide, S, lm, fun v H1 v0 v1 S1 B1 => ⟨_, _, rfl, rfl, (by show 2 ≤ sizeLine; decide), fun q hq => fin _ H1 S1 B1 ?_ q hq⟩⟩
      refine ⟨⟨Int.le_refl 1, fun _ => ⟨Int.gcd_one_right _, ?_, (by show (1 : Int).natAbs < 2 ^ 5; decide)⟩, fun z => absurd p0 z⟩, rfl⟩
      show (v - 3).natAbs < 2 ^ 5
      have : (2 : Nat) ^ 5 = 32 := by decide
      omega
    · have pl := prime_lt hg p0
      refine itD (by simp [p0]) ?_
      refine ⟨_, rfl, _, rfl, st, p, m, rfl, by omega, by omega, S, lm, fun v H1 v0 v1 S1 B1 => ⟨(by show 2 ≤ sizeLine; decide), fun q hq => fin _ H1 S1 B1 ?_ q hq⟩⟩
      exact ⟨⟨Int.le_refl 1, fun z => absurd z p0, fun _ => ⟨rfl, v0, v1⟩⟩, rfl⟩
theorem sc_nonz : FnScope ["_law_pair_here"] ["_law_pair_here"] (defScope s_nonz) := ⟨rfl, rfl, rfl, by decide +kernel, rfl, by decide +kernel, by decide +kernel⟩
theorem ok_nonz {f : Addr} {fd : FuncData} (F : Fun K "_law_nonzero" "_law_nonzero" s_nonz f fd) : FnOk P w K mg base CX0 1 f fd ["_law_pair_here"] spNonz := by
  refine F.ok sc_nonz (fun vs H Q E h => ?_) (fun cdv A outer s H vs Q E hr h => ?_)
  · obtain ⟨q, a, rfl, _⟩ := h
    rfl
  · obtain ⟨q, a, rfl, hq, k⟩ := h
    refine ⟨_, (pss_cons (ps_if (pt_cmpR op_eq (pe_ix ix_tup (pv 0) pe_int (fun _ _ => rfl)) pe_int (nomark _))
        (pss_one (ps_ret (pe_tup (pa_cons pe_int (pa_cons pe_int pa_nil)))))
        pss_nil)
      (pss_one (ps_ret (pv 0)))), ?_⟩
    refine ⟨_, rfl, _, _, _, _, rfl, rfl, SqT.of hq, rfl, rfl, _, rfl, ?_⟩
    by_cases c : a.1 = 0
    · refine itD (by simp [c]) ⟨(by show 2 ≤ sizeLine; decide), fun r hr1 => k r _ (same_new (Same.refl _) hr1) ?_⟩
      unfold nonzP
      rw [if_pos c]
      exact upd_same
    · refine itDn (by simp [c]) ⟨_, rfl, k q H (Same.refl _) ?_⟩
      unfold nonzP
      rw [if_neg c]
      exact hq
theorem sc_given : FnScope ["_law_pair_here", "_law_prime_here"] ["_law_pair_here", "_law_prime_here"] (defScope s_given) := ⟨rfl, rfl, rfl, by decide +kernel, rfl, by decide +kernel, by decide +kernel⟩
theorem ok_given {f C CN fR : Addr} {fd fdR : FuncData} (F : Fun K "_law_given" "_law_given" s_given f fd) (D : DTx mg) (m_C : mg "Ratio" = some (.ref C)) (M : Mk K C fR) (G_R : FnOk P w K mg base (L2.CX P w) 3 fR fdR ["self", "top", "bottom"] (spRatioInit K C CN)) (b_R : Binds K fdR ["self", "top", "bottom"] []) : FnOk P w K mg base CX0 5 f fd ["_law_pair_here", "_law_prime_here"] (spGiven K C) := by
  refine F.ok sc_given (fun vs H Q E h => ?_) (fun cdv A outer s H vs Q E hr h => ?_)
  · obtain ⟨q, p, a, rfl, _⟩ := h
    rfl
  · obtain ⟨q, p, a, rfl, hg, hq, ⟨ok, a2⟩, k⟩ := h
    refine ⟨_, (pss_cons (ps_if (PW.pt (pw_and (pt_cmpR op_eq (pv 1) pe_int (nomark _)) (pw_and1 (pt_cmpR op_eq (pe_ix ix_tup (pv 0) pe_int (fun _ _ => rfl)) pe_int (nomark _)))))
        (pss_one (ps_ret (pe_ix ix_tup (pv 0) pe_int (fun _ _ => rfl))))
        pss_nil)
      (pss_cons (ps_if (pt_cmpR op_eq (pv 1) pe_int (nomark _))
        (pss_one (ps_ret (pe_make M G_R (hr.mono (by decide)) rfl m_C b_R .nil passL (pa_cons (pe_ix ix_tup (pv 0) pe_int (fun _ _ => rfl)) (pa_cons (pe_ix ix_tup (pv 0) pe_int (fun _ _ => rfl)) pa_nil)))))
        pss_nil)
      (pss_cons (ps_if (PW.pt (pw_and (pt_cmpR op_gt (pv 1) pe_int (nomark _)) (pw_and1 (pt_cmpR op_eq (pe_op op_mod (pe_callTy call_int1 (by rfl) D.b_int (by decide +kernel) (pa_cons (pe_ix ix_tup (pv 0) pe_int (fun _ _ => rfl)) pa_nil)) pe_int) pe_int (nomark _)))))
        (pss_one (ps_ret (pe_make M G_R (hr.mono (by decide)) rfl m_C b_R .nil passL (pa_cons (pe_op op_add (pe_op op_mul pe_int (pe_ix ix_tup (pv 0) pe_int (fun _ _ => rfl))) (pv 1)) (pa_cons pe_int pa_nil)))))
        pss_nil)
      (pss_cons (ps_if (PW.pt (pw_and (pt_cmpR op_eq (pv 1) pe_int (nomark _)) (pw_and1 (pt_cmpR op_eq (pe_ix ix_tup (pv 0) pe_int (fun _ _ => rfl)) pe_int (nomark _)))))
        (pss_one (ps_ret (pe_make M G_R (hr.mono (by decide)) rfl m_C b_R .nil passL (pa_cons pe_int (pa_cons pe_int pa_nil)))))
        pss_nil)
      (pss_one (ps_ret (pe_op op_add (pe_ix ix_tup (pv 0) pe_int (fun _ _ => rfl)) (pe_op op_mul (pv 1) (pe_op op_sub (pe_op op_mod (pe_callTy call_int1 (by rfl) D.b_int (by decide +kernel) (pa_cons (pe_ix ix_tup (pv 0) pe_int (fun _ _ => rfl)) pa_nil)) pe_int) pe_int))))))))), ?_⟩
    have ok2 : NumW p a := ok.le (by decide)
    have ea : a = (a.1, 1) := by rw [← a2]
    have AT0 : atI [V.int a.1, V.int a.2] 0 = some (V.int a.1) := rfl
    have AT1 : atI [V.int a.1, V.int a.2] 1 = some (V.int a.2) := rfl
    by_cases p0 : p = 0
    · subst p0
      refine ⟨_, rfl, rfl, _, rfl, itD (by simp) ⟨_, rfl, _, _, _, _, rfl, rfl, SqT.of hq, AT1, rfl, _, rfl, itD (by simp [a2]) ⟨_, rfl, _, _, _, _, rfl, rfl, SqT.of hq, AT0, ?_⟩⟩⟩
      have g := giv_int (K := K) (C := C) (H := H) hg (ok2.fit hg (by decide)).1
      have en : nrm 0 a.1 = a.1 := if_pos rfl
      rw [en, ← ea] at g
      exact k _ _ (Same.refl H) g
    · have pl := prime_lt hg p0
      obtain ⟨_, a0, a1⟩ := ok.2.2 p0
      refine ⟨_, rfl, rfl, _, rfl, itDn (by simp [p0]) ⟨_, rfl, rfl, _, rfl, itDn (by simp [p0]) ?_⟩⟩
      have fin : ∀ b n : Int, ((p = 2 ∧ b = 3) ∨ (p ≠ 2 ∧ b = 2)) → n = a.1 * b + p → ∀ (y dy : Addr), H y = none → H dy = none → dy ≠ y → spRatioInit K C CN [.ref y, .int n, .int b] (upd (upd H dy (.own y)) y (.ins C dy [])) (fun v H2 => v = .non ∧ Q (.ref y) H2) E0 := fun b n hb hn y dy ny ndy ne => by
        rw [hn]
        exact mk_go (by omega) (fit_up (lt20f (by omega) (by omega))) ny ndy ne fun t u H1 L R s1 => ⟨rfl, k (.ref y) H1 s1 (passed_giv hg p0 ok2 hb L (.inl ⟨y, rfl, R⟩))⟩
      have last : ∀ j : Int, j = -1 ∨ j = 0 ∨ j = 1 → Q (.int (a.1 + p * j)) H := fun j hj => by
        have sz : (a.1 + p * j).natAbs < 2 ^ 60 := by
          have e60 : (2 : Nat) ^ 60 = 1152921504606846976 := by decide
          rcases hj with e | e | e <;> rw [e] <;> omega
        have g := giv_int (K := K) (C := C) (H := H) hg (fit60 sz)
        have en : nrm p (a.1 + p * j) = a.1 := by
          unfold nrm
          rw [if_neg p0, Int.add_mul_emod_self_left, Int.emod_eq_of_lt a0 a1]
        rw [en, ← ea] at g
        exact k _ _ (Same.refl H) g
      have m0 := Int.emod_nonneg a.1 (show (3 : Int) ≠ 0 by decide)
      have m1 := Int.emod_lt_of_pos a.1 (show (0 : Int) < 3 by decide)
      have c5 : (0 : Int) < 5 := by decide
      have c3 : (0 : Int) < 3 := by decide
      have j3 : a.1 % 3 - 1 = -1 ∨ a.1 % 3 - 1 = 0 ∨ a.1 % 3 - 1 = 1 := by omega
      have mp : ∀ j : Int, CMul p j := fun j => .inl ⟨by omega, by omega⟩
      by_cases p2 : p = 2
      · refine ⟨_, rfl, _, _, rfl, rfl, _, rfl, itDn (by simp; omega) ?_⟩
        refine ⟨_, rfl, rfl, _, rfl, itD (by simp [p2]) ⟨_, rfl, _, _, _, _, rfl, rfl, SqT.of hq, AT0, rfl, _, rfl, ?_⟩⟩
        by_cases c : a.1 = 0
        · exact itD (by simp [c]) (fin 3 2 (.inl ⟨p2, rfl⟩) (by rw [c]; omega))
        · exact itDn (by simp [c]) ⟨_, rfl, _, _, _, _, rfl, rfl, SqT.of hq, AT0, _, rfl, _, rfl, _, _, _, _, rfl, rfl, SqT.of hq, AT0, .inl ⟨_, rfl, _, _, rfl, rfl, c3, _, _, rfl, rfl, _, _, rfl, rfl, mp _, _, _, rfl, rfl, last _ j3⟩⟩
      · refine ⟨_, rfl, _, _, rfl, rfl, _, rfl, itD (by simp; omega) ⟨_, rfl, _, _, _, _, rfl, rfl, SqT.of hq, AT0, .inl ⟨_, rfl, _, _, rfl, rfl, c5, rfl, _, rfl, ?_⟩⟩⟩
        by_cases c : a.1 % 5 = 4
        · exact itD (by simp [c]) ⟨_, rfl, _, _, _, _, rfl, rfl, SqT.of hq, AT0, _, _, rfl, rfl, .inl ⟨by decide, by decide⟩, _, rfl, _, _, rfl, rfl, fin 2 _ (.inr ⟨p2, rfl⟩) (by omega)⟩
        · exact itDn (by simp [c]) ⟨_, rfl, rfl, _, rfl, itDn (by simp [p2]) ⟨_, rfl, _, _, _, _, rfl, rfl, SqT.of hq, AT0, _, rfl, _, rfl, _, _, _, _, rfl, rfl, SqT.of hq, AT0, .inl ⟨_, rfl, _, _, rfl, rfl, c3, _, _, rfl, rfl, _, _, rfl, rfl, mp _, _, _, rfl, rfl, last _ j3⟩⟩⟩
theorem sc_rowg : FnScope ["_law_row", "_law_prime_here", "_law_pair_here"] ["_law_row", "_law_prime_here"] (defScope s_rowg) := ⟨rfl, rfl, rfl, by decide +kernel, rfl, by decide +kernel, by decide +kernel⟩
theorem ok_rowg {f C fgiven : Addr} {fd fdgiven : FuncData} (F : Fun K "_law_row_given" "_law_row_given" s_rowg f fd) (G_given : FnOk P w K mg base CX0 5 fgiven fdgiven ["_law_pair_here", "_law_prime_here"] (spGiven K C)) (m_given : mg "_law_given" = some (.ref fgiven)) (k_given : PySem.W.keepIn K (.ref fgiven) = true) (b_given : Binds K fdgiven ["_law_pair_here", "_law_prime_here"] []) : FnOk P w K mg base CX0 6 f fd ["_law_row", "_law_prime_here"] (spRowG K C) := by
  refine F.ok sc_rowg (fun vs H Q E h => ?_) (fun cdv A outer s H vs Q E hr h => ?_)
  · obtain ⟨l, p, prs, rfl, _⟩ := h
    rfl
  · obtain ⟨l, p, prs, rfl, hg, ⟨vs, hl, rv⟩, sp, ln, k⟩ := h
    refine ⟨_, (pss_one (ps_ret (pe_lc (own := [("_law_pair_here", 2)]) (g := gName 2) (tt := tYes) rfl sc_rowg.nd (pi_list (pv 0)) (blkOk_by (N := ["_law_row", "_law_prime_here", "_law_pair_here"]) (sc := defScope s_rowg) (by decide +kernel)) (fun _ _ _ _ _ => pg_name (i := 2) sc_rowg.nd rfl (Or.inl rfl)) (fun _ _ _ _ _ => pts_nil) (fun _ _ _ _ _ => (pe_call G_given (hr.mono (by decide)) rfl m_given k_given b_given .nil pass0 (pa_cons (pv 2) (pa_cons (pv 1) pa_nil))))))), ?_⟩
    have lv := rv.len
    have e24 : (sizeLine : Nat) = 16777216 := sizeLine_eq
    refine ⟨_, rfl, l, rfl, ⟨vs, SqL.of hl⟩, fun L hL => ?_⟩
    refine lc_list (xs := vs) (fun i H' => ∃ ys, Same H H' ∧ H' L = some (.lst ys) ∧ ys.length = i ∧ Givs K C H' p ys ((prs.take i).map some)) ?_ ?_ ?_ ?_
    · exact ⟨[], same_new (Same.refl _) hL, upd_same, rfl, ⟨rfl, fun i x o e _ => by simp at e⟩⟩
    · rintro i H' _ ⟨_, s1, _⟩
      exact SqL.of (s1 _ _ hl)
    · rintro i v H1 hi ⟨ys, s1, h1, ly, gv⟩
      have li : i < prs.length := by rw [← lv]; exact get_len hi
      obtain ⟨q, rfl, hq⟩ := rv.at_ i v _ hi (List.getElem?_eq_getElem li)
      have spa := sp _ (List.getElem_mem li)
      have tk : prs.take (i + 1) = prs.take i ++ [prs[i]] := take_more (List.getElem?_eq_getElem li)
      generalize prs[i] = a at *
      refine ⟨rfl, _, rfl, _, rfl, q, p, a, rfl, hg, hq.same s1, spa, fun y H2 s2 g2 => ?_⟩
      have h2 := s2 _ _ h1
      refine ⟨ys, h2, by omega, ys ++ [y], same_at (s1.trans s2) hL, upd_same, by rw [List.length_append, ly]; rfl, ?_⟩
      rw [tk]
      have g3 := (gv.same s2).snoc g2
      have e : (prs.take i).map some ++ [some a] = (prs.take i ++ [a]).map some := by
        rw [List.map_append]
        rfl
      rw [e] at g3
      exact Givs.updl h2 g3
    · rintro H1 ⟨ys, s1, h1, ly, gv⟩
      rw [lv, List.take_length] at gv
      exact k L ys H1 s1 hL h1 gv
theorem sc_lpair : FnScope ["_law_value", "_law_prime_here"] ["_law_value", "_law_prime_here"] (defScope s_lpair) := ⟨rfl, rfl, rfl, by decide +kernel, rfl, by decide +kernel, by decide +kernel⟩
theorem ok_lpair {f C flisint : Addr} {fd fdlisint : FuncData} (F : Fun K "_law_pair" "_law_pair" s_lpair f fd) (T : CTx K C) (Y : ITy K C) (I : ITx mg) (m_C : mg "Ratio" = some (.ref C)) (G_lisint : FnOk P w K mg base CX0 1 flisint fdlisint ["_law_value"] (spIsInt K)) (m_lisint : mg "_law_is_integer" = some (.ref flisint)) (k_lisint : PySem.W.keepIn K (.ref flisint) = true) (b_lisint : Binds K fdlisint ["_law_value"] []) : FnOk P w K mg base CX0 2 f fd ["_law_value", "_law_prime_here"] (spLPair C) := by
  refine F.ok sc_lpair (fun vs H Q E h => ?_) (fun cdv A outer s H vs Q E hr h => ?_)
  · obtain ⟨p, y, a, rfl, _⟩ := h
    rfl
  · obtain ⟨p, y, a, rfl, hg, fn, k⟩ := h
    refine ⟨_, (pss_cons (ps_if (pt_cmpR op_ne (pv 1) pe_int (nomark _))
        (pss_cons (ps_if (PW.pt (pw_and (pt_val (pe_call G_lisint (hr.mono (by decide)) rfl m_lisint k_lisint b_lisint .nil pass0 (pa_cons (pv 0) pa_nil))) (pw_and (pt_cmpR op_le pe_int (pv 0) (nomark _)) (pw_and1 (pt_cmpR op_lt (pv 0) (pv 1) (nomark _))))))
        (pss_one (ps_ret (pe_tup (pa_cons (pv 0) (pa_cons pe_int pa_nil)))))
        pss_nil)
      (pss_one (ps_ret pe_non)))
        pss_nil)
      (pss_cons (ps_if (PW.pt (pw_and (pt_val (pe_callB call_isi (by rfl) I.b_isinstance (by decide +kernel) (pa_cons (pv 0) (pa_cons (pe_glob (v := .ref C) rfl m_C rfl) pa_nil)))) (pw_and (pt_val (pe_call G_lisint (hr.mono (by decide)) rfl m_lisint k_lisint b_lisint .nil pass0 (pa_cons (pe_fld (pv 0) rfl) pa_nil))) (pw_and1 (pt_val (pe_call G_lisint (hr.mono (by decide)) rfl m_lisint k_lisint b_lisint .nil pass0 (pa_cons (pe_fld (pv 0) rfl) pa_nil)))))))
        (pss_one (ps_ret (pe_tup (pa_cons (pe_fld (pv 0) rfl) (pa_cons (pe_fld (pv 0) rfl) pa_nil)))))
        pss_nil)
      (pss_one (ps_ret pe_non)))), ?_⟩
    refine ⟨_, rfl, rfl, _, rfl, ?_⟩
    rcases fn with ⟨p0, ⟨r, rfl, R⟩, pu, cop⟩ | ⟨p0, rfl, a2, a0, a1⟩
    · refine itDn (by simp [p0]) ?_
      obtain ⟨dx, hx⟩ := id R
      refine ⟨_, rfl, _, _, _, _, true, rfl, .own C, R.ty T Y, kit_self, true, rfl, iteT ?_⟩
      refine ⟨_, rfl, r, C, dx, _, _, rfl, hx, T.cl, T.nT, rf_top _ _, _, rfl, IsTy.int _, _, rfl, iteT ?_⟩
      refine ⟨_, rfl, r, C, dx, _, _, rfl, hx, T.cl, T.nB, rf_bottom _ _, _, rfl, IsTy.int _, _, rfl, iteT ?_⟩
      refine ⟨_, rfl, r, C, dx, _, _, rfl, hx, T.cl, T.nT, rf_top _ _, _, rfl, r, C, dx, _, _, rfl, hx, T.cl, T.nB, rf_bottom _ _, (by show 2 ≤ sizeLine; decide), fun q hq => ?_⟩
      exact k q _ (same_new (Same.refl _) hq) upd_same
    · have := prime_lt hg p0
      refine itD (by simp [p0]) ⟨_, rfl, _, rfl, .int _, _, rfl, iteT ?_⟩
      refine ⟨_, rfl, _, _, rfl, rfl, _, rfl, itD (by simpa using a0) ⟨_, rfl, _, rfl, _, _, rfl, rfl, _, rfl, itD (by simpa using a1) ?_⟩⟩
      refine ⟨_, rfl, (by show 2 ≤ sizeLine; decide), fun q hq => ?_⟩
      refine k q _ (same_new (Same.refl _) hq) ?_
      show upd H q _ q = some (.tup [.int a.1, .int a.2])
      rw [a2]
      exact upd_same
theorem sc_lpairs : FnScope ["_law_values", "_law_prime_here", "_law_found", "_law_value", "_law_pair_here"] ["_law_values", "_law_prime_here"] (defScope s_lpairs) := ⟨rfl, rfl, rfl, by decide +kernel, rfl, by decide +kernel, by decide +kernel⟩
theorem ok_lpairs {f C flpair : Addr} {fd fdlpair : FuncData} (F : Fun K "_law_pairs" "_law_pairs" s_lpairs f fd) (G_lpair : FnOk P w K mg base CX0 2 flpair fdlpair ["_law_value", "_law_prime_here"] (spLPair C)) (m_lpair : mg "_law_pair" = some (.ref flpair)) (k_lpair : PySem.W.keepIn K (.ref flpair) = true) (b_lpair : Binds K fdlpair ["_law_value", "_law_prime_here"] []) : FnOk P w K mg base CX0 3 f fd ["_law_values", "_law_prime_here"] (spLPairs C) := by
  refine F.ok sc_lpairs (fun vs H Q E h => ?_) (fun cdv A outer s H vs Q E hr h => ?_)
  · obtain ⟨p, ct, ys, prs, rfl, _⟩ := h
    rfl
  · obtain ⟨p, ct, ys, prs, rfl, hg, hc, fn, ln, k⟩ := h
    refine ⟨_, (pss_cons (ps_set (i := 2) sc_lpairs.nd rfl (Or.inl rfl) (pe_lst pa_nil))
      (pss_cons (ps_for PassesOwn.never rfl (pi_tup (pv 0)) (pg_name (i := 3) sc_lpairs.nd rfl (Or.inl rfl)) (pss_cons (ps_set (i := 4) sc_lpairs.nd rfl (Or.inl rfl) (pe_call G_lpair (hr.mono (by decide)) rfl m_lpair k_lpair b_lpair .nil pass0 (pa_cons (pv 3) (pa_cons (pv 1) pa_nil))))
      (pss_cons (ps_if (pt_cmpR op_isN (pv 4) pe_non (nomark _))
        (pss_one (ps_ret pe_non))
        pss_nil)
      (pss_one (ps_expr (pe_bm PySem.F.plainAttrs_list PySem.F.slot_list_append PySem.F.type_list_append mt_append (pv 2) (pa_cons (pv 4) pa_nil)))))))
      (pss_one (ps_ret (pv 2))))), ?_⟩
    have e24 : (sizeLine : Nat) = 16777216 := sizeLine_eq
    have ly := fn.len
    refine ⟨(by show 0 ≤ sizeLine; decide), fun q hq => ?_⟩
    have sq := same_new (o := .lst []) (Same.refl H) hq
    refine ⟨_, rfl, ct, rfl, ⟨ys, SqT.of (sq _ _ hc)⟩, ?_⟩
    refine for_tup (xs := ys) (fun i σ H' => ∃ (z1 z2 : Option V) (zs : List V), σ = [some (.ref ct), some (.int p), some (.ref q), z1, z2] ∧ Same H H' ∧ H' q = some (.lst zs) ∧ zs.length = i ∧ RowV H' zs (prs.take i)) ?_ ?_ ?_ ?_
    · exact ⟨none, none, [], rfl, sq, upd_same, rfl, RowV.nil⟩
    · rintro i σ H' _ ⟨_, _, _, _, s1, _⟩
      exact SqT.of (s1 _ _ hc)
    · rintro i cv σ H1 hi ⟨z1, z2, zs, rfl, s1, h1, lz, rv⟩
      have l2 := get_len hi
      have li : i < prs.length := by omega
      have fc := (fn.same s1).at_ _ _ _ hi (List.getElem?_eq_getElem li)
      have tk : prs.take (i + 1) = prs.take i ++ [prs[i]] := take_more (List.getElem?_eq_getElem li)
      generalize prs[i] = a at *
      refine ⟨_, rfl, _, rfl, p, cv, a, rfl, hg, fc, fun r H2 s2 hr2 => ?_⟩
      have h2 := s2 _ _ h1
      refine ⟨_, rfl, rfl, _, rfl, itDn (by simp) ?_⟩
      refine ⟨_, rfl, .inl ⟨rfl, _, SqL.of h2⟩, _, rfl, q, zs, _, rfl, rfl, h2, by omega, ?_⟩
      refine ⟨some cv, some (.ref r), zs ++ [.ref r], rfl, same_at (s1.trans s2) hq, upd_same, by rw [List.length_append, lz]; rfl, ?_⟩
      rw [tk]
      exact ((rv.same s2).snoc hr2).upd h2
    · rintro σ H1 ⟨z1, z2, zs, rfl, s1, h1, lz, rv⟩
      rw [ly, List.take_length] at rv
      exact ⟨_, rfl, k q H1 s1 ⟨zs, h1, rv⟩⟩
theorem sc_spairs : FnScope ["_law_series", "_law_prime_here"] ["_law_series", "_law_prime_here"] (defScope s_spairs) := ⟨rfl, rfl, rfl, by decide +kernel, rfl, by decide +kernel, by decide +kernel⟩
theorem ok_spairs {f C CF CS CNF fF feq flpairs : Addr} {fd fdF fdeq fdlpairs : FuncData} (F : Fun K "_law_series_pairs" "_law_series_pairs" s_spairs f fd) (B : QTx mg) (TS : STx K CS) (TF : FTx K CF) (YF : IFy K CF) (I : ITx mg) (m_S : mg "Series" = some (.ref CS)) (m_CF : mg "Field" = some (.ref CF)) (MF : Mk K CF fF)
    (G_F : FnOk P w K mg base (L2.CX P w) 2 fF fdF ["self", "prime"] (spFieldInit K CF CNF)) (b_F : Binds K fdF ["self", "prime"] []) (O_feq : OwnOp K CF feq "__eq__") (nfF : PySem.W.notFirst K CF (.ref CF) = true) (G_feq : FnOk P w K mg base CX0 1 feq fdeq ["self", "other"] (spF_eq K CF)) (b_feq : Binds K fdeq ["self", "other"] [])
    (G_lpairs : FnOk P w K mg base CX0 3 flpairs fdlpairs ["_law_values", "_law_prime_here"] (spLPairs C)) (m_lpairs : mg "_law_pairs" = some (.ref flpairs)) (k_lpairs : PySem.W.keepIn K (.ref flpairs) = true) (b_lpairs : Binds K fdlpairs ["_law_values", "_law_prime_here"] []) : FnOk P w K mg base CX0 4 f fd ["_law_series", "_law_prime_here"] (spSPairs C CS CF) := by
  refine F.ok sc_spairs (fun vs H Q E h => ?_) (fun cdv A outer s H vs Q E hr h => ?_)
  · obtain ⟨p, x, prs, rfl, _⟩ := h
    rfl
  · obtain ⟨p, x, prs, rfl, hg, SR, hl, k⟩ := h
    refine ⟨_, (pss_cons (ps_if (PW.pt (pw_or (pt_not (pt_val (pe_callB call_isi (by rfl) I.b_isinstance (by decide +kernel) (pa_cons (pv 0) (pa_cons (pe_glob (v := .ref CS) rfl m_S rfl) pa_nil))))) (pw_or1 (pt_not (pt_val (pe_callB call_isi (by rfl) I.b_isinstance (by decide +kernel) (pa_cons (pe_fld (pv 0) rfl) (pa_cons (pe_bltn (v := .ty "tuple") (by rfl) B.b_tuple (by decide +kernel) rfl) pa_nil))))))))
        (pss_one (ps_ret pe_non))
        pss_nil)
      (pss_cons (ps_if (PW.pt (pw_or (pt_not (pt_cmpR (op_ownEq O_feq G_feq (hr.mono (by decide)) b_feq pass0) (pe_fld (pv 0) rfl) (pe_make MF G_F (hr.mono (by decide)) rfl m_CF b_F .nil passL (pa_cons (pv 1) pa_nil)) (nomark _))) (pw_or1 (pt_cmpR op_ne (pe_fld (pv 0) rfl) (pe_callB call_len_seq (by rfl) B.b_len (by decide +kernel) (pa_cons (pe_fld (pv 0) rfl) pa_nil)) (nomark _)))))
        (pss_one (ps_ret pe_non))
        pss_nil)
      (pss_one (ps_ret (pe_call G_lpairs (hr.mono (by decide)) rfl m_lpairs k_lpairs b_lpairs .nil pass0 (pa_cons (pe_fld (pv 0) rfl) (pa_cons (pv 1) pa_nil))))))), ?_⟩
    obtain ⟨dx, fx, ct, ys, SO⟩ := id SR
    obtain ⟨df, hf⟩ := id SO.fl
    have ly := SO.nu.len
    refine ⟨_, rfl, _, _, _, _, true, rfl, .own CS, SO.ty TS, kit_self, true, rfl, iteF ?_⟩
    refine ⟨_, rfl, x, CS, dx, _, _, rfl, SO.ob, TS.cl, TS.nC, slf_coef _ _ _, _, _, _, _, true, rfl, .ty _, .base (.tup SO.co), kit_ty (by decide +kernel), true, rfl, iteF ?_⟩
    refine ⟨_, rfl, x, CS, dx, _, _, rfl, SO.ob, TS.cl, TS.nF, slf_field _ _ _, _, rfl, fun z dz nz ndz ne => mkF_go hg nz ndz ne fun H1 hz s1 => ⟨rfl, ?_⟩⟩
    have SO1 := SO.same s1
    refine ⟨fx, df, _, _, rfl, s1 _ _ hf, hz.ty TF YF, nfF, fx, .ref z, p, rfl, SO1.fl, .inl ⟨z, p, rfl, hz, _, rfl, ?_⟩⟩
    rw [decide_eq_true rfl]
    refine iteF ?_
    refine ⟨_, rfl, x, CS, dx, _, _, rfl, SO1.ob, TS.cl, TS.nK, slf_known _ _ _, _, rfl, x, CS, dx, _, _, rfl, SO1.ob, TS.cl, TS.nC, slf_coef _ _ _, ct, ys, rfl, .inr (SqT.of SO1.co), rfl, _, rfl, ?_⟩
    refine itDn (by simp [ly]) ?_
    refine ⟨_, rfl, x, CS, dx, _, _, rfl, SO1.ob, TS.cl, TS.nC, slf_coef _ _ _, _, rfl, p, ct, ys, prs, rfl, hg, SO1.co, SO1.nu, by omega, fun l H2 s2 ra => ?_⟩
    exact k l H2 (s1.trans s2) ra
end
end Sq

namespace Sq
open PySem L2 PyProof.Rows
abbrev s_set : Stmt := top 58
abbrev s_added : Stmt := top 59
abbrev s_reader : Stmt := top 60
abbrev s_due : Stmt := top 61
abbrev s_told : Stmt := inClass (top 8) 1
/-- what the law tells of an outcome -/
def toldT : Int ⊕ List (Int × Int) → List V
  | .inl n => [.str "refused noseries", .int n]
  | .inr _ => [.str "told", .non]
def dueT (place : Int) (more : List (Int × Int)) (count : Int) : List V :=
  if place < (more.length : Int) then [.str "refused noseries", .int place]
  else if count = 0 ∧ 0 < more.length ∧ (more.getD 0 (1, 1)).1 = 0 then [.str "refused noseries", .int 0] else [.str "told", .non]
def spSet (K : PySem.W.Frag) (C CRr CF CRd : Addr) : Sp := fun vs H Q _ => ∃ (x : Addr) (v : V) (p : Int) (old : List (Int × Int)) (g : Int ⊕ List (Int × Int)), vs = [.ref x, v] ∧ Rdr C CRr CF H x p old ∧ goodP p = true ∧ XRow K C CRd H p v g ∧
  (∀ n, g = .inl n → ∀ q H', Same H H' → H' q = some (.tup (toldT g)) → Q (.ref q) H') ∧
  (∀ prs, g = .inr prs → ∀ q H', But x H H' → Rdr C CRr CF H' x p prs → H' q = some (.tup (toldT g)) → Q (.ref q) H')
def spAdded (K : PySem.W.Frag) (C CRr CF CRd : Addr) : Sp := fun vs H Q _ => ∃ (x : Addr) (v : V) (p : Int) (old : List (Int × Int)) (g : Int ⊕ List (Int × Int)), vs = [.ref x, v] ∧ Rdr C CRr CF H x p old ∧ goodP p = true ∧ ARow K C CRd H p old.length v g ∧
  (∀ n, addG old g = .inl n → ∀ q H', Same H H' → H' q = some (.tup (toldT (addG old g))) → Q (.ref q) H') ∧
  (∀ prs, addG old g = .inr prs → ∀ q H', But x H H' → Rdr C CRr CF H' x p prs → H' q = some (.tup (toldT (addG old g))) → Q (.ref q) H')
def spReader (C CRr CF : Addr) : Sp := fun vs H Q _ => ∃ (l : Addr) (p : Int) (prs : List (Int × Int)), vs = [.ref l, .int p] ∧ goodP p = true ∧ RowAt H l prs ∧ (∀ a ∈ prs, SP p a) ∧ (prs = [] ∨ ∃ a r, prs = a :: r ∧ a.1 ≠ 0) ∧ prs.length ≤ 32 ∧ ∀ x H', Same H H' → H x = none → Rdr C CRr CF H' x p prs → Q (.ref x) H'
def spDue : Sp := fun vs H Q _ => ∃ (place : Int) (l : Addr) (more : List (Int × Int)) (count : Int), vs = [.int place, .ref l, .int count] ∧ RowAt H l more ∧ more.length ≤ 1000 ∧ ∀ q H', Same H H' → H' q = some (.tup (dueT place more count)) → Q (.ref q) H'
theorem ARow.same {K : PySem.W.Frag} {C CRd : Addr} {H H' : Hp} {p : Int} {m : Nat} {v : V} {g : Int ⊕ List (Int × Int)} (s : Same H H') (h : ARow K C CRd H p m v g) : ARow K C CRd H' p m v g := by
  cases h with
  | no h => exact .no (h.same s)
  | long h n => exact .long (h.same s) n
  | bad h n g lt => exact .bad (h.same s) n (g.same s) lt
  | row h n g => exact .row (h.same s) n (g.same s)
theorem Rdr.ob {C CRr CF : Addr} {H : Hp} {x : Addr} {p : Int} {prs : List (Int × Int)} (h : Rdr C CRr CF H x p prs) : ∃ dx fx ct, H x = some (.ins CRr dx (rlf fx ct)) := by
  obtain ⟨dx, fx, ct, ys, R⟩ := h
  exact ⟨dx, fx, ct, R.ob⟩
section
variable {P : Program} {w : World} {K : PySem.W.Frag} {mg : Str → Option Value} {base : Heap}
theorem sc_told : FnScope ["self"] ["self"] (defScope s_told) := ⟨rfl, rfl, rfl, by decide +kernel, rfl, by decide +kernel, by decide +kernel⟩
theorem ok_told {f : Addr} {fd : FuncData} (F : Fun K "told" "NoSeries.told" s_told f fd) : FnG P w K mg base CX0 1 f fd ["self"] (spTold "refused noseries") := by
  refine Fun.okG F sc_told (fun vs H Q E h => ?_) (fun cdv A outer s H vs Q E p h => ?_)
  · obtain ⟨x, rfl, _⟩ := h
    rfl
  · obtain ⟨x, rfl, k⟩ := h
    exact ⟨_, pss_one (ps_ret pe_str), k⟩
theorem sc_set : FnScope ["_law_reader_here", "_law_numbers", "_law_told", "e"] ["_law_reader_here", "_law_numbers"] (defScope s_set) := ⟨rfl, rfl, rfl, by decide +kernel, rfl, by decide +kernel, by decide +kernel⟩
theorem ok_set {f C CF CRr CRd CNP fNP ffill : Addr} {fd fdfill : FuncData} (F : Fun K "_law_set" "_law_set" s_set f fd) (m_NP : mg "NoSeries" = some (.ref CNP)) (NP : NTxF K "place" CNP fNP) (te : PySem.W.exmOne K (.ref CNP) (.ref CNP) = some true) (xf : XfC K CNP) (TB : ToldBy P w K mg base CNP "refused noseries") (G_fill : FnOk P w K mg base (L2.CX P w) 17 ffill fdfill ["reader", "numbers"] (spFill K C CRr CF CRd CNP)) (m_fill : mg "fill" = some (.ref ffill)) (k_fill : PySem.W.keepIn K (.ref ffill) = true) (b_fill : Binds K fdfill ["reader", "numbers"] []) : FnOk P w K mg base CX0 18 f fd ["_law_reader_here", "_law_numbers"] (spSet K C CRr CF CRd) := by
  refine F.ok sc_set (fun vs H Q E h => ?_) (fun cdv A outer s H vs Q E hr h => ?_)
  · obtain ⟨x, v, p, old, g, rfl, _⟩ := h
    rfl
  · obtain ⟨x, v, p, old, g, rfl, RR, hg, xr, kE, kQ⟩ := h
    refine ⟨_, (pss_cons (ps_set (i := 2) sc_set.nd rfl (Or.inl rfl) (pe_tup (pa_cons pe_str (pa_cons pe_non pa_nil))))
      (pss_cons (ps_try_as (i := 3) (tb := fun W => tDrop (tCallS (spFill K C CRr CF CRd CNP) (WE W) (tCons (tVar 0) (tCons (tVar 1) tNil)))) (Wout := fun _ _ _ _ => False) rfl rfl sc_set.nd rfl rfl ⟨rfl, by decide, Or.inl m_NP⟩ takes0
        (fun W pn xe tk _ => pss_one (ps_expr (pe_callS G_fill (hr.mono (by decide)) rfl m_fill k_fill b_fill (fun σ => passAt tk σ) (pa_cons (pv 0) (pa_cons (pv 1) pa_nil)))))
        (fun a oe cls d pn hz hf => pss_one (ps_set (i := 2) sc_set.nd rfl (Or.inl rfl) (pe_tup (pa_cons (pe_xtold TB (hr.mono (by decide)) hz hf (pv 3)) (pa_cons (pe_xf xf NP.nw hz hf (pv 3)) pa_nil))))))
      (pss_one (ps_ret (pv 2))))), ?_⟩
    refine ⟨(by show 2 ≤ sizeLine; decide), fun t0 ht0 => ?_⟩
    have s0 : Same H (upd H t0 (.tup [.str "told", .non])) := same_new (Same.refl H) ht0
    have h0 : upd H t0 (.tup [.str "told", .non]) t0 = some (.tup [.str "told", .non]) := upd_same
    obtain ⟨dx, fx, ct, hx⟩ := RR.ob
    have ne : t0 ≠ x := fun e => by
      rw [e, hx] at ht0
      cases ht0
    generalize upd H t0 (.tup [.str "told", .non]) = H0 at *
    refine ⟨_, rfl, _, rfl, x, v, p, old, g, rfl, RR.same s0, hg, xr.same s0, fun n e H1 s1 d hd => ?_, fun prs e H1 b1 R1 => ?_⟩
    · refine ⟨true, te, fun _ a ha => ?_, fun q => Bool.noConfusion q⟩
      refine ⟨_, rfl, rfl, rfl, ⟨d, _, rfl, upd_same, rfl⟩, _, rfl, rfl, rfl, d, _, _, rfl, upd_same, rfl, (by show 2 ≤ sizeLine; decide), fun q hq => ⟨_, rfl, ?_⟩⟩
      refine kE n e q _ (same_new (same_new (s0.trans s1) hd) hq) ?_
      rw [e]
      exact upd_same
    · refine ⟨_, rfl, ?_⟩
      refine kQ prs e t0 H1 ((Same.but s0).trans b1) R1 ?_
      rw [e]
      exact b1 _ _ h0 ne
theorem sc_added : FnScope ["_law_reader_here", "_law_numbers", "_law_told", "e"] ["_law_reader_here", "_law_numbers"] (defScope s_added) := ⟨rfl, rfl, rfl, by decide +kernel, rfl, by decide +kernel, by decide +kernel⟩
theorem ok_added {f C CF CRr CRd CNP fNP friadd : Addr} {fd fdriadd : FuncData} (F : Fun K "_law_added" "_law_added" s_added f fd) (m_NP : mg "NoSeries" = some (.ref CNP)) (NP : NTxF K "place" CNP fNP) (te : PySem.W.exmOne K (.ref CNP) (.ref CNP) = some true) (xf : XfC K CNP) (TB : ToldBy P w K mg base CNP "refused noseries") (IO : IOp K CRr friadd (dunderI Operator.Add.info.2)) (sfR : PySem.W.selfFirst K CRr = true) (G_riadd : FnOk P w K mg base (L2.CX P w) 17 friadd fdriadd ["self", "other"] (spRIadd K C CRr CF CRd CNP)) (b_riadd : Binds K fdriadd ["self", "other"] []) : FnOk P w K mg base CX0 18 f fd ["_law_reader_here", "_law_numbers"] (spAdded K C CRr CF CRd) := by
  refine F.ok sc_added (fun vs H Q E h => ?_) (fun cdv A outer s H vs Q E hr h => ?_)
  · obtain ⟨x, v, p, old, g, rfl, _⟩ := h
    rfl
  · obtain ⟨x, v, p, old, g, rfl, RR, hg, ar, kE, kQ⟩ := h
    refine ⟨_, (pss_cons (ps_set (i := 2) sc_added.nd rfl (Or.inl rfl) (pe_tup (pa_cons pe_str (pa_cons pe_non pa_nil))))
      (pss_cons (ps_try_as (i := 3) (tb := fun W => tAugO 0 (tVar 1) CRr (spRIadd K C CRr CF CRd CNP) (WE W)) (Wout := fun _ _ _ _ => False) rfl rfl sc_added.nd rfl rfl ⟨rfl, by decide, Or.inl m_NP⟩ takes0
        (fun W pn xe tk _ => pss_one (ps_augO (op := .Add) (i := 0) sc_added.nd rfl (Or.inl rfl) (pv 1) sfR IO G_riadd (hr.mono (by decide)) b_riadd (fun σ => passAt tk σ)))
        (fun a oe cls d pn hz hf => pss_one (ps_set (i := 2) sc_added.nd rfl (Or.inl rfl) (pe_tup (pa_cons (pe_xtold TB (hr.mono (by decide)) hz hf (pv 3)) (pa_cons (pe_xf xf NP.nw hz hf (pv 3)) pa_nil))))))
      (pss_one (ps_ret (pv 2))))), ?_⟩
    refine ⟨(by show 2 ≤ sizeLine; decide), fun t0 ht0 => ?_⟩
    have s0 : Same H (upd H t0 (.tup [.str "told", .non])) := same_new (Same.refl H) ht0
    have h0 : upd H t0 (.tup [.str "told", .non]) t0 = some (.tup [.str "told", .non]) := upd_same
    obtain ⟨dx, fx, ct, hx⟩ := RR.ob
    have ne : t0 ≠ x := fun e => by
      rw [e, hx] at ht0
      cases ht0
    generalize upd H t0 (.tup [.str "told", .non]) = H0 at *
    refine ⟨_, rfl, _, rfl, x, dx, _, rfl, s0 _ _ hx, x, v, p, old, g, rfl, RR.same s0, hg, ar.same s0, fun n e H1 s1 d hd => ?_, fun prs e H1 b1 R1 => ?_⟩
    · refine ⟨true, te, fun _ a ha => ?_, fun q => Bool.noConfusion q⟩
      refine ⟨_, rfl, rfl, rfl, ⟨d, _, rfl, upd_same, rfl⟩, _, rfl, rfl, rfl, d, _, _, rfl, upd_same, rfl, (by show 2 ≤ sizeLine; decide), fun q hq => ⟨_, rfl, ?_⟩⟩
      refine kE n e q _ (same_new (same_new (s0.trans s1) hd) hq) ?_
      rw [e]
      exact upd_same
    · refine ⟨_, rfl, ?_⟩
      refine kQ prs e t0 H1 ((Same.but s0).trans b1) R1 ?_
      rw [e]
      exact b1 _ _ h0 ne
theorem sc_due : FnScope ["_law_place", "_law_more", "_law_count"] ["_law_place", "_law_more", "_law_count"] (defScope s_due) := ⟨rfl, rfl, rfl, by decide +kernel, rfl, by decide +kernel, by decide +kernel⟩
theorem ok_due {f : Addr} {fd : FuncData} (F : Fun K "_law_due" "_law_due" s_due f fd) (B : QTx mg) : FnOk P w K mg base CX0 1 f fd ["_law_place", "_law_more", "_law_count"] spDue := by
  refine F.ok sc_due (fun vs H Q E h => ?_) (fun cdv A outer s H vs Q E hr h => ?_)
  · obtain ⟨pl, l, more, count, rfl, _⟩ := h
    rfl
  · obtain ⟨pl, l, more, count, rfl, ⟨vs, hl, rv⟩, ln, k⟩ := h
    refine ⟨_, (pss_cons (ps_if (pt_cmpR op_lt (pv 0) (pe_callB call_len_seq (by rfl) B.b_len (by decide +kernel) (pa_cons (pv 1) pa_nil)) (nomark _))
        (pss_one (ps_ret (pe_tup (pa_cons pe_str (pa_cons (pv 0) pa_nil)))))
        pss_nil)
      (pss_cons (ps_if (PW.pt (pw_and (pt_cmpR op_eq (pv 2) pe_int (nomark _)) (pw_and (pt_cmpR op_gt (pe_callB call_len_seq (by rfl) B.b_len (by decide +kernel) (pa_cons (pv 1) pa_nil)) pe_int (nomark _)) (pw_and1 (pt_cmpR op_eq (pe_ix ix_tup (pe_ix ix_list (pv 1) pe_int (fun _ _ => rfl)) pe_int (fun _ _ => rfl)) pe_int (nomark _))))))
        (pss_one (ps_ret (pe_tup (pa_cons pe_str (pa_cons pe_int pa_nil)))))
        pss_nil)
      (pss_one (ps_ret (pe_tup (pa_cons pe_str (pa_cons pe_non pa_nil))))))), ?_⟩
    have lv := rv.len
    have fin : ∀ (a b : V), dueT pl more count = [a, b] → ∀ q, H q = none → Q (.ref q) (upd H q (.tup [a, b])) := fun a b e q hq => k q _ (same_new (Same.refl _) hq) (by rw [e]; exact upd_same)
    refine ⟨_, rfl, _, rfl, l, vs, rfl, .inl (SqL.of hl), _, _, rfl, rfl, _, rfl, ?_⟩
    by_cases c : pl < (more.length : Int)
    · refine itD (by rw [lv]; exact decide_eq_true c) ⟨_, rfl, (by show 2 ≤ sizeLine; decide), fin _ _ (if_pos c)⟩
    · refine itDn (by rw [lv]; simpa using c) ?_
      refine ⟨_, rfl, rfl, _, rfl, ?_⟩
      have two : dueT pl more count = if count = 0 ∧ 0 < more.length ∧ (more.getD 0 (1, 1)).1 = 0 then [.str "refused noseries", .int 0] else [.str "told", .non] := if_neg c
      by_cases c1 : count = 0
      · refine itD (by simp [c1]) ?_
        refine ⟨_, rfl, l, vs, rfl, .inl (SqL.of hl), _, _, rfl, rfl, _, rfl, ?_⟩
        by_cases c2 : 0 < more.length
        · refine itD (decide_eq_true (by omega)) ?_
          have l0 : 0 < vs.length := by omega
          obtain ⟨q, eq, hq⟩ := rv.at_ 0 _ _ (List.getElem?_eq_getElem l0) (List.getElem?_eq_getElem c2)
          have gd : more.getD 0 (1, 1) = more[0] := by
            rw [List.getD_eq_getElem?_getD, List.getElem?_eq_getElem c2]
            rfl
          have hv0 : atI vs 0 = some (.ref q) := by
            rw [← eq]
            exact at_of (j := 0) (by rfl) (List.getElem?_eq_getElem l0)
          refine ⟨_, rfl, _, _, _, _, rfl, rfl, SqL.of hl, hv0, _, _, _, _, rfl, rfl, SqT.of hq, rfl, rfl, _, rfl, ?_⟩
          by_cases c3 : more[0].1 = 0
          · exact itD (by simp [c3]) ⟨(by show 2 ≤ sizeLine; decide), fin _ _ (by rw [two, if_pos ⟨c1, c2, by rw [gd]; exact c3⟩])⟩
          · exact itDn (by simp [c3]) ⟨(by show 2 ≤ sizeLine; decide), fin _ _ (by rw [two, if_neg fun z => c3 (by rw [← gd]; exact z.2.2)])⟩
        · exact itDn (fun z => c2 (by have := of_decide_eq_true z; omega)) ⟨(by show 2 ≤ sizeLine; decide), fin _ _ (by rw [two, if_neg fun z => c2 z.2.1])⟩
      · exact itDn (by simp [c1]) ⟨(by show 2 ≤ sizeLine; decide), fin _ _ (by rw [two, if_neg fun z => c1 z.1])⟩
theorem sc_reader : FnScope ["_law_row", "_law_prime_here"] ["_law_row", "_law_prime_here"] (defScope s_reader) := ⟨rfl, rfl, rfl, by decide +kernel, rfl, by decide +kernel, by decide +kernel⟩
theorem ok_reader {f C CF CRr CRd CNP CNF fF frinit ffill frowg : Addr} {fd fdF fdrinit fdfill fdrowg : FuncData} (F : Fun K "_law_reader" "_law_reader" s_reader f fd) (KR : KRd K C CRd) (m_Rr : mg "Reader" = some (.ref CRr)) (MRr : Mk K CRr frinit) (G_rinit : FnOk P w K mg base CX0 1 frinit fdrinit ["self", "field"] (spRInit C CRr CF)) (b_rinit : Binds K fdrinit ["self", "field"] [])
    (m_CF : mg "Field" = some (.ref CF)) (MF : Mk K CF fF) (G_F : FnOk P w K mg base (L2.CX P w) 2 fF fdF ["self", "prime"] (spFieldInit K CF CNF)) (b_F : Binds K fdF ["self", "prime"] [])
    (G_rowg : FnOk P w K mg base CX0 6 frowg fdrowg ["_law_row", "_law_prime_here"] (spRowG K C)) (m_rowg : mg "_law_row_given" = some (.ref frowg)) (k_rowg : PySem.W.keepIn K (.ref frowg) = true) (b_rowg : Binds K fdrowg ["_law_row", "_law_prime_here"] []) (G_fill : FnOk P w K mg base (L2.CX P w) 17 ffill fdfill ["reader", "numbers"] (spFill K C CRr CF CRd CNP)) (m_fill : mg "fill" = some (.ref ffill)) (k_fill : PySem.W.keepIn K (.ref ffill) = true) (b_fill : Binds K fdfill ["reader", "numbers"] []) : FnOk P w K mg base CX0 18 f fd ["_law_row", "_law_prime_here"] (spReader C CRr CF) := by
  refine F.ok sc_reader (fun vs H Q E h => ?_) (fun cdv A outer s H vs Q E hr h => ?_)
  · obtain ⟨l, p, prs, rfl, _⟩ := h
    rfl
  · obtain ⟨l, p, prs, rfl, hg, ra, sp, wf, l32, k⟩ := h
    refine ⟨_, (pss_one (ps_ret (pe_call G_fill (hr.mono (by decide)) rfl m_fill k_fill b_fill .nil passL (pa_cons (pe_make MRr G_rinit (hr.mono (by decide)) rfl m_Rr b_rinit .nil pass0 (pa_cons (pe_make MF G_F (hr.mono (by decide)) rfl m_CF b_F .nil passL (pa_cons (pv 1) pa_nil)) pa_nil)) (pa_cons (pe_call G_rowg (hr.mono (by decide)) rfl m_rowg k_rowg b_rowg .nil pass0 (pa_cons (pv 0) (pa_cons (pv 1) pa_nil))) pa_nil))))), ?_⟩
    refine ⟨_, rfl, fun z dz nz ndz ne => mkF_go hg nz ndz ne fun H1 hz s1 => ⟨rfl, ?_⟩⟩
    refine fun x dx nx ndx nex => ?_
    have sx : Same H1 (upd (upd H1 dx (.own x)) x (.ins CRr dx [])) := same_pair nx ndx nex
    refine ⟨x, dx, z, p, rfl, upd_same, hz.same sx, fun H2 b2 R2 => ⟨rfl, ?_⟩⟩
    have s2 : Same H1 H2 := same_made nx ndx b2
    have ra2 := (ra.same s1).same s2
    refine ⟨_, rfl, _, rfl, l, p, prs, rfl, hg, ra2, sp, by omega, fun G xs H3 s3 hG0 hG gv => ?_⟩
    have R3 := R2.same s3
    have nxH : H x = none := by
      cases e : H x with
      | none => rfl
      | some o =>
        rw [s1 _ _ e] at nx
        cases nx
    have lx := gv.len
    rw [List.length_map] at lx
    have s03 := (s1.trans s2).trans s3
    have fin : ∀ g, XRow K C CRd H3 p (.ref G) g → g = .inr prs → spFill K C CRr CF CRd CNP [.ref x, .ref G] H3 Q E0 := fun g xr e => by
      refine ⟨x, .ref G, p, [], g, rfl, R3, hg, xr, fun n z => ?_, fun qs z H4 b4 R4 => ?_⟩
      · rw [e] at z
        cases z
      · rw [e] at z
        cases z
        refine k x H4 (fun a o ha => b4 _ _ (s03 _ _ ha) fun z => ?_) nxH R4
        rw [z, nxH] at ha
        cases ha
    by_cases c : prs = []
    · subst c
      have z : xs = [] := List.eq_nil_of_length_eq_zero (by simpa using lx)
      rw [z] at hG
      exact fin _ (.emp (.inl hG)) rfl
    · rcases wf with z | hd
      · exact absurd z c
      have n0 : 0 < prs.length := List.length_pos_iff.mpr c
      have hn : xs ≠ [] := fun z => by
        rw [z] at lx
        have : (0 : Nat) = prs.length := lx
        omega
      exact fin _ (.ser (.row ⟨_, .base (.lst hG), KR.klist⟩ (.inl hG) (by omega) (by omega) gv) (.inr ⟨G, xs, rfl, .inl hG, hn⟩)) (head_ok hd)
end
end Sq

namespace Sq
open PySem L2 PyProof.Rows
abbrev s_law : Stmt := top 62
/-! ### what a change of a reader leaves -/
theorem but_lst {C : Addr} {H H' : Hp} {x a dx : Addr} {fs : List (Str × V)} {xs : List V} (hx : H x = some (.ins C dx fs)) (b : But x H H') (h : H a = some (.lst xs)) : H' a = some (.lst xs) := b _ _ h fun e => by
  rw [e, hx] at h
  cases h
theorem but_tup {C : Addr} {H H' : Hp} {x a dx : Addr} {fs : List (Str × V)} {xs : List V} (hx : H x = some (.ins C dx fs)) (b : But x H H') (h : H a = some (.tup xs)) : H' a = some (.tup xs) := b _ _ h fun e => by
  rw [e, hx] at h
  cases h
theorem RowAt.butI {C : Addr} {H H' : Hp} {x l dx : Addr} {fs : List (Str × V)} {prs : List (Int × Int)} (hx : H x = some (.ins C dx fs)) (b : But x H H') (h : RowAt H l prs) : RowAt H' l prs := by
  obtain ⟨vs, e, r⟩ := h
  exact ⟨vs, but_lst hx b e, r.len, fun i v a e1 e2 => by
    obtain ⟨q, eq, hq⟩ := r.at_ i v a e1 e2
    exact ⟨q, eq, but_tup hx b hq⟩⟩
theorem NumAt.butR {C CRr : Addr} {H H' : Hp} {x dx fx ct : Addr} {t u : Int} {v : V} (hy : H x = some (.ins CRr dx (rlf fx ct))) (b : But x H H') (h : NumAt C H v t u) : NumAt C H' v t u := by
  rcases h with ⟨r, e, R⟩ | h
  · exact .inl ⟨r, e, R.butR hy b⟩
  · exact .inr h
theorem Givs.butR {K : PySem.W.Frag} {C CRr : Addr} {H H' : Hp} {x dx fx ct : Addr} {p : Int} {ys : List V} {prs : List (Int × Int)} (hy : H x = some (.ins CRr dx (rlf fx ct))) (b : But x H H') (h : Givs K C H p ys (prs.map some)) : Givs K C H' p ys (prs.map some) := by
  refine ⟨h.len, fun i v o e1 e2 => ?_⟩
  have g := h.at_ i v o e1 e2
  rw [List.getElem?_map] at e2
  cases e : prs[i]? with
  | none =>
    rw [e] at e2
    cases e2
  | some a =>
    rw [e] at e2
    have : o = some a := (Option.some.inj e2).symm
    subst this
    obtain ⟨t, u, n, r⟩ := g
    exact ⟨t, u, n.butR hy b, r⟩
theorem Rdr.butR {C CRr CF : Addr} {H H' : Hp} {x y dx fx ct : Addr} {p : Int} {prs : List (Int × Int)} (hy : H x = some (.ins CRr dx (rlf fx ct))) (b : But x H H') (ne : y ≠ x) (h : Rdr C CRr CF H y p prs) : Rdr C CRr CF H' y p prs := by
  obtain ⟨d, f, c, ys, R⟩ := h
  exact ⟨d, f, c, ys, b _ _ R.ob ne, R.fl.butR hy b, but_tup hy b R.co, R.nu.butR hy b, R.wf, R.l32, R.ft⟩
/-! ### what is no number -/
def Bad (H : Hp) (v : V) : Prop := v = .non ∨ v = .str "1" ∨ v = .bl true ∨ ∃ a, v = .ref a ∧ H a = some (.lst [.int 1])
theorem Bad.same {H H' : Hp} {v : V} (s : Same H H') (h : Bad H v) : Bad H' v := by
  rcases h with h | h | h | ⟨a, e, ha⟩
  · exact .inl h
  · exact .inr (.inl h)
  · exact .inr (.inr (.inl h))
  · exact .inr (.inr (.inr ⟨a, e, s _ _ ha⟩))
theorem Bad.butI {C : Addr} {H H' : Hp} {x dx : Addr} {fs : List (Str × V)} {v : V} (hx : H x = some (.ins C dx fs)) (b : But x H H') (h : Bad H v) : Bad H' v := by
  rcases h with h | h | h | ⟨a, e, ha⟩
  · exact .inl h
  · exact .inr (.inl h)
  · exact .inr (.inr (.inl h))
  · exact .inr (.inr (.inr ⟨a, e, but_lst hx b ha⟩))
theorem Bad.giv {K : PySem.W.Frag} {C : Addr} {H : Hp} {p : Int} {v : V} (Z : KZx K C) (Z3 : KZ3 K C) (h : Bad H v) : Giv K C H p v none := by
  rcases h with rfl | rfl | rfl | ⟨a, rfl, ha⟩
  · exact .inl ⟨_, false, .base .non, Z.knon, .non, rfl⟩
  · exact .inl ⟨_, false, .base (.str _), Z.kstr, .str _, rfl⟩
  · exact .inl ⟨_, false, .base (.bl _), Z3.kbool, .bl _, rfl⟩
  · exact .inl ⟨_, false, .base (.lst ha), Z3.klist, .lst ha, rfl⟩
/-- the list that is given: the numbers of more, but for the place, if there is one -/
def GL (K : PySem.W.Frag) (C : Addr) (H : Hp) (p : Int) (xs : List V) (more : List (Int × Int)) (j : Nat) : Prop := ∃ ys, Givs K C H p ys (more.map some) ∧ ((j < more.length ∧ ∃ v, Bad H v ∧ xs = ys.set j v) ∨ (more.length ≤ j ∧ xs = ys))
theorem GL.same {K : PySem.W.Frag} {C : Addr} {H H' : Hp} {p : Int} {xs : List V} {more : List (Int × Int)} {j : Nat} (s : Same H H') (h : GL K C H p xs more j) : GL K C H' p xs more j := by
  obtain ⟨ys, g, h⟩ := h
  refine ⟨ys, g.same s, ?_⟩
  rcases h with ⟨l, v, b, e⟩ | h
  · exact .inl ⟨l, v, b.same s, e⟩
  · exact .inr h
theorem GL.butR {K : PySem.W.Frag} {C CRr : Addr} {H H' : Hp} {x dx fx ct : Addr} {p : Int} {xs : List V} {more : List (Int × Int)} {j : Nat} (hx : H x = some (.ins CRr dx (rlf fx ct))) (b : But x H H') (h : GL K C H p xs more j) : GL K C H' p xs more j := by
  obtain ⟨ys, g, h⟩ := h
  refine ⟨ys, g.butR hx b, ?_⟩
  rcases h with ⟨l, v, bd, e⟩ | h
  · exact .inl ⟨l, v, bd.butI hx b, e⟩
  · exact .inr h
theorem GL.len {K : PySem.W.Frag} {C : Addr} {H : Hp} {p : Int} {xs : List V} {more : List (Int × Int)} {j : Nat} (h : GL K C H p xs more j) : xs.length = more.length := by
  obtain ⟨ys, g, h⟩ := h
  have := g.len
  rw [List.length_map] at this
  rcases h with ⟨_, v, _, rfl⟩ | ⟨_, rfl⟩
  · rw [List.length_set, this]
  · exact this
def setG (j : Nat) (more : List (Int × Int)) : Int ⊕ List (Int × Int) := if j < more.length then .inl j else if more = [] then .inr [] else headG (.inr more)
def arG (j : Nat) (more : List (Int × Int)) : Int ⊕ List (Int × Int) := if j < more.length then .inl j else .inr more
theorem GL.bad {K : PySem.W.Frag} {C : Addr} {H : Hp} {p : Int} {xs : List V} {more : List (Int × Int)} {j : Nat} (Z : KZx K C) (Z3 : KZ3 K C) (h : GL K C H p xs more j) (l : j < more.length) : ∃ os, Givs K C H p xs os ∧ (pre os).length < os.length ∧ (pre os).length = j := by
  obtain ⟨ys, g, ⟨_, v, b, e⟩ | ⟨l2, _⟩⟩ := h
  · refine ⟨(more.map some).set j none, ?_, ?_, pre_set1 more l⟩
    · rw [e]
      exact g.set (b.giv Z Z3) j
    · rw [pre_set1 more l, List.length_set, List.length_map]
      exact l
  · omega
theorem GL.good {K : PySem.W.Frag} {C : Addr} {H : Hp} {p : Int} {xs : List V} {more : List (Int × Int)} {j : Nat} (h : GL K C H p xs more j) (l : ¬ j < more.length) : Givs K C H p xs (more.map some) := by
  obtain ⟨ys, g, ⟨l2, _⟩ | ⟨_, e⟩⟩ := h
  · exact absurd l2 l
  · rw [e]
    exact g
theorem GL.xrow {K : PySem.W.Frag} {C CRd : Addr} {H : Hp} {p : Int} {xs : List V} {more : List (Int × Int)} {j : Nat} {G : Addr} (Z : KZx K C) (Z3 : KZ3 K C) (KR : KRd K C CRd) (h : GL K C H p xs more j) (hG : H G = some (.lst xs)) (l6 : more.length ≤ 32) : XRow K C CRd H p (.ref G) (setG j more) := by
  have lx := h.len
  have nc : NotC K H (.ref G) CRd := ⟨_, .base (.lst hG), KR.klist⟩
  unfold setG
  by_cases c : j < more.length
  · rw [if_pos c]
    obtain ⟨os, g, lt, lp⟩ := h.bad Z Z3 c
    have e : (Sum.inl (j : Int) : Int ⊕ List (Int × Int)) = headG (.inl ((pre os).length : Nat)) := by rw [lp]; rfl
    rw [e]
    refine .ser (.bad nc (.inl hG) (by omega) (by omega) g lt) (.inr ⟨G, xs, rfl, .inl hG, fun z => ?_⟩)
    rw [z] at lx
    have : (0 : Nat) = more.length := lx
    omega
  · rw [if_neg c]
    have g := h.good c
    by_cases z : more = []
    · rw [if_pos z]
      subst z
      have : xs = [] := List.eq_nil_of_length_eq_zero lx
      rw [this] at hG
      exact .emp (.inl hG)
    · rw [if_neg z]
      have n0 : 0 < more.length := List.length_pos_iff.mpr z
      refine .ser (.row nc (.inl hG) (by omega) (by omega) g) (.inr ⟨G, xs, rfl, .inl hG, fun z => ?_⟩)
      rw [z] at lx
      have : (0 : Nat) = more.length := lx
      omega
theorem GL.arow {K : PySem.W.Frag} {C CRd : Addr} {H : Hp} {p : Int} {xs : List V} {more : List (Int × Int)} {j m : Nat} {T : Addr} (Z : KZx K C) (Z3 : KZ3 K C) (h : GL K C H p xs more j) (hT : LT H T xs) (l6 : m + more.length ≤ 32) : ARow K C CRd H p m (.ref T) (arG j more) := by
  have lx := h.len
  unfold arG
  by_cases c : j < more.length
  · rw [if_pos c]
    obtain ⟨os, g, lt, lp⟩ := h.bad Z Z3 c
    have e : (Sum.inl (j : Int) : Int ⊕ List (Int × Int)) = .inl ((pre os).length : Nat) := by rw [lp]
    rw [e]
    exact .bad hT (by omega) g lt
  · rw [if_neg c]
    exact .row hT (by omega) (h.good c)
/-! ### what is due -/
theorem headG_cons {a : Int × Int} {r : List (Int × Int)} : headG (.inr (a :: r)) = if a.1 = 0 then .inl 0 else .inr (a :: r) := rfl
theorem due_set (j : Nat) (more : List (Int × Int)) : dueT (j : Int) more 0 = toldT (setG j more) := by
  unfold dueT setG
  by_cases c : j < more.length
  · rw [if_pos (by omega), if_pos c]
    rfl
  · rw [if_neg (by omega), if_neg c]
    cases more with
    | nil => rfl
    | cons a r =>
      rw [if_neg (List.cons_ne_nil _ _), headG_cons]
      by_cases z : a.1 = 0
      · rw [if_pos z, if_pos ⟨rfl, by simp, z⟩]
        rfl
      · rw [if_neg z, if_neg fun h => z h.2.2]
        rfl
theorem due_add {start : List (Int × Int)} (j : Nat) (more : List (Int × Int)) (wf : start = [] ∨ ∃ a r, start = a :: r ∧ a.1 ≠ 0) : dueT (j : Int) more (start.length : Int) = toldT (addG start (arG j more)) := by
  unfold dueT arG
  by_cases c : j < more.length
  · rw [if_pos (by omega), if_pos c]
    rfl
  · rw [if_neg (by omega), if_neg c]
    rcases wf with rfl | ⟨a, r, rfl, a0⟩
    · show _ = toldT (if [] ++ more = [] then .inr [] else headG (.inr ([] ++ more)))
      rw [List.nil_append]
      cases more with
      | nil => rfl
      | cons a r =>
        rw [if_neg (List.cons_ne_nil _ _), headG_cons]
        by_cases z : a.1 = 0
        · rw [if_pos z, if_pos ⟨rfl, by simp, z⟩]
          rfl
        · rw [if_neg z, if_neg fun h => z h.2.2]
          rfl
    · rw [if_neg fun h => by have := h.1; simp at this; omega]
      show _ = toldT (if a :: r ++ more = [] then .inr [] else headG (.inr (a :: r ++ more)))
      rw [if_neg (by simp), List.cons_append, headG_cons, if_neg a0]
      rfl
theorem setG_more {j : Nat} {more qs : List (Int × Int)} (e : setG j more = .inr qs) : qs = more := by
  unfold setG at e
  by_cases c : j < more.length
  · rw [if_pos c] at e
    cases e
  · rw [if_neg c] at e
    by_cases z : more = []
    · rw [if_pos z] at e
      cases e
      exact z.symm
    · rw [if_neg z] at e
      exact (headG_eq e).symm
theorem addG_more {start : List (Int × Int)} {j : Nat} {more qs : List (Int × Int)} (e : addG start (arG j more) = .inr qs) : qs = start ++ more := by
  unfold arG at e
  by_cases c : j < more.length
  · rw [if_pos c] at e
    cases e
  · rw [if_neg c] at e
    have e2 : (if start ++ more = [] then (.inr [] : Int ⊕ List (Int × Int)) else headG (.inr (start ++ more))) = .inr qs := e
    by_cases z : start ++ more = []
    · rw [if_pos z] at e2
      cases e2
      exact z.symm
    · rw [if_neg z] at e2
      exact (headG_eq e2).symm
theorem told_dp {K : PySem.W.Frag} {H : Hp} {q : Addr} : ∀ {g : Int ⊕ List (Int × Int)}, H q = some (.tup (toldT g)) → ∃ d, Dp K H (.ref q) d ∧ SeqAt.shaped d = true ∧ d = (match g with | .inl n => .tuple [.str "refused noseries", .int n] | .inr _ => .tuple [.str "told", .none])
  | .inl n, h => ⟨_, .tup (SqT.of h) (.cons (.str _) (.cons (.int _) .nil)), t2_sh _ _ (by decide +kernel), rfl⟩
  | .inr _, h => ⟨_, .tup (SqT.of h) (.cons (.str _) (.cons .non .nil)), (by decide +kernel), rfl⟩
theorem ne_told {K : PySem.W.Frag} {H : Hp} {p q : Addr} {g : Int ⊕ List (Int × Int)} {Q : VK} (hp : H p = some (.tup (toldT g))) (hq : H q = some (.tup (toldT g))) (k : Q (.bl false) H) : rNeD K (.ref p) (.ref q) H Q := by
  obtain ⟨d, h1, sh, e1⟩ := told_dp (K := K) hp
  obtain ⟨d', h2, _, e2⟩ := told_dp (K := K) hq
  have e : d' = d := e2.trans e1.symm
  rw [e] at h2
  refine ⟨d, d, h1, h2, sh, sh, ?_⟩
  rw [SeqAt.eqv_refl _ (SeqAt.canLay_of_shaped sh)]
  exact k
theorem eq_row {K : PySem.W.Frag} {H : Hp} {p q : Addr} {prs : List (Int × Int)} {Q : VK} (hp : RowAt H p prs) (hq : RowAt H q prs) (k : Q (.bl true) H) : rEqD K (.ref p) (.ref q) H Q :=
  ⟨_, _, hp.dp, hq.dp, row_shaped prs, row_shaped prs, by
    rw [SeqAt.eqv_refl _ (SeqAt.canLay_of_shaped (row_shaped prs))]
    exact k⟩
/-! ### the stream stands -/
theorem StrAt.updL {H : Hp} {st q : Addr} {m : Nat} {o : HO} (ne : q ≠ st) (S : StrAt H st m) : StrAt (L2.upd H q o) st m := by
  obtain ⟨i, c, k, b, h1, r⟩ := S
  exact ⟨i, c, k, b, (upd_ne ne.symm).trans h1, r⟩
theorem StrAt.row {H H' : Hp} {st : Addr} {m : Nat} {vs : List V} {prs : List (Int × Int)} (S : StrAt H st m) (b : But st H H') (r : RowV H vs prs) : RowV H' vs prs := by
  obtain ⟨i, c, k, bb, h1, _⟩ := S
  refine ⟨r.len, fun i v a e1 e2 => ?_⟩
  obtain ⟨q, eq, hq⟩ := r.at_ i v a e1 e2
  refine ⟨q, eq, b _ _ hq fun e => ?_⟩
  rw [e, PairAt, h1] at hq
  cases hq
end Sq

namespace Sq
open PySem L2 PyProof.Rows
theorem sp_nonz {p : Int} {a : Int × Int} (hg : goodP p = true) (h : SP p a) : SP p (nonzP a) := by
  unfold nonzP
  by_cases c : a.1 = 0
  · rw [if_pos c]
    refine ⟨⟨Int.le_refl 1, fun _ => ⟨by decide, by decide, by decide⟩, fun p0 => ⟨rfl, by decide, ?_⟩⟩, rfl⟩
    have := prime_lt hg p0
    show (1 : Int) < p
    omega
  · rw [if_neg c]
    exact h
theorem nonz_ne (a : Int × Int) : (nonzP a).1 ≠ 0 := by
  unfold nonzP
  by_cases c : a.1 = 0
  · rw [if_pos c]
    decide
  · rw [if_neg c]
    exact c
theorem RatAt.butL {C : Addr} {H H' : Hp} {x y : Addr} {t u : Int} {ws : List V} (hx : H x = some (.lst ws)) (b : But x H H') (h : RatAt C H y t u) : RatAt C H' y t u := by
  obtain ⟨d, h⟩ := h
  refine ⟨d, b _ _ h fun e => ?_⟩
  rw [e, hx] at h
  cases h
theorem Givs.butL {K : PySem.W.Frag} {C : Addr} {H H' : Hp} {x : Addr} {p : Int} {ys ws : List V} {prs : List (Int × Int)} (hx : H x = some (.lst ws)) (b : But x H H') (h : Givs K C H p ys (prs.map some)) : Givs K C H' p ys (prs.map some) := by
  refine ⟨h.len, fun i v o e1 e2 => ?_⟩
  have g := h.at_ i v o e1 e2
  rw [List.getElem?_map] at e2
  cases e : prs[i]? with
  | none =>
    rw [e] at e2
    cases e2
  | some a =>
    rw [e] at e2
    have : o = some a := (Option.some.inj e2).symm
    subst this
    obtain ⟨t, u, n, r⟩ := g
    refine ⟨t, u, ?_, r⟩
    rcases n with ⟨q, eq, R⟩ | n
    · exact .inl ⟨q, eq, R.butL hx b⟩
    · exact .inr n
theorem RowV.app {H : Hp} {vs ws : List V} {a b : List (Int × Int)} (h : RowV H vs a) (g : RowV H ws b) : RowV H (vs ++ ws) (a ++ b) := by
  refine ⟨by rw [List.length_append, List.length_append, h.len, g.len], fun i v c e1 e2 => ?_⟩
  have lh := h.len
  by_cases l : i < vs.length
  · rw [List.getElem?_append_left l] at e1
    rw [List.getElem?_append_left (by omega)] at e2
    exact h.at_ i v c e1 e2
  · rw [List.getElem?_append_right (by omega)] at e1
    rw [List.getElem?_append_right (by omega), ← lh] at e2
    exact g.at_ _ v c e1 e2
theorem rlf_no (fx ct : Addr) {m : Str} (h1 : ¬ m = "_held") (h2 : ¬ m = "field") : (rlf fx ct).lookup m = none := by
  unfold rlf
  rw [lookup_putF, if_neg h1, lookup_putF, if_neg h2]
  rfl
theorem Rdr.updl {C CRr CF : Addr} {H : Hp} {x q : Addr} {p : Int} {prs : List (Int × Int)} {xs : List V} {o : HO} (hq : H q = some (.lst xs)) (h : Rdr C CRr CF H x p prs) : Rdr C CRr CF (L2.upd H q o) x p prs := by
  obtain ⟨d, f, c, ys, R⟩ := h
  refine ⟨d, f, c, ys, (upd_ne fun e => ?_).trans R.ob, R.fl.updl hq, (upd_ne fun e => ?_).trans R.co, R.nu.upd hq, R.wf, R.l32, R.ft⟩
  · have := R.ob
    rw [e, hq] at this
    cases this
  · have := R.co
    rw [e, hq] at this
    cases this
theorem bad_at (a : Addr) {i : Int} (h0 : 0 ≤ i) (h4 : i < 4) : ∃ v, atI [V.non, V.str "1", V.bl true, V.ref a] i = some v ∧ ∀ H : Hp, H a = some (.lst [.int 1]) → Bad H v := by
  have c : i = 0 ∨ i = 1 ∨ i = 2 ∨ i = 3 := by omega
  rcases c with rfl | rfl | rfl | rfl
  · exact ⟨_, rfl, fun _ _ => .inl rfl⟩
  · exact ⟨_, rfl, fun _ _ => .inr (.inl rfl)⟩
  · exact ⟨_, rfl, fun _ _ => .inr (.inr (.inl rfl))⟩
  · exact ⟨_, rfl, fun H ha => .inr (.inr (.inr ⟨a, rfl, ha⟩))⟩
theorem thing_at {K : PySem.W.Frag} {C CRd : Addr} {H : Hp} {p : Int} {m i : Nat} {l : Addr} {xs : List V} {v : V} (KR : KRd K C CRd) (hl : H l = some (.lst xs)) (lx : xs.length = 33) (e : [V.non, V.str "ab", V.int 3, V.ref l][i]? = some v) :
    XRow K C CRd H p v (.inl (-1)) ∧ ARow K C CRd H p m v (.inl (-1)) := by
  have no : ∀ {v : V} {T : String}, TyX K H v (.type T) → PySem.W.kitOne K (.type T) (.ref CRd) = some false → PySem.W.kitOne K (.type T) (.type "list") = some false → PySem.W.kitOne K (.type T) (.type "tuple") = some false → XRow K C CRd H p v (.inl (-1)) ∧ ARow K C CRd H p m v (.inl (-1)) := fun ty k1 k2 k3 =>
    have q := IsQ.ty ty k2 k3
    ⟨.ser (g := .inl (-1)) (.no ⟨_, ty, k1⟩ q) (.inl q), .no q⟩
  match i, e with
  | 0, e =>
    cases e
    exact no (.base .non) KR.knon (kit_ty (by decide +kernel)) (kit_ty (by decide +kernel))
  | 1, e =>
    cases e
    exact no (.base (.str _)) KR.kstr (kit_ty (by decide +kernel)) (kit_ty (by decide +kernel))
  | 2, e =>
    cases e
    exact no (.base (.int _)) KR.kint (kit_ty (by decide +kernel)) (kit_ty (by decide +kernel))
  | 3, e =>
    cases e
    refine ⟨.ser (g := .inl (-1)) (.size ⟨_, .base (.lst hl), KR.klist⟩ (.inl hl) (by omega)) (.inr ⟨l, xs, rfl, .inl hl, fun z => ?_⟩), .long (.inl hl) (by omega)⟩
    rw [z] at lx
    cases lx
  | i + 4, e => simp at e
section
variable {P : Program} {w : World} {K : PySem.W.Frag} {mg : Str → Option Value} {base : Heap}
theorem sc_law : FnScope ["_law_script", "_law_prime_here", "_law_stream_here", "_law_start", "_law_more", "_law_given_here", "_law_place", "_law_one", "_law_other", "_law_thing", "_law_due_here", "_law_held", "_law_k"] ["_law_script"] (defScope s_law) := ⟨rfl, rfl, rfl, by decide +kernel, rfl, by decide +kernel, by decide +kernel⟩
theorem ok_law {f C CF CS CRr CRd pnum frget frlen frser fdraw fstream flpr fsmall fnonz frowg freader fset fadded fdue flpairs fspairs : Addr} {fd fdrget fdrlen fdrser fddraw fdstream fdlpr fdsmall fdnonz fdrowg fdreader fdset fdadded fddue fdlpairs fdspairs : FuncData} (F : Fun K "law" "law" s_law f fd) (D : DTx mg) (B : QTx mg) (TR : TRr K CRr) (Z : KZx K C) (Z3 : KZ3 K C) (KR : KRd K C CRd)
    (PG : PropOf K CRr "numbers" pnum frget) (G_rget : FnOk P w K mg base CX0 1 frget fdrget ["self"] (spRGet C CRr CF)) (b_rget : Binds K fdrget ["self"] [])
    (O_rlen : OwnOp K CRr frlen "__len__") (G_rlen : FnOk P w K mg base CX0 1 frlen fdrlen ["self"] (spRLen C CRr CF)) (b_rlen : Binds K fdrlen ["self"] []) (Me_rser : Meth K CRr "series" frser) (G_rser : FnOk P w K mg base (L2.CX P w) 14 frser fdrser ["self"] (spRSer C CRr CS CF)) (b_rser : Binds K fdrser ["self"] [])
    (G_draw : FnOk P w K mg base CX0 1 fdraw fddraw ["_law_stream_here", "_law_size"] spDraw) (m_draw : mg "_law_draw" = some (.ref fdraw)) (k_draw : PySem.W.keepIn K (.ref fdraw) = true) (b_draw : Binds K fddraw ["_law_stream_here", "_law_size"] [])
    (G_stream : FnOk P w K mg base CX0 1 fstream fdstream ["_law_script", "_law_k"] (spStream K)) (m_stream : mg "_law_stream" = some (.ref fstream)) (k_stream : PySem.W.keepIn K (.ref fstream) = true) (b_stream : Binds K fdstream ["_law_script", "_law_k"] [])
    (G_lpr : FnOk P w K mg base CX0 3 flpr fdlpr ["_law_stream_here"] spLpr) (m_lpr : mg "_law_prime" = some (.ref flpr)) (k_lpr : PySem.W.keepIn K (.ref flpr) = true) (b_lpr : Binds K fdlpr ["_law_stream_here"] [])
    (G_small : FnOk P w K mg base CX0 2 fsmall fdsmall ["_law_stream_here", "_law_prime_here"] spSmall) (m_small : mg "_law_small" = some (.ref fsmall)) (k_small : PySem.W.keepIn K (.ref fsmall) = true) (b_small : Binds K fdsmall ["_law_stream_here", "_law_prime_here"] [])
    (G_nonz : FnOk P w K mg base CX0 1 fnonz fdnonz ["_law_pair_here"] spNonz) (m_nonz : mg "_law_nonzero" = some (.ref fnonz)) (k_nonz : PySem.W.keepIn K (.ref fnonz) = true) (b_nonz : Binds K fdnonz ["_law_pair_here"] [])
    (G_rowg : FnOk P w K mg base CX0 6 frowg fdrowg ["_law_row", "_law_prime_here"] (spRowG K C)) (m_rowg : mg "_law_row_given" = some (.ref frowg)) (k_rowg : PySem.W.keepIn K (.ref frowg) = true) (b_rowg : Binds K fdrowg ["_law_row", "_law_prime_here"] [])
    (G_reader : FnOk P w K mg base CX0 18 freader fdreader ["_law_row", "_law_prime_here"] (spReader C CRr CF)) (m_reader : mg "_law_reader" = some (.ref freader)) (k_reader : PySem.W.keepIn K (.ref freader) = true) (b_reader : Binds K fdreader ["_law_row", "_law_prime_here"] [])
    (G_set : FnOk P w K mg base CX0 18 fset fdset ["_law_reader_here", "_law_numbers"] (spSet K C CRr CF CRd)) (m_set : mg "_law_set" = some (.ref fset)) (k_set : PySem.W.keepIn K (.ref fset) = true) (b_set : Binds K fdset ["_law_reader_here", "_law_numbers"] [])
    (G_added : FnOk P w K mg base CX0 18 fadded fdadded ["_law_reader_here", "_law_numbers"] (spAdded K C CRr CF CRd)) (m_added : mg "_law_added" = some (.ref fadded)) (k_added : PySem.W.keepIn K (.ref fadded) = true) (b_added : Binds K fdadded ["_law_reader_here", "_law_numbers"] [])
    (G_due : FnOk P w K mg base CX0 1 fdue fddue ["_law_place", "_law_more", "_law_count"] spDue) (m_due : mg "_law_due" = some (.ref fdue)) (k_due : PySem.W.keepIn K (.ref fdue) = true) (b_due : Binds K fddue ["_law_place", "_law_more", "_law_count"] [])
    (G_lpairs : FnOk P w K mg base CX0 3 flpairs fdlpairs ["_law_values", "_law_prime_here"] (spLPairs C)) (m_lpairs : mg "_law_pairs" = some (.ref flpairs)) (k_lpairs : PySem.W.keepIn K (.ref flpairs) = true) (b_lpairs : Binds K fdlpairs ["_law_values", "_law_prime_here"] [])
    (G_spairs : FnOk P w K mg base CX0 4 fspairs fdspairs ["_law_series", "_law_prime_here"] (spSPairs C CS CF)) (m_spairs : mg "_law_series_pairs" = some (.ref fspairs)) (k_spairs : PySem.W.keepIn K (.ref fspairs) = true) (b_spairs : Binds K fdspairs ["_law_series", "_law_prime_here"] []) : FnOk P w K mg base CX0 19 f fd ["_law_script"] (spLaw K) := by
  refine F.ok sc_law (fun vs H Q E h => ?_) (fun cdv A outer s H vs Q E hr h => ?_)
  · obtain ⟨a, ns, rfl, _⟩ := h
    rfl
  · obtain ⟨scr, ns, rfl, hS, hn, k⟩ := h
    refine ⟨_, (pss_cons (ps_set (i := 1) sc_law.nd rfl (Or.inr rfl) (pe_call G_lpr (hr.mono (by decide)) rfl m_lpr k_lpr b_lpr .nil pass0 (pa_cons (pe_call G_stream (hr.mono (by decide)) rfl m_stream k_stream b_stream .nil pass0 (pa_cons (pv 0) (pa_cons pe_int pa_nil))) pa_nil)))
      (pss_cons (ps_set (i := 2) sc_law.nd rfl (Or.inr rfl) (pe_call G_stream (hr.mono (by decide)) rfl m_stream k_stream b_stream .nil pass0 (pa_cons (pv 0) (pa_cons pe_int pa_nil))))
      (pss_cons (ps_setLc (i := 3) (own := [("_law_k", 12)]) (g := gName 12) (tt := tYes) rfl sc_law.nd rfl rfl (sw_true rfl rfl rfl (by decide +kernel))
        (pi_range1 (by rfl) D.b_range (pa_cons (pe_call G_draw (hr.mono (by decide)) rfl m_draw k_draw b_draw .nil pass0 (pa_cons (pv 2) (pa_cons pe_int pa_nil))) pa_nil)) (blkOk_by (N := ["_law_script", "_law_prime_here", "_law_stream_here", "_law_start", "_law_more", "_law_given_here", "_law_place", "_law_one", "_law_other", "_law_thing", "_law_due_here", "_law_held", "_law_k"]) (sc := defScope s_law) (by decide +kernel)) (fun _ _ _ _ _ => pg_name (i := 12) sc_law.nd rfl (Or.inl rfl)) (fun _ _ _ _ _ => pts_nil)
        (fun _ _ _ _ _ => (pe_call G_small (hr.mono (by decide)) rfl m_small k_small b_small .nil pass0 (pa_cons (pv 2) (pa_cons (pv 1) pa_nil)))))
      (C8.pss_cut (ps_if (pt_cmpR op_gt (pe_callB call_len_seq (by rfl) B.b_len (by decide +kernel) (pa_cons (pv 3) pa_nil)) pe_int (nomark _))
        (pss_one (ps_asg (pe_call G_nonz (hr.mono (by decide)) rfl m_nonz k_nonz b_nonz .nil pass0 (pa_cons (pe_ix ix_list (pv 3) pe_int (fun _ _ => rfl)) pa_nil)) (pg_sub (pv 3) pe_int set_list)))
        pss_nil)
      (pss_cons (ps_setLc (i := 4) (own := [("_law_k", 12)]) (g := gName 12) (tt := tYes) rfl sc_law.nd rfl rfl (sw_true rfl rfl rfl (by decide +kernel))
        (pi_range1 (by rfl) D.b_range (pa_cons (pe_call G_draw (hr.mono (by decide)) rfl m_draw k_draw b_draw .nil pass0 (pa_cons (pv 2) (pa_cons pe_int pa_nil))) pa_nil)) (blkOk_by (N := ["_law_script", "_law_prime_here", "_law_stream_here", "_law_start", "_law_more", "_law_given_here", "_law_place", "_law_one", "_law_other", "_law_thing", "_law_due_here", "_law_held", "_law_k"]) (sc := defScope s_law) (by decide +kernel)) (fun _ _ _ _ _ => pg_name (i := 12) sc_law.nd rfl (Or.inl rfl)) (fun _ _ _ _ _ => pts_nil)
        (fun _ _ _ _ _ => (pe_call G_small (hr.mono (by decide)) rfl m_small k_small b_small .nil pass0 (pa_cons (pv 2) (pa_cons (pv 1) pa_nil)))))
      (pss_cons (ps_set (i := 5) sc_law.nd rfl (Or.inl rfl) (pe_call G_rowg (hr.mono (by decide)) rfl m_rowg k_rowg b_rowg .nil pass0 (pa_cons (pv 4) (pa_cons (pv 1) pa_nil))))
      (pss_cons (ps_set (i := 6) sc_law.nd rfl (Or.inl rfl) (pe_call G_draw (hr.mono (by decide)) rfl m_draw k_draw b_draw .nil pass0 (pa_cons (pv 2) (pa_cons pe_int pa_nil))))
      (C8.pss_cut (ps_if (pt_cmpR op_lt (pv 6) (pe_callB call_len_seq (by rfl) B.b_len (by decide +kernel) (pa_cons (pv 5) pa_nil)) (nomark _))
        (pss_one (ps_asg (pe_ix ix_list (pe_lst (pa_cons pe_non (pa_cons pe_str (pa_cons pe_bl (pa_cons (pe_lst (pa_cons pe_int pa_nil)) pa_nil))))) (pe_call G_draw (hr.mono (by decide)) rfl m_draw k_draw b_draw .nil pass0 (pa_cons (pv 2) (pa_cons pe_int pa_nil))) (fun _ _ => rfl)) (pg_sub (pv 5) (pv 6) set_list)))
        pss_nil)
      (pss_cons (ps_set (i := 7) sc_law.nd rfl (Or.inl rfl) (pe_call G_reader (hr.mono (by decide)) rfl m_reader k_reader b_reader .nil pass0 (pa_cons (pv 3) (pa_cons (pv 1) pa_nil))))
      (pss_cons (ps_set (i := 8) sc_law.nd rfl (Or.inl rfl) (pe_call G_reader (hr.mono (by decide)) rfl m_reader k_reader b_reader .nil pass0 (pa_cons (pv 3) (pa_cons (pv 1) pa_nil))))
      (pss_cons (ps_for PassesOwn.never rfl (pi_list (pe_lst (pa_cons pe_non (pa_cons pe_str (pa_cons pe_int (pa_cons (pe_op op_rep (pe_lst (pa_cons pe_int pa_nil)) pe_int) pa_nil)))))) (pg_name (i := 9) sc_law.nd rfl (Or.inl rfl)) (pss_cons (ps_if (PW.pt (pw_or (pt_cmpR (op_neD hr.units) (pe_call G_set (hr.mono (by decide)) rfl m_set k_set b_set .nil pass0 (pa_cons (pv 7) (pa_cons (pv 9) pa_nil))) (pe_tup (pa_cons pe_str (pa_cons (pe_un un_neg pe_int) pa_nil))) (nomark _)) (pw_or1 (pt_cmpR (op_neD hr.units) (pe_call G_added (hr.mono (by decide)) rfl m_added k_added b_added .nil pass0 (pa_cons (pv 8) (pa_cons (pv 9) pa_nil))) (pe_tup (pa_cons pe_str (pa_cons (pe_un un_neg pe_int) pa_nil))) (nomark _)))))
        (pss_one (ps_ret pe_bl))
        pss_nil)
      (pss_one (ps_if (PW.pt (pw_or (pt_cmpR (op_neD hr.units) (pe_call G_lpairs (hr.mono (by decide)) rfl m_lpairs k_lpairs b_lpairs .nil pass0 (pa_cons (pe_prop (pv 7) TR.cl PG G_rget (hr.mono (by decide)) b_rget .nil pass0 rfl) (pa_cons (pv 1) pa_nil))) (pv 3) (nomark _)) (pw_or1 (pt_cmpR (op_neD hr.units) (pe_call G_lpairs (hr.mono (by decide)) rfl m_lpairs k_lpairs b_lpairs .nil pass0 (pa_cons (pe_prop (pv 8) TR.cl PG G_rget (hr.mono (by decide)) b_rget .nil pass0 rfl) (pa_cons (pv 1) pa_nil))) (pv 3) (nomark _)))))
        (pss_one (ps_ret pe_bl))
        pss_nil))))
      (pss_cons (ps_if (pt_cmpR (op_neD hr.units) (pe_call G_added (hr.mono (by decide)) rfl m_added k_added b_added .nil pass0 (pa_cons (pv 8) (pa_cons (pe_op op_rep (pe_lst (pa_cons pe_int pa_nil)) (pe_op op_sub pe_int (pe_callB call_len_seq (by rfl) B.b_len (by decide +kernel) (pa_cons (pv 3) pa_nil)))) pa_nil))) (pe_tup (pa_cons pe_str (pa_cons (pe_un un_neg pe_int) pa_nil))) (nomark _))
        (pss_one (ps_ret pe_bl))
        pss_nil)
      (pss_cons (ps_set (i := 10) sc_law.nd rfl (Or.inl rfl) (pe_call G_due (hr.mono (by decide)) rfl m_due k_due b_due .nil pass0 (pa_cons (pv 6) (pa_cons (pv 4) (pa_cons pe_int pa_nil)))))
      (C8.pss_cut (ps_if (PW.pt (pw_or (pt_cmpR (op_neD hr.units) (pe_call G_set (hr.mono (by decide)) rfl m_set k_set b_set .nil pass0 (pa_cons (pv 7) (pa_cons (pv 5) pa_nil))) (pv 10) (nomark _)) (pw_or1 (PW.pt (pw_and (pt_cmpR op_ne (pe_ix ix_tup (pv 10) pe_int (fun _ _ => rfl)) pe_str (nomark _)) (pw_and1 (pt_cmpR (op_neD hr.units) (pe_call G_lpairs (hr.mono (by decide)) rfl m_lpairs k_lpairs b_lpairs .nil pass0 (pa_cons (pe_prop (pv 7) TR.cl PG G_rget (hr.mono (by decide)) b_rget .nil pass0 rfl) (pa_cons (pv 1) pa_nil))) (pv 3) (nomark _))))))))
        (pss_one (ps_ret pe_bl))
        pss_nil)
      (C8.pss_cut (ps_if (PW.pt (pw_and (pt_cmpR op_eq (pe_ix ix_tup (pv 10) pe_int (fun _ _ => rfl)) pe_str (nomark _)) (pw_and1 (pt_cmpR (op_neD hr.units) (pe_call G_lpairs (hr.mono (by decide)) rfl m_lpairs k_lpairs b_lpairs .nil pass0 (pa_cons (pe_prop (pv 7) TR.cl PG G_rget (hr.mono (by decide)) b_rget .nil pass0 rfl) (pa_cons (pv 1) pa_nil))) (pv 4) (nomark _)))))
        (pss_one (ps_ret pe_bl))
        pss_nil)
      (pss_cons (ps_set (i := 10) sc_law.nd rfl (Or.inl rfl) (pe_call G_due (hr.mono (by decide)) rfl m_due k_due b_due .nil pass0 (pa_cons (pv 6) (pa_cons (pv 4) (pa_cons (pe_callB call_len_seq (by rfl) B.b_len (by decide +kernel) (pa_cons (pv 3) pa_nil)) pa_nil)))))
      (C8.pss_cut (ps_if (pt_cmpR (op_neD hr.units) (pe_call G_added (hr.mono (by decide)) rfl m_added k_added b_added .nil pass0 (pa_cons (pv 8) (pa_cons (pe_callTy call_tuple_of (by rfl) B.b_tuple (by decide +kernel) (pa_cons (pv 5) pa_nil)) pa_nil))) (pv 10) (nomark _))
        (pss_one (ps_ret pe_bl))
        pss_nil)
      (pss_cons (ps_set (i := 11) sc_law.nd rfl (Or.inl rfl) (pe_callTy call_list_of (by rfl) B.b_list (by decide +kernel) (pa_cons (pv 3) pa_nil)))
      (C8.pss_cut (ps_if (pt_cmpR op_eq (pe_ix ix_tup (pv 10) pe_int (fun _ _ => rfl)) pe_str (nomark _))
        (pss_one (ps_set (i := 11) sc_law.nd rfl (Or.inl rfl) (pe_op op_cat (pv 11) (pv 4))))
        pss_nil)
      (pss_cons (ps_expr (pe_bm0 PySem.F.plainAttrs_list PySem.F.slot_list_clear PySem.F.type_list_clear mt_clear (pv 5)))
      (pss_cons (ps_if (PW.pt (pw_or (pt_cmpR (op_neD hr.units) (pe_call G_lpairs (hr.mono (by decide)) rfl m_lpairs k_lpairs b_lpairs .nil pass0 (pa_cons (pe_prop (pv 8) TR.cl PG G_rget (hr.mono (by decide)) b_rget .nil pass0 rfl) (pa_cons (pv 1) pa_nil))) (pv 11) (nomark _)) (pw_or1 (pt_cmpR op_ne (pe_callB (call_lenO O_rlen G_rlen (hr.mono (by decide)) b_rlen pass0) (by rfl) B.b_len (by decide +kernel) (pa_cons (pv 8) pa_nil)) (pe_callB call_len_seq (by rfl) B.b_len (by decide +kernel) (pa_cons (pv 11) pa_nil)) (nomark _)))))
        (pss_one (ps_ret pe_bl))
        pss_nil)
      (pss_one (ps_ret (pe_or (pe_cmpR op_eq (pe_callB call_len_seq (by rfl) B.b_len (by decide +kernel) (pa_cons (pv 11) pa_nil)) pe_int (nomark _)) (pe_one (pe_cmpR (op_eqD hr.units) (pe_call G_spairs (hr.mono (by decide)) rfl m_spairs k_spairs b_spairs .nil pass0 (pa_cons (pe_meth0 (E := fun _ _ _ => False) (pv 8) TR.cl Me_rser G_rser (hr.mono (by decide)) b_rser .nil passL) (pa_cons (pv 1) pa_nil))) (pv 11) (nomark _))))))))))))))))))))))))))), ?_⟩
    have e24 : (sizeLine : Nat) = 16777216 := sizeLine_eq
    refine ⟨_, rfl, scr, ns, 0, rfl, hS, by decide, by decide, fun st0 H1 hn0 S0 s1 => ⟨st0, 0, rfl, S0, by decide, fun p H2 hg S2 B2 => ?_⟩⟩
    have sH2 : Same H H2 := fun a o h => B2 _ _ (s1 _ _ h) fun e => by
      rw [e, hn0] at h
      cases h
    refine ⟨_, rfl, scr, ns, 1, rfl, Same.seq sH2 hS, by decide, by decide, fun st H3 hst S3 s3 => ?_⟩
    -- the row to begin with
    refine ⟨_, rfl, st, 6, 0, rfl, by decide, by decide, S3, by decide, fun n H4 n0 n6 S4 B4 => ?_⟩
    obtain ⟨n, rfl⟩ := Int.eq_ofNat_of_zero_le n0
    refine ⟨(n : Int), rfl, by omega, by omega, fun S hSn => ?_⟩
    have neS : S ≠ st := S4.ne hSn
    refine lc_range (lo := 0) (n := n) (fun i H' => ∃ (vs : List V) (prs : List (Int × Int)), StrAt H' st (1 + i) ∧ But st H4 H' ∧ H' S = some (.lst vs) ∧ RowV H' vs prs ∧ prs.length = i ∧ ∀ a ∈ prs, SP p a) ?_ ?_ ?_
    · exact ⟨[], [], S4.updL neS, (But.refl st H4).new hSn, upd_same, RowV.nil, rfl, fun a h => by cases h⟩
    · rintro i H5 hi ⟨vs, prs, S5, B5, h5, r5, l5, ok5⟩
      refine ⟨rfl, _, rfl, _, rfl, st, p, 1 + i, rfl, S5, by omega, hg, fun q a H6 S6 B6 hq ok => ?_⟩
      have h6 := B6 _ _ h5 neS
      refine ⟨vs, h6, by have := r5.len; omega, vs ++ [.ref q], prs ++ [a], ?_, ?_, upd_same, ((S5.row B6 r5).snoc hq).upd h6, by simp [l5], ?_⟩
      · exact S6.updL neS
      · exact fun c o hc nc => (upd_ne (ne_of_none hc hSn)).trans ((B5.trans B6) c o hc nc)
      · intro b hb
        rcases List.mem_append.mp hb with hb | hb
        · exact ok5 b hb
        · rw [List.mem_singleton.mp hb]
          exact ok
    rintro H5 ⟨vs5, prs5, S5, B5, h5, r5, l5, ok5⟩
    have lv5 := r5.len
    refine ⟨fun σ H' => ∃ prs m, σ = [some (.ref scr), some (.int p), some (.ref st), some (.ref S), none, none, none, none, none, none, none, none, none] ∧ StrAt H' st m ∧ m ≤ 20 ∧ RowAt H' S prs ∧ (∀ a ∈ prs, SP p a) ∧ (prs = [] ∨ ∃ a r, prs = a :: r ∧ a.1 ≠ 0) ∧ prs.length ≤ 5, ?_, ?_⟩
    · refine ⟨_, rfl, S, vs5, rfl, .inl (SqL.of h5), _, _, rfl, rfl, _, rfl, ?_⟩
      by_cases c : 0 < prs5.length
      · refine itD (decide_eq_true (by omega)) ?_
        have l0 : 0 < vs5.length := by omega
        obtain ⟨q, eq, hq⟩ := r5.at_ 0 _ _ (List.getElem?_eq_getElem l0) (List.getElem?_eq_getElem c)
        have hv0 : atI vs5 0 = some (.ref q) := by
          rw [← eq]
          exact at_of (j := 0) (by rfl) (List.getElem?_eq_getElem l0)
        refine ⟨_, rfl, _, _, _, _, rfl, rfl, SqL.of h5, hv0, q, _, rfl, hq, fun q' H6 s6 hq' => ?_⟩
        have h6 := s6 _ _ h5
        refine ⟨_, rfl, S, vs5, 0, 0, rfl, rfl, h6, ix_ok (by decide) (by omega), ?_⟩
        refine ⟨prs5.set 0 (nonzP prs5[0]), _, rfl, (S5.same s6).updL neS, (by omega : 1 + n ≤ 20), ⟨_, upd_same, ((r5.same s6).set hq' 0).upd h6⟩, fun a ha => ?_, .inr ?_, by rw [List.length_set]; omega⟩
        · rcases List.mem_or_eq_of_mem_set ha with ha | rfl
          · exact ok5 a ha
          · exact sp_nonz hg (ok5 _ (List.getElem_mem c))
        · cases prs5 with
          | nil => cases c
          | cons b r => exact ⟨nonzP b, r, rfl, nonz_ne b⟩
      · refine itDn (fun z => c (by have := of_decide_eq_true z; omega)) ?_
        have z : prs5 = [] := List.eq_nil_of_length_eq_zero (by omega)
        exact ⟨prs5, _, rfl, S5, by omega, ⟨vs5, h5, r5⟩, ok5, .inl z, by omega⟩
    rintro σ H6 ⟨prs, m, rfl, S6, lm, ⟨vs6, h6, r6⟩, sp, wf, l5'⟩
    -- the numbers to go on with
    refine ⟨_, rfl, st, 7, m, rfl, by decide, by decide, S6, by omega, fun n2 H7 n20 n27 S7 B7 => ?_⟩
    obtain ⟨n2, rfl⟩ := Int.eq_ofNat_of_zero_le n20
    refine ⟨(n2 : Int), rfl, by omega, by omega, fun M hMn => ?_⟩
    have neM : M ≠ st := S7.ne hMn
    refine lc_range (lo := 0) (n := n2) (fun i H' => ∃ (vs : List V) (prs : List (Int × Int)), StrAt H' st (m + 1 + i) ∧ But st H7 H' ∧ H' M = some (.lst vs) ∧ RowV H' vs prs ∧ prs.length = i ∧ ∀ a ∈ prs, SP p a) ?_ ?_ ?_
    · exact ⟨[], [], S7.updL neM, (But.refl st H7).new hMn, upd_same, RowV.nil, rfl, fun a h => by cases h⟩
    · rintro i H8 hi ⟨vs, prs, S8, B8, h8, r8, l8, ok8⟩
      refine ⟨rfl, _, rfl, _, rfl, st, p, m + 1 + i, rfl, S8, by omega, hg, fun q a H9 S9 B9 hq ok => ?_⟩
      have h9 := B9 _ _ h8 neM
      refine ⟨vs, h9, by have := r8.len; omega, vs ++ [.ref q], prs ++ [a], ?_, ?_, upd_same, ((S8.row B9 r8).snoc hq).upd h9, by simp [l8], ?_⟩
      · exact S9.updL neM
      · exact fun c o hc nc => (upd_ne (ne_of_none hc hMn)).trans ((B8.trans B9) c o hc nc)
      · intro b hb
        rcases List.mem_append.mp hb with hb | hb
        · exact ok8 b hb
        · rw [List.mem_singleton.mp hb]
          exact ok
    rintro H8 ⟨vs8, more, S8, B8, h8, r8, l8, ok8⟩
    have B68 := B7.trans B8
    have raS8 : RowAt H8 S prs := ⟨vs6, B68 _ _ h6 neS, S6.row B68 r6⟩
    have raM8 : RowAt H8 M more := ⟨vs8, h8, r8⟩
    refine ⟨_, rfl, _, rfl, M, p, more, rfl, hg, raM8, ok8, by omega, fun G xs H9 s9 hGn hG gv => ?_⟩
    have neG : G ≠ st := S8.ne hGn
    have neSG : S ≠ G := ne_of_none raS8.choose_spec.1 hGn
    have neMG : M ≠ G := ne_of_none h8 hGn
    have S9 := S8.same s9
    refine ⟨_, rfl, st, 7, m + 1 + n2, rfl, by decide, by decide, S9, by omega, fun j H10 j0 j7 S10 B10 => ?_⟩
    obtain ⟨j, rfl⟩ := Int.eq_ofNat_of_zero_le j0
    obtain ⟨i9, c9, k9, b9, hst9, _⟩ := id S9
    have raS10 : RowAt H10 S prs := by
      obtain ⟨ws, e, r⟩ := raS8.same s9
      exact ⟨ws, B10 _ _ e neS, S9.row B10 r⟩
    have raM10 : RowAt H10 M more := by
      obtain ⟨ws, e, r⟩ := raM8.same s9
      exact ⟨ws, B10 _ _ e neM, S9.row B10 r⟩
    have hG10 := B10 _ _ hG neG
    have gv10 := gv.butL hst9 B10
    have lxs := gv.len
    rw [List.length_map] at lxs
    clear raS8 raM8 gv
    refine ⟨fun σ H' => σ = [some (.ref scr), some (.int p), some (.ref st), some (.ref S), some (.ref M), some (.ref G), some (.int (j : Int)), none, none, none, none, none, none] ∧ RowAt H' S prs ∧ RowAt H' M more ∧ ∃ zs, H' G = some (.lst zs) ∧ GL K C H' p zs more j, ?_, ?_⟩
    · refine ⟨_, rfl, _, rfl, G, xs, rfl, .inl (SqL.of hG10), _, _, rfl, rfl, _, rfl, ?_⟩
      by_cases c : j < more.length
      · refine itD (decide_eq_true (by omega)) ?_
        refine ⟨(by show 1 ≤ sizeLine; decide), fun a1 ha1 => ⟨(by show 4 ≤ sizeLine; decide), fun a4 ha4 => ?_⟩⟩
        have sa := same_new (o := .lst [.int 1]) (Same.refl H10) ha1
        have ha1' : upd H10 a1 (.lst [.int 1]) a1 = some (.lst [.int 1]) := upd_same
        generalize upd H10 a1 (.lst [.int 1]) = Ha at *
        have sb := same_new (o := .lst [V.non, V.str "1", V.bl true, V.ref a1]) (Same.refl Ha) ha4
        have ha4' : upd Ha a4 (.lst [V.non, V.str "1", V.bl true, V.ref a1]) a4 = some (.lst [V.non, V.str "1", V.bl true, V.ref a1]) := upd_same
        have ha1b := sb _ _ ha1'
        have sab := sa.trans sb
        have n4 : a4 ≠ st := (S10.same sa).ne ha4
        have n1 : a1 ≠ st := S10.ne ha1
        generalize upd Ha a4 (.lst [V.non, V.str "1", V.bl true, V.ref a1]) = Hb at *
        have Sb := S10.same sab
        refine ⟨_, rfl, st, 4, m + 1 + n2 + 1, rfl, by decide, by decide, Sb, by omega, fun t Hc t0 t4 Sc Bc => ?_⟩
        obtain ⟨v, hv, bd⟩ := bad_at a1 t0 t4
        have n1G : a1 ≠ G := (ne_of_none hG10 ha1).symm
        refine ⟨a4, _, _, _, rfl, rfl, SqL.of (Bc _ _ ha4' n4), hv, ?_⟩
        have hGc := Bc _ _ (sab _ _ hG10) neG
        refine ⟨_, rfl, _, rfl, G, xs, (j : Int), j, rfl, rfl, hGc, ix_ok (by omega) (by omega), ?_⟩
        obtain ⟨ib, cb, kb, bb, hstb, _⟩ := id Sb
        have gc := (gv10.same sab).butL hstb Bc
        refine ⟨rfl, ?_, ?_, _, upd_same, xs, Givs.updl hGc gc, .inl ⟨c, v, bd _ ((upd_ne n1G).trans (Bc _ _ ha1b n1)), rfl⟩⟩
        · obtain ⟨ws, e, r⟩ := raS10.same sab
          exact RowAt.updl neSG hGc ⟨ws, Bc _ _ e neS, Sb.row Bc r⟩
        · obtain ⟨ws, e, r⟩ := raM10.same sab
          exact RowAt.updl neMG hGc ⟨ws, Bc _ _ e neM, Sb.row Bc r⟩
      · refine itDn (fun z => c (by have := of_decide_eq_true z; omega)) ?_
        exact ⟨rfl, raS10, raM10, xs, hG10, xs, gv10, .inr ⟨by omega, rfl⟩⟩
    rintro σ H11 ⟨rfl, raS, raM, xs2, hG11, gl⟩
    clear raS10 raM10 hG10 gv10 S6 S7 S8 S9 S10 B7 B8 B10 B68 r6 r8 h6 h8 hst9
    -- two readers
    refine ⟨_, rfl, _, rfl, S, p, prs, rfl, hg, raS, sp, wf, by omega, fun one H12 s12 hone R1 => ?_⟩
    refine ⟨_, rfl, _, rfl, S, p, prs, rfl, hg, raS.same s12, sp, wf, by omega, fun oth H13 s13 hoth R2 => ?_⟩
    have nOO : one ≠ oth := fun e => by
      obtain ⟨_, _, _, hx⟩ := R1.ob
      rw [e, hoth] at hx
      cases hx
    have s113 := s12.trans s13
    have R1' := R1.same s13
    have raS3 := raS.same s113
    have raM3 := raM.same s113
    have hG3 := s113 _ _ hG11
    have gl3 := gl.same s113
    clear R1 raS raM hG11 gl
    -- what is no row
    refine ⟨(by show 1 ≤ sizeLine; decide), fun a1 ha1 => ⟨a1, 33, [.int 1], rfl, rfl, upd_same, by decide, by decide, by decide, fun L hL => ⟨(by show 4 ≤ sizeLine; decide), fun T hT => ?_⟩⟩⟩
    have sT : Same H13 (upd (upd (upd H13 a1 (.lst [.int 1])) L (.lst (List.replicate (Int.toNat 33) [V.int 1]).flatten)) T (.lst [.non, .str "ab", .int 3, .ref L])) := same_new (same_new (same_new (Same.refl _) ha1) hL) hT
    have hT1 : (upd (upd (upd H13 a1 (.lst [.int 1])) L (.lst (List.replicate (Int.toNat 33) [V.int 1]).flatten)) T (.lst [.non, .str "ab", .int 3, .ref L])) T = some (.lst [.non, .str "ab", .int 3, .ref L]) := upd_same
    have hL1 : (upd (upd (upd H13 a1 (.lst [.int 1])) L (.lst (List.replicate (Int.toNat 33) [V.int 1]).flatten)) T (.lst [.non, .str "ab", .int 3, .ref L])) L = some (.lst (List.replicate 33 (V.int 1))) := (upd_ne (ne_of_none upd_same hT)).trans (by rw [rep_one]; exact upd_same)
    generalize upd (upd (upd H13 a1 (.lst [.int 1])) L (.lst (List.replicate (Int.toNat 33) [V.int 1]).flatten)) T (.lst [.non, .str "ab", .int 3, .ref L]) = H14 at *
    refine ⟨T, rfl, ⟨_, SqL.of hT1⟩, ?_⟩
    refine for_list (xs := [.non, .str "ab", .int 3, .ref L]) (fun i σ H' => ∃ z, σ = [some (.ref scr), some (.int p), some (.ref st), some (.ref S), some (.ref M), some (.ref G), some (.int (j : Int)), some (.ref one), some (.ref oth), z, none, none, none] ∧ Same H14 H') ?_ ?_ ?_ ?_
    · exact ⟨none, rfl, Same.refl _⟩
    · rintro i σ H' _ ⟨z, _, s⟩
      exact SqL.of (s _ _ hT1)
    · rintro i v σ H15 hv ⟨z, rfl, s15⟩
      have sA := sT.trans s15
      obtain ⟨xr, ar⟩ := thing_at (K := K) (C := C) (CRd := CRd) (H := H15) (p := p) (m := prs.length) KR (s15 _ _ hL1) (by simp) hv
      refine ⟨_, rfl, _, rfl, one, v, p, prs, _, rfl, R1'.same sA, hg, xr, fun n e q1 H16 s16 hq1 => ?_, fun qs e => by cases e⟩
      refine ⟨_, rfl, (by show 2 ≤ sizeLine; decide), fun t1 ht1 => ?_⟩
      refine ne_told (g := .inl (-1)) (same_new (Same.refl _) ht1 _ _ hq1) upd_same ⟨_, rfl, iteF ?_⟩
      have sC := same_new (o := .tup [.str "refused noseries", .int (-1)]) s16 ht1
      generalize upd H16 t1 (.tup [V.str "refused noseries", V.int (-1)]) = H17 at *
      refine ⟨_, rfl, _, rfl, oth, v, p, prs, _, rfl, R2.same (sT.trans (s15.trans sC)), hg, ar.same sC, fun n e q2 H18 s18 hq2 => ?_, fun qs e => by cases e⟩
      refine ⟨_, rfl, (by show 2 ≤ sizeLine; decide), fun t2 ht2 => ?_⟩
      refine ne_told (g := .inl (-1)) (same_new (Same.refl _) ht2 _ _ hq2) upd_same ⟨_, rfl, iteF ?_⟩
      have sD := (s15.trans sC).trans (same_new (o := .tup [.str "refused noseries", .int (-1)]) s18 ht2)
      generalize upd H18 t2 (.tup [V.str "refused noseries", V.int (-1)]) = H19 at *
      have RA := R1'.same (sT.trans sD)
      obtain ⟨dA, fA, cA, hA⟩ := RA.ob
      refine ⟨_, rfl, one, dA, _, rfl, hA, one, p, prs, rfl, RA, fun ct ys hc fn => ?_⟩
      refine ⟨_, rfl, p, ct, ys, prs, rfl, hg, hc, fn, by have := fn.len; omega, fun l' Hn sn ra => ?_⟩
      refine ⟨_, rfl, ne_row ra ((raS3.same (sT.trans sD)).same sn) ⟨_, rfl, iteF ?_⟩⟩
      have RB := R2.same ((sT.trans sD).trans sn)
      obtain ⟨dB, fB, cB, hB⟩ := RB.ob
      refine ⟨_, rfl, oth, dB, _, rfl, hB, oth, p, prs, rfl, RB, fun ct ys hc fn => ?_⟩
      refine ⟨_, rfl, p, ct, ys, prs, rfl, hg, hc, fn, by have := fn.len; omega, fun l' Hm sm ra => ?_⟩
      refine ⟨_, rfl, ne_row ra ((raS3.same ((sT.trans sD).trans sn)).same sm) ⟨_, rfl, iteF ?_⟩⟩
      exact ⟨some v, rfl, (sD.trans sn).trans sm⟩
    rintro σ H15 ⟨z9, rfl, s15⟩
    have sE := sT.trans s15
    have R1 := R1'.same sE
    have R2' := R2.same sE
    have raS := raS3.same sE
    have raM := raM3.same sE
    have hG := sE _ _ hG3
    have gl := gl3.same sE
    clear R1' R2 raS3 raM3 hG3 gl3 sE sT s15 hT1 hL1
    -- too many
    obtain ⟨vsS, hvS, rvS⟩ := id raS
    have lvS := rvS.len
    refine ⟨_, rfl, (by show 1 ≤ sizeLine; decide), fun a2 ha2 => ?_⟩
    have sF := same_new (o := .lst [.int 1]) (Same.refl H15) ha2
    refine ⟨_, rfl, S, vsS, rfl, .inl (SqL.of (sF _ _ hvS)), _, _, rfl, rfl, a2, _, [.int 1], rfl, rfl, upd_same, by omega, by omega, ?_, fun L2 hL2 => ?_⟩
    · show 1 * (33 - (vsS.length : Int)).toNat ≤ sizeLine
      omega
    have sG := sF.trans (same_new (o := .lst (List.replicate (33 - (vsS.length : Int)).toNat [V.int 1]).flatten) (Same.refl _) hL2)
    have hL22 : upd (upd H15 a2 (.lst [.int 1])) L2 (.lst (List.replicate (33 - (vsS.length : Int)).toNat [V.int 1]).flatten) L2 = some (.lst (List.replicate (33 - (vsS.length : Int)).toNat (V.int 1))) := by
      rw [rep_one]
      exact upd_same
    generalize upd (upd H15 a2 (.lst [.int 1])) L2 (.lst (List.replicate (33 - (vsS.length : Int)).toNat [V.int 1]).flatten) = H16 at *
    refine ⟨oth, _, p, prs, _, rfl, R2'.same sG, hg, .long (.inl hL22) (by rw [List.length_replicate]; omega), fun n e q1 H17 s17 hq1 => ?_, fun qs e => by cases e⟩
    refine ⟨_, rfl, (by show 2 ≤ sizeLine; decide), fun t1 ht1 => ?_⟩
    refine ne_told (g := .inl (-1)) (same_new (Same.refl _) ht1 _ _ hq1) upd_same ⟨_, rfl, iteF ?_⟩
    have sH := sG.trans (same_new (o := .tup [.str "refused noseries", .int (-1)]) s17 ht1)
    generalize upd H17 t1 (.tup [V.str "refused noseries", V.int (-1)]) = H18 at *
    -- all numbers replaced
    refine ⟨_, rfl, _, rfl, (j : Int), M, more, 0, rfl, raM.same sH, by omega, fun D1 H19 s19 hD1 => ?_⟩
    rw [due_set] at hD1
    have sI := sH.trans s19
    have R1i := R1.same sI
    have R2i := R2'.same sI
    have raSi := raS.same sI
    have raMi := raM.same sI
    have hGi := sI _ _ hG
    have gli := gl.same sI
    clear R1 R2' raS raM hG gl sG sH sF hL22 hvS rvS lvS
    obtain ⟨d1, f1, c1, hx1⟩ := R1i.ob
    have key : ∀ H', Same H19 H' ∨ But one H19 H' → But one H19 H' := fun H' h => h.elim Same.but id
    refine ⟨fun σ H' => σ = [some (.ref scr), some (.int p), some (.ref st), some (.ref S), some (.ref M), some (.ref G), some (.int (j : Int)), some (.ref one), some (.ref oth), z9, some (.ref D1), none, none] ∧ But one H19 H' ∧ ∃ ps, Rdr C CRr CF H' one p ps ∧ (∀ n, setG j more = .inl n → ps = prs) ∧ (∀ qs, setG j more = .inr qs → ps = qs), ?_, ?_⟩
    · refine ⟨_, rfl, _, rfl, one, .ref G, p, prs, _, rfl, R1i, hg, gli.xrow Z Z3 KR hGi (by omega), fun n e q1 H20 s20 hq1 => ?_, fun qs e q1 H20 b20 R20 hq1 => ?_⟩
      · refine ⟨_, rfl, ne_told hq1 (s20 _ _ hD1) ⟨_, rfl, iteF ?_⟩⟩
        have hD2 := s20 _ _ hD1
        rw [e] at hD2
        refine ⟨_, rfl, _, _, _, _, rfl, rfl, SqT.of hD2, rfl, rfl, _, rfl, itD (by decide) ?_⟩
        have RA := R1i.same s20
        obtain ⟨dA, fA, cA, hA⟩ := RA.ob
        refine ⟨_, rfl, one, dA, _, rfl, hA, one, p, prs, rfl, RA, fun ct ys hc fn => ?_⟩
        refine ⟨_, rfl, p, ct, ys, prs, rfl, hg, hc, fn, by have := fn.len; omega, fun l' Hn sn ra => ?_⟩
        refine ⟨_, rfl, ne_row ra ((raSi.same s20).same sn) ⟨_, rfl, iteF ?_⟩⟩
        exact ⟨rfl, Same.but (s20.trans sn), prs, RA.same sn, fun _ _ => rfl, (fun qs z => by rw [e] at z; cases z)⟩
      · refine ⟨_, rfl, ne_told hq1 (but_tup hx1 b20 hD1) ⟨_, rfl, iteF ?_⟩⟩
        have hD2 := but_tup hx1 b20 hD1
        rw [e] at hD2
        refine ⟨_, rfl, _, _, _, _, rfl, rfl, SqT.of hD2, rfl, rfl, _, rfl, itDn (by decide) ?_⟩
        exact ⟨rfl, b20, qs, R20, (fun n z => by rw [e] at z; cases z), (fun rs z => by rw [e] at z; cases z; rfl)⟩
    rintro σ H20 ⟨rfl, b20, ps, R20, pl, pr⟩
    refine ⟨fun σ H' => σ = [some (.ref scr), some (.int p), some (.ref st), some (.ref S), some (.ref M), some (.ref G), some (.int (j : Int)), some (.ref one), some (.ref oth), z9, some (.ref D1), none, none] ∧ But one H19 H', ?_, ?_⟩
    · have hD2 := but_tup hx1 b20 hD1
      cases e : setG j more with
      | inl n =>
        rw [e] at hD2
        exact ⟨_, rfl, _, _, _, _, rfl, rfl, SqT.of hD2, rfl, rfl, _, rfl, itDn (by decide) ⟨rfl, b20⟩⟩
      | inr qs =>
        rw [e] at hD2
        have e1 := pr qs e
        have e2 := setG_more e
        subst e2
        subst e1
        refine ⟨_, rfl, _, _, _, _, rfl, rfl, SqT.of hD2, rfl, rfl, _, rfl, itD (by decide) ?_⟩
        obtain ⟨dA, fA, cA, hA⟩ := R20.ob
        refine ⟨_, rfl, one, dA, _, rfl, hA, one, p, ps, rfl, R20, fun ct ys hc fn => ?_⟩
        refine ⟨_, rfl, p, ct, ys, ps, rfl, hg, hc, fn, by have := fn.len; omega, fun l' Hn sn ra => ?_⟩
        refine ⟨_, rfl, ne_row ra ((raMi.butI hx1 b20).same sn) ⟨_, rfl, iteF ?_⟩⟩
        exact ⟨rfl, b20.trans (Same.but sn)⟩
    rintro σ H21 ⟨rfl, b21⟩
    have R2j := R2i.butR hx1 b21 nOO.symm
    have raSj := raSi.butI hx1 b21
    have raMj := raMi.butI hx1 b21
    have hGj := but_lst hx1 b21 hGi
    have glj := gli.butR hx1 b21
    clear R1i R2i raSi raMi hGi gli R20 pl pr b20 hD1 sI
    -- the numbers added
    obtain ⟨vsT, hvT, rvT⟩ := id raSj
    have lvT := rvT.len
    refine ⟨_, rfl, _, rfl, _, rfl, S, vsT, rfl, .inl (SqL.of hvT), (j : Int), M, more, (vsT.length : Int), rfl, raMj, by omega, fun D2 H22 s22 hD2 => ?_⟩
    rw [lvT, due_add j more wf] at hD2
    have R2k := R2j.same s22
    have raSk := raSj.same s22
    have raMk := raMj.same s22
    have hGk := s22 _ _ hGj
    have glk := glj.same s22
    clear R2j raSj raMj hGj glj hvT rvT lvT
    obtain ⟨d2, f2, c2, hx2⟩ := R2k.ob
    refine ⟨fun σ H' => σ = [some (.ref scr), some (.int p), some (.ref st), some (.ref S), some (.ref M), some (.ref G), some (.int (j : Int)), some (.ref one), some (.ref oth), z9, some (.ref D2), none, none] ∧ But oth H22 H' ∧ ∃ ps, Rdr C CRr CF H' oth p ps ∧ (∀ n, addG prs (arG j more) = .inl n → ps = prs) ∧ (∀ qs, addG prs (arG j more) = .inr qs → ps = qs), ?_, ?_⟩
    · refine ⟨_, rfl, _, rfl, G, xs2, rfl, .inl ⟨SqL.of hGk, fun U hU => ?_⟩⟩
      have sU := same_new (o := .tup xs2) (Same.refl H22) hU
      have hUU : upd H22 U (.tup xs2) U = some (.tup xs2) := upd_same
      generalize upd H22 U (.tup xs2) = H23 at *
      refine ⟨oth, .ref U, p, prs, _, rfl, R2k.same sU, hg, (glk.same sU).arow Z Z3 (.inr hUU) (by omega), fun n e q1 H24 s24 hq1 => ?_, fun qs e q1 H24 b24 R24 hq1 => ?_⟩
      · refine ⟨_, rfl, ne_told hq1 (s24 _ _ (sU _ _ hD2)) ⟨_, rfl, iteF ?_⟩⟩
        exact ⟨rfl, Same.but (sU.trans s24), prs, (R2k.same sU).same s24, fun _ _ => rfl, (fun qs z => by rw [e] at z; cases z)⟩
      · refine ⟨_, rfl, ne_told hq1 (but_tup (sU _ _ hx2) b24 (sU _ _ hD2)) ⟨_, rfl, iteF ?_⟩⟩
        exact ⟨rfl, (Same.but sU).trans b24, qs, R24, (fun n z => by rw [e] at z; cases z), (fun rs z => by rw [e] at z; cases z; rfl)⟩
    rintro σ H23 ⟨rfl, b23, ps, R23, pl, pr⟩
    have raSl := raSk.butI hx2 b23
    have raMl := raMk.butI hx2 b23
    have hGl := but_lst hx2 b23 hGk
    have hDl := but_tup hx2 b23 hD2
    clear R2k raSk raMk hGk glk hD2
    obtain ⟨vsV, hvV, rvV⟩ := id raSl
    refine ⟨_, rfl, S, vsV, rfl, .inl (SqL.of hvV), fun Lh hLh => ?_⟩
    have sV := same_new (o := .lst vsV) (Same.refl H23) hLh
    have hLV : upd H23 Lh (.lst vsV) Lh = some (.lst vsV) := upd_same
    generalize upd H23 Lh (.lst vsV) = H24 at *
    have neLG : Lh ≠ G := (ne_of_none hGl hLh).symm
    have l32 : ps.length ≤ 32 := by
      obtain ⟨_, _, _, _, R⟩ := R23
      exact R.l32
    refine ⟨fun σ H' => ∃ Lf, σ = [some (.ref scr), some (.int p), some (.ref st), some (.ref S), some (.ref M), some (.ref G), some (.int (j : Int)), some (.ref one), some (.ref oth), z9, some (.ref D2), some (.ref Lf), none] ∧ Same H24 H' ∧ Lf ≠ G ∧ RowAt H' Lf ps, ?_, ?_⟩
    · have hD3 := sV _ _ hDl
      cases e : addG prs (arG j more) with
      | inl n =>
        rw [e] at hD3
        refine ⟨_, rfl, _, _, _, _, rfl, rfl, SqT.of hD3, rfl, rfl, _, rfl, itDn (by decide) ?_⟩
        rw [pl n e]
        exact ⟨Lh, rfl, Same.refl _, neLG, vsV, hLV, rvV.same sV⟩
      | inr qs =>
        rw [e] at hD3
        have e1 := pr qs e
        have e2 := addG_more e
        refine ⟨_, rfl, _, _, _, _, rfl, rfl, SqT.of hD3, rfl, rfl, _, rfl, itD (by decide) ?_⟩
        obtain ⟨vsM, hvM, rvM⟩ := raMl.same sV
        have l1 := rvV.len
        have l2 := rvM.len
        refine ⟨_, rfl, _, rfl, Lh, M, vsV, vsM, rfl, rfl, hLV, hvM, by omega, fun Lf hLf => ?_⟩
        have sf := same_new (o := .lst (vsV ++ vsM)) (Same.refl H24) hLf
        refine ⟨Lf, rfl, sf, (ne_of_none (sV _ _ hGl) hLf).symm, vsV ++ vsM, upd_same, ?_⟩
        rw [e1, e2]
        exact ((rvV.same sV).app rvM).same sf
    rintro σ H25 ⟨Lf, rfl, s25, neL, raL⟩
    have hG25 := s25 _ _ (sV _ _ hGl)
    have R25 := (R23.same sV).same s25
    -- the list is emptied
    refine ⟨_, rfl, .inl ⟨rfl, _, SqL.of hG25⟩, G, _, rfl, rfl, hG25, ?_⟩
    have R26 := R25.updl (o := .lst []) hG25
    have raL6 := RowAt.updl (o := .lst []) neL hG25 raL
    generalize upd H25 G (.lst []) = H26 at *
    obtain ⟨dA, fA, cA, hA⟩ := R26.ob
    refine ⟨_, rfl, oth, dA, _, rfl, hA, oth, p, ps, rfl, R26, fun ct ys hc fn => ?_⟩
    refine ⟨_, rfl, p, ct, ys, ps, rfl, hg, hc, fn, by have := fn.len; omega, fun l' Hn sn ra => ?_⟩
    refine ⟨_, rfl, ne_row ra (raL6.same sn) ⟨_, rfl, iteF ?_⟩⟩
    have R27 := R26.same sn
    obtain ⟨vsL, hvL, rvL⟩ := raL6.same sn
    have lvL := rvL.len
    obtain ⟨dB, fB, cB, hB⟩ := R27.ob
    refine ⟨_, rfl, oth, dB, _, rfl, hB, oth, p, ps, rfl, R27, ps.length, rfl, by omega, _, rfl, Lf, vsL, rfl, .inl (SqL.of hvL), rfl, _, rfl, ?_⟩
    rw [lvL]
    refine itDn (by simp) ?_
    refine ⟨_, rfl, Lf, vsL, rfl, .inl (SqL.of hvL), rfl, _, rfl, ?_⟩
    by_cases c : ps = []
    · refine itD (by simp [lvL, c]) (k _)
    · have n0 : 0 < ps.length := List.length_pos_iff.mpr c
      refine itDn (by simp [lvL]; exact c) ?_
      refine ⟨_, rfl, oth, dB, _, rfl, hB, rlf_no _ _ (by decide +kernel) (by decide +kernel), oth, p, ps, rfl, R27, hg, c, fun y H28 s28 ser => ?_⟩
      refine ⟨_, rfl, p, y, ps, rfl, hg, ser, by omega, fun l' H29 s29 ra' => ⟨_, rfl, eq_row ra' ?_ (k _)⟩⟩
      exact RowAt.same s29 (RowAt.same s28 ⟨vsL, hvL, rvL⟩)
end
end Sq

namespace Sq
open PySem PySem.Spec PyProof.Rows L2
theorem cls_some {K : PySem.W.Frag} {C : Addr} (h : PySem.W.hasDictIn K C = true) : (PySem.W.clsIn K C).isSome = true := by
  obtain ⟨cd, hc, _⟩ := PySem.W.any_some h
  rw [hc]
  rfl
theorem kit_own {K : PySem.W.Frag} {C : Addr} {t : Value} (h : PySem.W.hasDictIn K C = true) (ht : PySem.W.typeIn K (.ref C) = some (.type "type")) (hs : PySem.W.subIn K t (.ref C) = some true) : PySem.W.kitOne K t (.ref C) = some true := by
  unfold PySem.W.kitOne
  split
  · rfl
  · show (if ((PySem.W.clsIn K C).isSome && PySem.W.typeIn K (.ref C) == some (.type "type")) = true then PySem.W.subIn K t (.ref C) else none) = some true
    rw [cls_some h, ht]
    simpa using hs
theorem kit_tyo {K : PySem.W.Frag} {C : Addr} {T : String} {b : Bool} (h : PySem.W.hasDictIn K C = true) (ht : PySem.W.typeIn K (.ref C) = some (.type "type")) (hs : PySem.W.subIn K (.type T) (.ref C) = some b) : PySem.W.kitOne K (.type T) (.ref C) = some b := by
  unfold PySem.W.kitOne
  rw [if_neg (by simp)]
  show (if ((PySem.W.clsIn K C).isSome && PySem.W.typeIn K (.ref C) == some (.type "type")) = true then PySem.W.subIn K (.type T) (.ref C) else none) = some b
  rw [cls_some h, ht]
  simpa using hs
theorem kit_ty2 {K : PySem.W.Frag} {C : Addr} {T : String} {b : Bool} (hm : PySem.W.kitMeta T = true) (hs : PySem.W.subIn K (.ref C) (.type T) = some b) : PySem.W.kitOne K (.ref C) (.type T) = some b := by
  unfold PySem.W.kitOne
  rw [if_neg (by simp)]
  show (if PySem.W.kitMeta T = true then PySem.W.subIn K (.ref C) (.type T) else none) = some b
  rw [if_pos hm]
  exact hs
theorem ns_ok {K : PySem.W.Frag} {N : Addr} {oc : Value} {od : Option Addr} {es : Array DictEntry} {n : Nat} {sl : Array (Option Value)} (h : K.lookup N = some ⟨oc, od, .dict es n, sl⟩) (e : (es.toList.all fun e => match e.key with | .str _ _ => true | _ => false) = true) : PySem.W.nsOkIn K N = true := by
  unfold PySem.W.nsOkIn
  rw [h]
  rw [Array.all_toList] at e
  exact e
theorem tail0 {K : PySem.W.Frag} : PySem.W.tailIn K [.type "ValueError", .type "Exception", .type "BaseException", .type "object"] [.type "ValueError", .type "Exception", .type "BaseException", .type "object"] = true := by
  unfold PySem.W.tailIn
  simp
theorem tail1 {K : PySem.W.Frag} {C : Addr} {nm q : Str} {N : Addr} {bs bm : List Value} {sn : List Str} {sub : List Value} {ab : Bool} {col : Option Bool} {dd : Option Addr} {k0 k1 k2 k3 k5 : Option Value} {nw : String} (h : K.lookup C = some (excClassObj nm q C N bs bm true sn sub ab col dd k0 k1 k2 k3 k5 nw)) (ok : PySem.W.nsOkIn K N = true) (ni : PySem.W.nsIn K N "__init__" = some none) :
    PySem.W.tailIn K [.type "ValueError", .type "Exception", .type "BaseException", .type "object"] [.ref C, .type "ValueError", .type "Exception", .type "BaseException", .type "object"] = true := by
  unfold PySem.W.tailIn
  dsimp only
  rw [h]
  show (_ || (PySem.W.nsOkIn K N && PySem.W.nsIn K N "__init__" == some none && PySem.W.tailIn K _ _)) = true
  rw [ok, ni, tail0]
  simp
theorem exc_in {K : PySem.W.Frag} {C : Addr} {nm q : Str} {N : Addr} {bs bm bmB : List Value} {sn : List Str} {sub : List Value} {ab : Bool} {col : Option Bool} {dd : Option Addr} {k0 k1 k2 k3 k5 : Option Value} {nw : String} (h : K.lookup C = some (excClassObj nm q C N bs bm true sn sub ab col dd k0 k1 k2 k3 k5 nw)) (ok : PySem.W.nsOkIn K N = true) (ni : PySem.W.nsIn K N "__init__" = some none) (tl : PySem.W.tailIn K bmB bm = true) :
    PySem.W.excIn K C bmB nw = true := by
  unfold PySem.W.excIn
  rw [h]
  show (C == C && nw == nw && !false && PySem.W.tailIn K bmB bm && PySem.W.nsOkIn K N && PySem.W.nsIn K N "__init__" == some none) = true
  rw [tl, ok, ni]
  simp
theorem kit_ownF {K : PySem.W.Frag} {C D : Addr} (h : PySem.W.hasDictIn K C = true) (ht : PySem.W.typeIn K (.ref C) = some (.type "type")) (hs : PySem.W.subIn K (.ref D) (.ref C) = some false) (self : PySem.W.subIn K (.ref C) (.ref C) = some true) : PySem.W.kitOne K (.ref D) (.ref C) = some false := by
  unfold PySem.W.kitOne
  split
  · rename_i c
    have e : (Value.ref D) = .ref C := by simpa using c
    rw [e, self] at hs
    cases hs
  · show (if ((PySem.W.clsIn K C).isSome && PySem.W.typeIn K (.ref C) == some (.type "type")) = true then PySem.W.subIn K (.ref D) (.ref C) else none) = some false
    rw [cls_some h, ht]
    simpa using hs
theorem all_mk {P : Program} {w : World} {K : PySem.W.Frag} {h : Heap} {mg : Str → Option Value} {fa : Addr} (X : K.In h) (G : h.Ns mainGlobals mg) (hfa : mg "law" = some (.ref fa))
    {CS CN fNI NaN fII CR fRI dRI fdraw fstream flisint fisnum fasr feq fisp finv CF fFI dFI ffeq ffnum ffover fseq ftaken fsnum fsrow CRd frd CSe fsinit CRr frinit frlen friadd frser pnum frget frset ffill flip fanyp flpr fsmall fnonz fgiven frowg flpair flpairs fspairs fset fadded freader fdue fla CNF NaNF CNN NaNN NaS CPL fPLI ftold NaPL : Addr} {odNI anNI ddN odII anII odRI anRI oe1RI oddraw andraw odstream anstream odlisint anlisint odisnum anisnum odasr anasr odeq aneq odisp anisp odinv aninv odFI anFI oe1FI odfeq anfeq odfnum anfnum odfover anfover odseq anseq odtaken antaken odsnum ansnum odsrow ansrow odrd anrd odsinit ansinit odrinit anrinit odrlen anrlen odriadd anriadd odrser anrser odrget anrget odrset anrset odfill anfill odlip anlip odanyp ananyp odlpr anlpr odsmall ansmall odnonz annonz odgiven angiven odrowg anrowg odlpair anlpair odlpairs anlpairs odspairs anspairs odset anset odadded anadded odreader anreader oddue andue odla anla ddNF ddNN ddS ndS ndNF ndNN odPLI anPLI odtold antold ddPL : Option Addr} {slNI slII slRI skRI sldraw slstream sllisint slisnum slasr sleq slisp slinv slFI skFI slfeq slfnum slfover slseq sltaken slsnum slsrow slrd slsinit slrinit slrlen slriadd slrser slrget slrset slfill sllip slanyp sllpr slsmall slnonz slgiven slrowg sllpair sllpairs slspairs slset sladded slreader sldue slla nsS nsNF nsNN slPLI sltold : Array (Option Value)} {ocNI kVNI dcNI pmNI cdNI ctNI ocII kVII dcII pmII cdII ctII ocRI kVRI dcRI pmRI cdRI ctRI oeRI ocdraw kVdraw dcdraw pmdraw cddraw ctdraw ocstream kVstream dcstream pmstream cdstream ctstream oclisint kVlisint dclisint pmlisint cdlisint ctlisint ocisnum kVisnum dcisnum pmisnum cdisnum ctisnum ocasr kVasr dcasr pmasr cdasr ctasr oceq kVeq dceq pmeq cdeq cteq ocisp kVisp dcisp pmisp cdisp ctisp ocinv kVinv dcinv pminv cdinv ctinv ocFI kVFI dcFI pmFI cdFI ctFI oeFI ocfeq kVfeq dcfeq pmfeq cdfeq ctfeq ocfnum kVfnum dcfnum pmfnum cdfnum ctfnum ocfover kVfover dcfover pmfover cdfover ctfover ocseq kVseq dcseq pmseq cdseq ctseq octaken kVtaken dctaken pmtaken cdtaken cttaken ocsnum kVsnum dcsnum pmsnum cdsnum ctsnum ocsrow kVsrow dcsrow pmsrow cdsrow ctsrow ocrd kVrd dcrd pmrd cdrd ctrd ocsinit kVsinit dcsinit pmsinit cdsinit ctsinit ocrinit kVrinit dcrinit pmrinit cdrinit ctrinit ocrlen kVrlen dcrlen pmrlen cdrlen ctrlen ocriadd kVriadd dcriadd pmriadd cdriadd ctriadd ocrser kVrser dcrser pmrser cdrser ctrser ocrget kVrget dcrget pmrget cdrget ctrget ocrset kVrset dcrset pmrset cdrset ctrset ocfill kVfill dcfill pmfill cdfill ctfill oclip kVlip dclip pmlip cdlip ctlip ocanyp kVanyp dcanyp pmanyp cdanyp ctanyp oclpr kVlpr dclpr pmlpr cdlpr ctlpr ocsmall kVsmall dcsmall pmsmall cdsmall ctsmall ocnonz kVnonz dcnonz pmnonz cdnonz ctnonz ocgiven kVgiven dcgiven pmgiven cdgiven ctgiven ocrowg kVrowg dcrowg pmrowg cdrowg ctrowg oclpair kVlpair dclpair pmlpair cdlpair ctlpair oclpairs kVlpairs dclpairs pmlpairs cdlpairs ctlpairs ocspairs kVspairs dcspairs pmspairs cdspairs ctspairs ocset kVset dcset pmset cdset ctset ocadded kVadded dcadded pmadded cdadded ctadded ocreader kVreader dcreader pmreader cdreader ctreader ocdue kVdue dcdue pmdue cddue ctdue ocla kVla dcla pmla cdla ctla ncS ncNF ncNN ocPLI kVPLI dcPLI pmPLI cdPLI ctPLI octold kVtold dctold pmtold cdtold cttold : Value} {nRI nFI npS npNF npNN : Nat} {tkRI tkFI tkM tkGP tkMP : Tok} {nmN qN nmNF qNF nmNN qNN nmS qS nmPL qPL : Str} {bsN subN rsnum bsNF subNF bsNN subNN bsS subS bsPL subPL : List Value} {snN snNF snNN snS snPL : List Str} {abN abNF abNN abS abPL : Bool} {colN colNF colNN colS colPL : Option Bool} {m0N m1N m2N m3N m5N m0NF m1NF m2NF m3NF m5NF m0NN m1NN m2NN m3NN m5NN m0S m1S m2S m3S m5S m0PL m1PL m2PL m3PL m5PL : Option Value} {neS neNF neNN : Array DictEntry}
    (aN : PySem.W.nsIn K mainGlobals "NoRatio" = some (some (.ref CN)))
    (x3N : PySem.W.typeIn K (.ref CN) = some (.type "type"))
    (aNI : PySem.W.findIn K (.ref CN) "__init__" = some (some (.ref fNI)))
    (lNI : K.lookup fNI = some ⟨ocNI, odNI, .func (PySem.W.fnOf "__init__" "NoRatio.__init__" (defArgs s_noRatioInit) (defBody s_noRatioInit) (defScope s_noRatioInit) .none kVNI dcNI pmNI anNI cdNI ctNI), slNI⟩)
    (cNI : PySem.W.codeIn K cdNI "NoRatio.__init__" = true)
    (kNI : PySem.W.keepIn K (.ref fNI) = true)
    (y5 : PySem.W.specialIn K (.builtin "object.__class__") "__get__" = some (some (.builtin "getset_descriptor.__get__")))
    (y6 : PySem.W.takesIn K (.builtin "object.__class__") = some true)
    (xLN : K.lookup CN = some (excClassObj nmN qN CN NaN bsN [.ref CS, .type "ValueError", .type "Exception", .type "BaseException", .type "object"] true snN subN abN colN ddN m0N m1N m2N m3N m5N "ValueError.__new__"))
    (x1N : PySem.W.findIn K (.ref CN) "__setattr__" = some (some (.builtin "object.__setattr__")))
    (x2N : PySem.W.subIn K (.ref CN) (.type "BaseException") = some true)
    (x4N : PySem.W.keepIn K (.ref CN) = true)
    (x5N : PySem.W.findIn K (.ref CN) "word" = some none)
    (x6N : PySem.W.typeIn K (.ref fNI) = some (.type "function"))
    (aII : PySem.W.nsIn K mainGlobals "is_an_integer" = some (some (.ref fII)))
    (lII : K.lookup fII = some ⟨ocII, odII, .func (PySem.W.fnOf "is_an_integer" "is_an_integer" (defArgs s_isint) (defBody s_isint) (defScope s_isint) .none kVII dcII pmII anII cdII ctII), slII⟩)
    (cII : PySem.W.codeIn K cdII "is_an_integer" = true)
    (kII : PySem.W.keepIn K (.ref fII) = true)
    (aR : PySem.W.nsIn K mainGlobals "Ratio" = some (some (.ref CR)))
    (pgR : PySem.W.plainGet K CR Str.empty = true)
    (hdR : PySem.W.hasDictIn K CR = true)
    (poR : PySem.W.plainOver K CR = true)
    (saR : PySem.W.findIn K (.ref CR) "__setattr__" = some (some (.builtin "object.__setattr__")))
    (mkR : PySem.W.makesIn K CR = true)
    (kcR : PySem.W.keepIn K (.ref CR) = true)
    (nR_top : PySem.W.findIn K (.ref CR) "top" = some none)
    (nR_bottom : PySem.W.findIn K (.ref CR) "bottom" = some none)
    (q1R : PySem.W.findIn K (.ref CR) "__class__" = some (some (.builtin "object.__class__")))
    (q2R : PySem.W.mroIn K CR (.type "object") = some true)
    (q3R : PySem.W.typeIn K (.ref CR) = some (.type "type"))
    (aRI : PySem.W.findIn K (.ref CR) "__init__" = some (some (.ref fRI)))
    (lRI : K.lookup fRI = some ⟨ocRI, odRI, .func (PySem.W.fnOf "__init__" "Ratio.__init__" (defArgs s_ratioInit) (defBody s_ratioInit) (defScope s_ratioInit) (.ref dRI) kVRI dcRI pmRI anRI cdRI ctRI), slRI⟩)
    (cRI : PySem.W.codeIn K cdRI "Ratio.__init__" = true)
    (kRI : PySem.W.keepIn K (.ref fRI) = true)
    (iRI : PySem.W.isFn K (.ref fRI) = true)
    (eRI : K.lookup dRI = some ⟨oeRI, oe1RI, .seq #[Value.int 1 tkRI] nRI, skRI⟩)
    (w3 : PySem.W.subIn K (.ref CR) (.type "int") = some false)
    (w4 : PySem.W.subIn K (.ref CR) (.type "bool") = some false)
    (g_gcd : PySem.W.nsIn K mainGlobals "gcd" = some (some (.builtin "math.gcd")))
    (z_len : PySem.W.nsIn K mainGlobals "len" = some none)
    (z_abs : PySem.W.nsIn K mainGlobals "abs" = some none)
    (z_int : PySem.W.nsIn K mainGlobals "int" = some none)
    (z_range : PySem.W.nsIn K mainGlobals "range" = some none)
    (z_isinstance : PySem.W.nsIn K mainGlobals "isinstance" = some none)
    (z_bool : PySem.W.nsIn K mainGlobals "bool" = some none)
    (z_list : PySem.W.nsIn K mainGlobals "list" = some none)
    (z_tuple : PySem.W.nsIn K mainGlobals "tuple" = some none)
    (adraw : PySem.W.nsIn K mainGlobals "_law_draw" = some (some (.ref fdraw)))
    (ldraw : K.lookup fdraw = some ⟨ocdraw, oddraw, .func (PySem.W.fnOf "_law_draw" "_law_draw" (defArgs s_draw) (defBody s_draw) (defScope s_draw) .none kVdraw dcdraw pmdraw andraw cddraw ctdraw), sldraw⟩)
    (cdraw : PySem.W.codeIn K cddraw "_law_draw" = true)
    (kdraw : PySem.W.keepIn K (.ref fdraw) = true)
    (astream : PySem.W.nsIn K mainGlobals "_law_stream" = some (some (.ref fstream)))
    (lstream : K.lookup fstream = some ⟨ocstream, odstream, .func (PySem.W.fnOf "_law_stream" "_law_stream" (defArgs s_stream) (defBody s_stream) (defScope s_stream) .none kVstream dcstream pmstream anstream cdstream ctstream), slstream⟩)
    (cstream : PySem.W.codeIn K cdstream "_law_stream" = true)
    (kstream : PySem.W.keepIn K (.ref fstream) = true)
    (alisint : PySem.W.nsIn K mainGlobals "_law_is_integer" = some (some (.ref flisint)))
    (llisint : K.lookup flisint = some ⟨oclisint, odlisint, .func (PySem.W.fnOf "_law_is_integer" "_law_is_integer" (defArgs s_lisint) (defBody s_lisint) (defScope s_lisint) .none kVlisint dclisint pmlisint anlisint cdlisint ctlisint), sllisint⟩)
    (clisint : PySem.W.codeIn K cdlisint "_law_is_integer" = true)
    (klisint : PySem.W.keepIn K (.ref flisint) = true)
    (aisnum : PySem.W.nsIn K mainGlobals "is_number" = some (some (.ref fisnum)))
    (lisnum : K.lookup fisnum = some ⟨ocisnum, odisnum, .func (PySem.W.fnOf "is_number" "is_number" (defArgs s_isnum) (defBody s_isnum) (defScope s_isnum) .none kVisnum dcisnum pmisnum anisnum cdisnum ctisnum), slisnum⟩)
    (cisnum : PySem.W.codeIn K cdisnum "is_number" = true)
    (kisnum : PySem.W.keepIn K (.ref fisnum) = true)
    (aasr : PySem.W.nsIn K mainGlobals "as_ratio" = some (some (.ref fasr)))
    (lasr : K.lookup fasr = some ⟨ocasr, odasr, .func (PySem.W.fnOf "as_ratio" "as_ratio" (defArgs s_asratio) (defBody s_asratio) (defScope s_asratio) .none kVasr dcasr pmasr anasr cdasr ctasr), slasr⟩)
    (casr : PySem.W.codeIn K cdasr "as_ratio" = true)
    (kasr : PySem.W.keepIn K (.ref fasr) = true)
    (aeq : PySem.W.findIn K (.ref CR) "__eq__" = some (some (.ref feq)))
    (leq : K.lookup feq = some ⟨oceq, odeq, .func (PySem.W.fnOf "__eq__" "Ratio.__eq__" (defArgs s_req) (defBody s_req) (defScope s_req) .none kVeq dceq pmeq aneq cdeq cteq), sleq⟩)
    (ceq : PySem.W.codeIn K cdeq "Ratio.__eq__" = true)
    (keq : PySem.W.keepIn K (.ref feq) = true)
    (ieq : PySem.W.isFn K (.ref feq) = true)
    (aisp : PySem.W.nsIn K mainGlobals "_is_prime" = some (some (.ref fisp)))
    (lisp : K.lookup fisp = some ⟨ocisp, odisp, .func (PySem.W.fnOf "_is_prime" "_is_prime" (defArgs s_isprime) (defBody s_isprime) (defScope s_isprime) .none kVisp dcisp pmisp anisp cdisp ctisp), slisp⟩)
    (cisp : PySem.W.codeIn K cdisp "_is_prime" = true)
    (kisp : PySem.W.keepIn K (.ref fisp) = true)
    (ainv : PySem.W.nsIn K mainGlobals "_inverse" = some (some (.ref finv)))
    (linv : K.lookup finv = some ⟨ocinv, odinv, .func (PySem.W.fnOf "_inverse" "_inverse" (defArgs s_inverse) (defBody s_inverse) (defScope s_inverse) .none kVinv dcinv pminv aninv cdinv ctinv), slinv⟩)
    (cinv : PySem.W.codeIn K cdinv "_inverse" = true)
    (kinv : PySem.W.keepIn K (.ref finv) = true)
    (aF : PySem.W.nsIn K mainGlobals "Field" = some (some (.ref CF)))
    (pgF : PySem.W.plainGet K CF Str.empty = true)
    (hdF : PySem.W.hasDictIn K CF = true)
    (poF : PySem.W.plainOver K CF = true)
    (saF : PySem.W.findIn K (.ref CF) "__setattr__" = some (some (.builtin "object.__setattr__")))
    (mkF : PySem.W.makesIn K CF = true)
    (kcF : PySem.W.keepIn K (.ref CF) = true)
    (nF_prime : PySem.W.findIn K (.ref CF) "prime" = some none)
    (q1F : PySem.W.findIn K (.ref CF) "__class__" = some (some (.builtin "object.__class__")))
    (q2F : PySem.W.mroIn K CF (.type "object") = some true)
    (q3F : PySem.W.typeIn K (.ref CF) = some (.type "type"))
    (aFI : PySem.W.findIn K (.ref CF) "__init__" = some (some (.ref fFI)))
    (lFI : K.lookup fFI = some ⟨ocFI, odFI, .func (PySem.W.fnOf "__init__" "Field.__init__" (defArgs s_finit) (defBody s_finit) (defScope s_finit) (.ref dFI) kVFI dcFI pmFI anFI cdFI ctFI), slFI⟩)
    (cFI : PySem.W.codeIn K cdFI "Field.__init__" = true)
    (kFI : PySem.W.keepIn K (.ref fFI) = true)
    (iFI : PySem.W.isFn K (.ref fFI) = true)
    (eFI : K.lookup dFI = some ⟨oeFI, oe1FI, .seq #[Value.int 0 tkFI] nFI, skFI⟩)
    (afeq : PySem.W.findIn K (.ref CF) "__eq__" = some (some (.ref ffeq)))
    (lfeq : K.lookup ffeq = some ⟨ocfeq, odfeq, .func (PySem.W.fnOf "__eq__" "Field.__eq__" (defArgs s_feq) (defBody s_feq) (defScope s_feq) .none kVfeq dcfeq pmfeq anfeq cdfeq ctfeq), slfeq⟩)
    (cfeq : PySem.W.codeIn K cdfeq "Field.__eq__" = true)
    (kfeq : PySem.W.keepIn K (.ref ffeq) = true)
    (ifeq : PySem.W.isFn K (.ref ffeq) = true)
    (afnum : PySem.W.findIn K (.ref CF) "number" = some (some (.ref ffnum)))
    (lfnum : K.lookup ffnum = some ⟨ocfnum, odfnum, .func (PySem.W.fnOf "number" "Field.number" (defArgs s_fnum) (defBody s_fnum) (defScope s_fnum) .none kVfnum dcfnum pmfnum anfnum cdfnum ctfnum), slfnum⟩)
    (cfnum : PySem.W.codeIn K cdfnum "Field.number" = true)
    (kfnum : PySem.W.keepIn K (.ref ffnum) = true)
    (ifnum : PySem.W.isFn K (.ref ffnum) = true)
    (afover : PySem.W.findIn K (.ref CF) "over" = some (some (.ref ffover)))
    (lfover : K.lookup ffover = some ⟨ocfover, odfover, .func (PySem.W.fnOf "over" "Field.over" (defArgs s_fover) (defBody s_fover) (defScope s_fover) .none kVfover dcfover pmfover anfover cdfover ctfover), slfover⟩)
    (cfover : PySem.W.codeIn K cdfover "Field.over" = true)
    (kfover : PySem.W.keepIn K (.ref ffover) = true)
    (ifover : PySem.W.isFn K (.ref ffover) = true)
    (aseq : PySem.W.nsIn K mainGlobals "is_a_sequence" = some (some (.ref fseq)))
    (lseq : K.lookup fseq = some ⟨ocseq, odseq, .func (PySem.W.fnOf "is_a_sequence" "is_a_sequence" (defArgs s_isseq) (defBody s_isseq) (defScope s_isseq) .none kVseq dcseq pmseq anseq cdseq ctseq), slseq⟩)
    (cseq : PySem.W.codeIn K cdseq "is_a_sequence" = true)
    (kseq : PySem.W.keepIn K (.ref fseq) = true)
    (ataken : PySem.W.nsIn K mainGlobals "taken" = some (some (.ref ftaken)))
    (ltaken : K.lookup ftaken = some ⟨octaken, odtaken, .func (PySem.W.fnOf "taken" "taken" (defArgs s_taken) (defBody s_taken) (defScope s_taken) .none kVtaken dctaken pmtaken antaken cdtaken cttaken), sltaken⟩)
    (ctaken : PySem.W.codeIn K cdtaken "taken" = true)
    (ktaken : PySem.W.keepIn K (.ref ftaken) = true)
    (asnum : PySem.W.nsIn K mainGlobals "_numbers" = some (some (.ref fsnum)))
    (lsnum : K.lookup fsnum = some ⟨ocsnum, odsnum, .func (PySem.W.fnOf "_numbers" "_numbers" (defArgs s_snum) (defBody s_snum) (defScope s_snum) .none kVsnum dcsnum pmsnum ansnum cdsnum ctsnum), slsnum⟩)
    (csnum : PySem.W.codeIn K cdsnum "_numbers" = true)
    (ksnum : PySem.W.keepIn K (.ref fsnum) = true)
    (asrow : PySem.W.nsIn K mainGlobals "_row" = some (some (.ref fsrow)))
    (lsrow : K.lookup fsrow = some ⟨ocsrow, odsrow, .func (PySem.W.fnOf "_row" "_row" (defArgs s_srow) (defBody s_srow) (defScope s_srow) .none kVsrow dcsrow pmsrow ansrow cdsrow ctsrow), slsrow⟩)
    (csrow : PySem.W.codeIn K cdsrow "_row" = true)
    (ksrow : PySem.W.keepIn K (.ref fsrow) = true)
    (aRd : PySem.W.nsIn K mainGlobals "Ready" = some (some (.ref CRd)))
    (pgRd : PySem.W.plainGet K CRd Str.empty = true)
    (hdRd : PySem.W.hasDictIn K CRd = true)
    (poRd : PySem.W.plainOver K CRd = true)
    (saRd : PySem.W.findIn K (.ref CRd) "__setattr__" = some (some (.builtin "object.__setattr__")))
    (mkRd : PySem.W.makesIn K CRd = true)
    (kcRd : PySem.W.keepIn K (.ref CRd) = true)
    (nRd_row : PySem.W.findIn K (.ref CRd) "row" = some none)
    (q1Rd : PySem.W.findIn K (.ref CRd) "__class__" = some (some (.builtin "object.__class__")))
    (q2Rd : PySem.W.mroIn K CRd (.type "object") = some true)
    (q3Rd : PySem.W.typeIn K (.ref CRd) = some (.type "type"))
    (ard : PySem.W.findIn K (.ref CRd) "__init__" = some (some (.ref frd)))
    (lrd : K.lookup frd = some ⟨ocrd, odrd, .func (PySem.W.fnOf "__init__" "Ready.__init__" (defArgs s_rd) (defBody s_rd) (defScope s_rd) .none kVrd dcrd pmrd anrd cdrd ctrd), slrd⟩)
    (crd : PySem.W.codeIn K cdrd "Ready.__init__" = true)
    (krd : PySem.W.keepIn K (.ref frd) = true)
    (ird : PySem.W.isFn K (.ref frd) = true)
    (aSe : PySem.W.nsIn K mainGlobals "Series" = some (some (.ref CSe)))
    (pgSe : PySem.W.plainGet K CSe Str.empty = true)
    (hdSe : PySem.W.hasDictIn K CSe = true)
    (poSe : PySem.W.plainOver K CSe = true)
    (saSe : PySem.W.findIn K (.ref CSe) "__setattr__" = some (some (.builtin "object.__setattr__")))
    (mkSe : PySem.W.makesIn K CSe = true)
    (kcSe : PySem.W.keepIn K (.ref CSe) = true)
    (nSe_field : PySem.W.findIn K (.ref CSe) "field" = some none)
    (nSe_coefficients : PySem.W.findIn K (.ref CSe) "coefficients" = some none)
    (nSe_known : PySem.W.findIn K (.ref CSe) "known" = some none)
    (q1Se : PySem.W.findIn K (.ref CSe) "__class__" = some (some (.builtin "object.__class__")))
    (q2Se : PySem.W.mroIn K CSe (.type "object") = some true)
    (asinit : PySem.W.findIn K (.ref CSe) "__init__" = some (some (.ref fsinit)))
    (lsinit : K.lookup fsinit = some ⟨ocsinit, odsinit, .func (PySem.W.fnOf "__init__" "Series.__init__" (defArgs s_sinit) (defBody s_sinit) (defScope s_sinit) .none kVsinit dcsinit pmsinit ansinit cdsinit ctsinit), slsinit⟩)
    (csinit : PySem.W.codeIn K cdsinit "Series.__init__" = true)
    (ksinit : PySem.W.keepIn K (.ref fsinit) = true)
    (isinit : PySem.W.isFn K (.ref fsinit) = true)
    (aRr : PySem.W.nsIn K mainGlobals "Reader" = some (some (.ref CRr)))
    (pgRr : PySem.W.plainGet K CRr Str.empty = true)
    (hdRr : PySem.W.hasDictIn K CRr = true)
    (poRr : PySem.W.plainOver K CRr = true)
    (saRr : PySem.W.findIn K (.ref CRr) "__setattr__" = some (some (.builtin "object.__setattr__")))
    (mkRr : PySem.W.makesIn K CRr = true)
    (kcRr : PySem.W.keepIn K (.ref CRr) = true)
    (nRr_field : PySem.W.findIn K (.ref CRr) "field" = some none)
    (nRr__held : PySem.W.findIn K (.ref CRr) "_held" = some none)
    (arinit : PySem.W.findIn K (.ref CRr) "__init__" = some (some (.ref frinit)))
    (lrinit : K.lookup frinit = some ⟨ocrinit, odrinit, .func (PySem.W.fnOf "__init__" "Reader.__init__" (defArgs s_rinit) (defBody s_rinit) (defScope s_rinit) .none kVrinit dcrinit pmrinit anrinit cdrinit ctrinit), slrinit⟩)
    (crinit : PySem.W.codeIn K cdrinit "Reader.__init__" = true)
    (krinit : PySem.W.keepIn K (.ref frinit) = true)
    (irinit : PySem.W.isFn K (.ref frinit) = true)
    (arlen : PySem.W.findIn K (.ref CRr) "__len__" = some (some (.ref frlen)))
    (lrlen : K.lookup frlen = some ⟨ocrlen, odrlen, .func (PySem.W.fnOf "__len__" "Reader.__len__" (defArgs s_rlen) (defBody s_rlen) (defScope s_rlen) .none kVrlen dcrlen pmrlen anrlen cdrlen ctrlen), slrlen⟩)
    (crlen : PySem.W.codeIn K cdrlen "Reader.__len__" = true)
    (krlen : PySem.W.keepIn K (.ref frlen) = true)
    (irlen : PySem.W.isFn K (.ref frlen) = true)
    (ariadd : PySem.W.findIn K (.ref CRr) "__iadd__" = some (some (.ref friadd)))
    (lriadd : K.lookup friadd = some ⟨ocriadd, odriadd, .func (PySem.W.fnOf "__iadd__" "Reader.__iadd__" (defArgs s_riadd) (defBody s_riadd) (defScope s_riadd) .none kVriadd dcriadd pmriadd anriadd cdriadd ctriadd), slriadd⟩)
    (criadd : PySem.W.codeIn K cdriadd "Reader.__iadd__" = true)
    (kriadd : PySem.W.keepIn K (.ref friadd) = true)
    (iriadd : PySem.W.isFn K (.ref friadd) = true)
    (arser : PySem.W.findIn K (.ref CRr) "series" = some (some (.ref frser)))
    (lrser : K.lookup frser = some ⟨ocrser, odrser, .func (PySem.W.fnOf "series" "Reader.series" (defArgs s_rser) (defBody s_rser) (defScope s_rser) .none kVrser dcrser pmrser anrser cdrser ctrser), slrser⟩)
    (crser : PySem.W.codeIn K cdrser "Reader.series" = true)
    (krser : PySem.W.keepIn K (.ref frser) = true)
    (irser : PySem.W.isFn K (.ref frser) = true)
    (pa1 : PySem.W.findIn K (.ref CRr) "numbers" = some (some (.ref pnum)))
    (pa2 : PySem.W.specialIn K (.ref pnum) "__get__" = some (some (.builtin "property.__get__")))
    (pa3 : PySem.W.takesIn K (.ref pnum) = some true)
    (pa4 : PySem.W.recIn K pnum "property" = some (.ref frget :: .ref frset :: rsnum))
    (pa5 : PySem.W.takerIn K CRr "numbers" = some (some (.ref pnum)))
    (pa6 : PySem.W.typeIn K (.ref pnum) = some (.type "property"))
    (lrget : K.lookup frget = some ⟨ocrget, odrget, .func (PySem.W.fnOf "numbers" "Reader.numbers" (defArgs s_rget) (defBody s_rget) (defScope s_rget) .none kVrget dcrget pmrget anrget cdrget ctrget), slrget⟩)
    (crget : PySem.W.codeIn K cdrget "Reader.numbers" = true)
    (krget : PySem.W.keepIn K (.ref frget) = true)
    (lrset : K.lookup frset = some ⟨ocrset, odrset, .func (PySem.W.fnOf "numbers" "Reader.numbers" (defArgs s_rset) (defBody s_rset) (defScope s_rset) .none kVrset dcrset pmrset anrset cdrset ctrset), slrset⟩)
    (crset : PySem.W.codeIn K cdrset "Reader.numbers" = true)
    (krset : PySem.W.keepIn K (.ref frset) = true)
    (mo1 : PySem.W.findIn K (.ref CRr) "MOST" = some (some (.int 32 tkM)))
    (mo2 : PySem.W.specialIn K (.int 32 tkM) "__get__" = some none)
    (sfR : PySem.W.selfFirst K CRr = true)
    (afill : PySem.W.nsIn K mainGlobals "fill" = some (some (.ref ffill)))
    (lfill : K.lookup ffill = some ⟨ocfill, odfill, .func (PySem.W.fnOf "fill" "fill" (defArgs s_fill) (defBody s_fill) (defScope s_fill) .none kVfill dcfill pmfill anfill cdfill ctfill), slfill⟩)
    (cfill : PySem.W.codeIn K cdfill "fill" = true)
    (kfill : PySem.W.keepIn K (.ref ffill) = true)
    (alip : PySem.W.nsIn K mainGlobals "_law_is_prime" = some (some (.ref flip)))
    (llip : K.lookup flip = some ⟨oclip, odlip, .func (PySem.W.fnOf "_law_is_prime" "_law_is_prime" (defArgs s_lip) (defBody s_lip) (defScope s_lip) .none kVlip dclip pmlip anlip cdlip ctlip), sllip⟩)
    (clip : PySem.W.codeIn K cdlip "_law_is_prime" = true)
    (klip : PySem.W.keepIn K (.ref flip) = true)
    (aanyp : PySem.W.nsIn K mainGlobals "_law_any_prime" = some (some (.ref fanyp)))
    (lanyp : K.lookup fanyp = some ⟨ocanyp, odanyp, .func (PySem.W.fnOf "_law_any_prime" "_law_any_prime" (defArgs s_anyp) (defBody s_anyp) (defScope s_anyp) .none kVanyp dcanyp pmanyp ananyp cdanyp ctanyp), slanyp⟩)
    (canyp : PySem.W.codeIn K cdanyp "_law_any_prime" = true)
    (kanyp : PySem.W.keepIn K (.ref fanyp) = true)
    (alpr : PySem.W.nsIn K mainGlobals "_law_prime" = some (some (.ref flpr)))
    (llpr : K.lookup flpr = some ⟨oclpr, odlpr, .func (PySem.W.fnOf "_law_prime" "_law_prime" (defArgs s_lpr) (defBody s_lpr) (defScope s_lpr) .none kVlpr dclpr pmlpr anlpr cdlpr ctlpr), sllpr⟩)
    (clpr : PySem.W.codeIn K cdlpr "_law_prime" = true)
    (klpr : PySem.W.keepIn K (.ref flpr) = true)
    (asmall : PySem.W.nsIn K mainGlobals "_law_small" = some (some (.ref fsmall)))
    (lsmall : K.lookup fsmall = some ⟨ocsmall, odsmall, .func (PySem.W.fnOf "_law_small" "_law_small" (defArgs s_small) (defBody s_small) (defScope s_small) .none kVsmall dcsmall pmsmall ansmall cdsmall ctsmall), slsmall⟩)
    (csmall : PySem.W.codeIn K cdsmall "_law_small" = true)
    (ksmall : PySem.W.keepIn K (.ref fsmall) = true)
    (anonz : PySem.W.nsIn K mainGlobals "_law_nonzero" = some (some (.ref fnonz)))
    (lnonz : K.lookup fnonz = some ⟨ocnonz, odnonz, .func (PySem.W.fnOf "_law_nonzero" "_law_nonzero" (defArgs s_nonz) (defBody s_nonz) (defScope s_nonz) .none kVnonz dcnonz pmnonz annonz cdnonz ctnonz), slnonz⟩)
    (cnonz : PySem.W.codeIn K cdnonz "_law_nonzero" = true)
    (knonz : PySem.W.keepIn K (.ref fnonz) = true)
    (agiven : PySem.W.nsIn K mainGlobals "_law_given" = some (some (.ref fgiven)))
    (lgiven : K.lookup fgiven = some ⟨ocgiven, odgiven, .func (PySem.W.fnOf "_law_given" "_law_given" (defArgs s_given) (defBody s_given) (defScope s_given) .none kVgiven dcgiven pmgiven angiven cdgiven ctgiven), slgiven⟩)
    (cgiven : PySem.W.codeIn K cdgiven "_law_given" = true)
    (kgiven : PySem.W.keepIn K (.ref fgiven) = true)
    (arowg : PySem.W.nsIn K mainGlobals "_law_row_given" = some (some (.ref frowg)))
    (lrowg : K.lookup frowg = some ⟨ocrowg, odrowg, .func (PySem.W.fnOf "_law_row_given" "_law_row_given" (defArgs s_rowg) (defBody s_rowg) (defScope s_rowg) .none kVrowg dcrowg pmrowg anrowg cdrowg ctrowg), slrowg⟩)
    (crowg : PySem.W.codeIn K cdrowg "_law_row_given" = true)
    (krowg : PySem.W.keepIn K (.ref frowg) = true)
    (alpair : PySem.W.nsIn K mainGlobals "_law_pair" = some (some (.ref flpair)))
    (llpair : K.lookup flpair = some ⟨oclpair, odlpair, .func (PySem.W.fnOf "_law_pair" "_law_pair" (defArgs s_lpair) (defBody s_lpair) (defScope s_lpair) .none kVlpair dclpair pmlpair anlpair cdlpair ctlpair), sllpair⟩)
    (clpair : PySem.W.codeIn K cdlpair "_law_pair" = true)
    (klpair : PySem.W.keepIn K (.ref flpair) = true)
    (alpairs : PySem.W.nsIn K mainGlobals "_law_pairs" = some (some (.ref flpairs)))
    (llpairs : K.lookup flpairs = some ⟨oclpairs, odlpairs, .func (PySem.W.fnOf "_law_pairs" "_law_pairs" (defArgs s_lpairs) (defBody s_lpairs) (defScope s_lpairs) .none kVlpairs dclpairs pmlpairs anlpairs cdlpairs ctlpairs), sllpairs⟩)
    (clpairs : PySem.W.codeIn K cdlpairs "_law_pairs" = true)
    (klpairs : PySem.W.keepIn K (.ref flpairs) = true)
    (aspairs : PySem.W.nsIn K mainGlobals "_law_series_pairs" = some (some (.ref fspairs)))
    (lspairs : K.lookup fspairs = some ⟨ocspairs, odspairs, .func (PySem.W.fnOf "_law_series_pairs" "_law_series_pairs" (defArgs s_spairs) (defBody s_spairs) (defScope s_spairs) .none kVspairs dcspairs pmspairs anspairs cdspairs ctspairs), slspairs⟩)
    (cspairs : PySem.W.codeIn K cdspairs "_law_series_pairs" = true)
    (kspairs : PySem.W.keepIn K (.ref fspairs) = true)
    (aset : PySem.W.nsIn K mainGlobals "_law_set" = some (some (.ref fset)))
    (lset : K.lookup fset = some ⟨ocset, odset, .func (PySem.W.fnOf "_law_set" "_law_set" (defArgs s_set) (defBody s_set) (defScope s_set) .none kVset dcset pmset anset cdset ctset), slset⟩)
    (cset : PySem.W.codeIn K cdset "_law_set" = true)
    (kset : PySem.W.keepIn K (.ref fset) = true)
    (aadded : PySem.W.nsIn K mainGlobals "_law_added" = some (some (.ref fadded)))
    (ladded : K.lookup fadded = some ⟨ocadded, odadded, .func (PySem.W.fnOf "_law_added" "_law_added" (defArgs s_added) (defBody s_added) (defScope s_added) .none kVadded dcadded pmadded anadded cdadded ctadded), sladded⟩)
    (cadded : PySem.W.codeIn K cdadded "_law_added" = true)
    (kadded : PySem.W.keepIn K (.ref fadded) = true)
    (areader : PySem.W.nsIn K mainGlobals "_law_reader" = some (some (.ref freader)))
    (lreader : K.lookup freader = some ⟨ocreader, odreader, .func (PySem.W.fnOf "_law_reader" "_law_reader" (defArgs s_reader) (defBody s_reader) (defScope s_reader) .none kVreader dcreader pmreader anreader cdreader ctreader), slreader⟩)
    (creader : PySem.W.codeIn K cdreader "_law_reader" = true)
    (kreader : PySem.W.keepIn K (.ref freader) = true)
    (adue : PySem.W.nsIn K mainGlobals "_law_due" = some (some (.ref fdue)))
    (ldue : K.lookup fdue = some ⟨ocdue, oddue, .func (PySem.W.fnOf "_law_due" "_law_due" (defArgs s_due) (defBody s_due) (defScope s_due) .none kVdue dcdue pmdue andue cddue ctdue), sldue⟩)
    (cdue : PySem.W.codeIn K cddue "_law_due" = true)
    (kdue : PySem.W.keepIn K (.ref fdue) = true)
    (ala : PySem.W.nsIn K mainGlobals "law" = some (some (.ref fla)))
    (lla : K.lookup fla = some ⟨ocla, odla, .func (PySem.W.fnOf "law" "law" (defArgs s_law) (defBody s_law) (defScope s_law) .none kVla dcla pmla anla cdla ctla), slla⟩)
    (cla : PySem.W.codeIn K cdla "law" = true)
    (kla : PySem.W.keepIn K (.ref fla) = true)
    (w_int : PySem.W.subIn K (.type "int") (.ref CR) = some false)
    (w_str : PySem.W.subIn K (.type "str") (.ref CR) = some false)
    (w_NoneType : PySem.W.subIn K (.type "NoneType") (.ref CR) = some false)
    (w_bool : PySem.W.subIn K (.type "bool") (.ref CR) = some false)
    (w_list : PySem.W.subIn K (.type "list") (.ref CR) = some false)
    (w_tuple : PySem.W.subIn K (.type "tuple") (.ref CR) = some false)
    (w_dict : PySem.W.subIn K (.type "dict") (.ref CR) = some false)
    (wF_int : PySem.W.subIn K (.type "int") (.ref CF) = some false)
    (nf_int : PySem.W.notFirst K CR (.type "int") = true)
    (g_isqrt : PySem.W.nsIn K mainGlobals "isqrt" = some (some (.builtin "math.isqrt")))
    (g_GP : PySem.W.nsIn K mainGlobals "GREATEST_PRIME" = some (some (.int 9973 tkGP)))
    (g_MP : PySem.W.nsIn K mainGlobals "MOST_PASSED" = some (some (.int 32 tkMP)))
    (wd_int : PySem.W.subIn K (.type "int") (.ref CRd) = some false)
    (wd_str : PySem.W.subIn K (.type "str") (.ref CRd) = some false)
    (wd_NoneType : PySem.W.subIn K (.type "NoneType") (.ref CRd) = some false)
    (wd_bool : PySem.W.subIn K (.type "bool") (.ref CRd) = some false)
    (wd_list : PySem.W.subIn K (.type "list") (.ref CRd) = some false)
    (wd_tuple : PySem.W.subIn K (.type "tuple") (.ref CRd) = some false)
    (wd_dict : PySem.W.subIn K (.type "dict") (.ref CRd) = some false)
    (wd_R : PySem.W.subIn K (.ref CR) (.ref CRd) = some false)
    (wd_self : PySem.W.subIn K (.ref CRd) (.ref CRd) = some true)
    (wR_list : PySem.W.subIn K (.ref CR) (.type "list") = some false)
    (wR_tuple : PySem.W.subIn K (.ref CR) (.type "tuple") = some false)
    (aNF : PySem.W.nsIn K mainGlobals "NoField" = some (some (.ref CNF)))
    (xLNF : K.lookup CNF = some (excClassObj nmNF qNF CNF NaNF bsNF [.ref CS, .type "ValueError", .type "Exception", .type "BaseException", .type "object"] true snNF subNF abNF colNF ddNF m0NF m1NF m2NF m3NF m5NF "ValueError.__new__"))
    (x3NF : PySem.W.typeIn K (.ref CNF) = some (.type "type"))
    (x4NF : PySem.W.keepIn K (.ref CNF) = true)
    (x2NF : PySem.W.subIn K (.ref CNF) (.type "BaseException") = some true)
    (aNN : PySem.W.nsIn K mainGlobals "NoNumber" = some (some (.ref CNN)))
    (xLNN : K.lookup CNN = some (excClassObj nmNN qNN CNN NaNN bsNN [.ref CS, .type "ValueError", .type "Exception", .type "BaseException", .type "object"] true snNN subNN abNN colNN ddNN m0NN m1NN m2NN m3NN m5NN "ValueError.__new__"))
    (x3NN : PySem.W.typeIn K (.ref CNN) = some (.type "type"))
    (x4NN : PySem.W.keepIn K (.ref CNN) = true)
    (x2NN : PySem.W.subIn K (.ref CNN) (.type "BaseException") = some true)
    (x7NN : PySem.W.subIn K (.ref CNN) (.ref CNN) = some true)
    (y8NN : PySem.W.hasDictIn K CNN = true)
    (xLS : K.lookup CS = some (excClassObj nmS qS CS NaS bsS [.type "ValueError", .type "Exception", .type "BaseException", .type "object"] true snS subS abS colS ddS m0S m1S m2S m3S m5S "ValueError.__new__"))
    (n1S : K.lookup NaS = some ⟨ncS, ndS, .dict neS npS, nsS⟩)
    (n2S : (neS.toList.all fun e => match e.key with | .str _ _ => true | _ => false) = true)
    (n3S : PySem.W.nsIn K NaS "__init__" = some none)
    (n1NF : K.lookup NaNF = some ⟨ncNF, ndNF, .dict neNF npNF, nsNF⟩)
    (n2NF : (neNF.toList.all fun e => match e.key with | .str _ _ => true | _ => false) = true)
    (n3NF : PySem.W.nsIn K NaNF "__init__" = some none)
    (n1NN : K.lookup NaNN = some ⟨ncNN, ndNN, .dict neNN npNN, nsNN⟩)
    (n2NN : (neNN.toList.all fun e => match e.key with | .str _ _ => true | _ => false) = true)
    (n3NN : PySem.W.nsIn K NaNN "__init__" = some none)
    (aPL : PySem.W.nsIn K mainGlobals "NoSeries" = some (some (.ref CPL)))
    (x3PL : PySem.W.typeIn K (.ref CPL) = some (.type "type"))
    (y8PL : PySem.W.hasDictIn K CPL = true)
    (aPLI : PySem.W.findIn K (.ref CPL) "__init__" = some (some (.ref fPLI)))
    (lPLI : K.lookup fPLI = some ⟨ocPLI, odPLI, .func (PySem.W.fnOf "__init__" "NoSeries.__init__" (defArgs s_placeInit) (defBody s_placeInit) (defScope s_placeInit) .none kVPLI dcPLI pmPLI anPLI cdPLI ctPLI), slPLI⟩)
    (cPLI : PySem.W.codeIn K cdPLI "NoSeries.__init__" = true)
    (kPLI : PySem.W.keepIn K (.ref fPLI) = true)
    (atold : PySem.W.findIn K (.ref CPL) "told" = some (some (.ref ftold)))
    (ltold : K.lookup ftold = some ⟨octold, odtold, .func (PySem.W.fnOf "told" "NoSeries.told" (defArgs s_told) (defBody s_told) (defScope s_told) .none kVtold dctold pmtold antold cdtold cttold), sltold⟩)
    (ctold : PySem.W.codeIn K cdtold "NoSeries.told" = true)
    (ktold : PySem.W.keepIn K (.ref ftold) = true)
    (itold : PySem.W.isFn K (.ref ftold) = true)
    (xLPL : K.lookup CPL = some (excClassObj nmPL qPL CPL NaPL bsPL [.ref CS, .type "ValueError", .type "Exception", .type "BaseException", .type "object"] true snPL subPL abPL colPL ddPL m0PL m1PL m2PL m3PL m5PL "ValueError.__new__"))
    (x1PL : PySem.W.findIn K (.ref CPL) "__setattr__" = some (some (.builtin "object.__setattr__")))
    (x2PL : PySem.W.subIn K (.ref CPL) (.type "BaseException") = some true)
    (x4PL : PySem.W.keepIn K (.ref CPL) = true)
    (x5PL : PySem.W.findIn K (.ref CPL) "place" = some none)
    (x6PL : PySem.W.typeIn K (.ref fPLI) = some (.type "function"))
    (x7PL : PySem.W.subIn K (.ref CPL) (.ref CPL) = some true)
    (y2PL : PySem.W.findIn K (.ref CPL) "__getattribute__" = some (some (.builtin "BaseException.__getattribute__")))
    (y3PL : PySem.W.findIn K (.ref CPL) "__getattr__" = some none) :
    ∃ fd : FuncData, (∀ (s : Shared) (v : Value), BindsTo s fd ⟨[v], []⟩ [("_law_script", v)]) ∧ ∀ base : Heap, K.In base → base.Ns mainGlobals mg → FnOk P w K mg base CX0 19 fa fd ["_law_script"] (spLaw K) := by
  have e := hfa.symm.trans (PySem.W.mg_of X G ala)
  cases e
  have m_N : mg "NoRatio" = some (.ref CN) := PySem.W.mg_of X G aN
  have F_NI := fun_mk (st := s_noRatioInit) lNI cNI kNI
  have b_NI := F_NI.binds (ps := ["self", "word"]) fun _ _ _ _ _ _ us hl => match us, hl with | [_, _], _ => rfl
  have NN : NTx K mg CN fNI := ⟨⟨⟨nmN, qN, NaN, bsN, _, snN, subN, abN, colN, ddN, m0N, m1N, m2N, m3N, m5N, xLN, rfl⟩, x1N, x2N, x3N, x4N⟩, x5N, aNI, x6N⟩
  have F_II := fun_mk (st := s_isint) lII cII kII
  have b_II := F_II.binds (ps := ["value"]) fun _ _ _ _ _ _ us hl => match us, hl with | [_], _ => rfl
  have m_II : mg "is_an_integer" = some (.ref fII) := PySem.W.mg_of X G aII
  have m_R : mg "Ratio" = some (.ref CR) := PySem.W.mg_of X G aR
  have F_RI : FunD K "__init__" "Ratio.__init__" (defArgs s_ratioInit) (defBody s_ratioInit) (defScope s_ratioInit) [.int 1] [] fRI _ := ⟨⟨_, _, _, _, _, _, _, _, _, _, rfl, lRI, cRI, .inr ⟨by simp, dRI, _, [Value.int 1 tkRI], nRI, rfl, eRI, rfl, .cons ⟨_, rfl⟩ .nil⟩, .inl rfl⟩, kRI⟩
  have T : CTx K CR := ⟨⟨pgR, hdR, poR, saR⟩, nR_top, nR_bottom⟩
  have Y : ITy K CR := ⟨q1R, y5, y6, q2R, kit_ty2 (by decide +kernel) w3, kit_ty2 (by decide +kernel) w4⟩
  have GT : GTx mg CN := ⟨PySem.W.mg_of X G g_gcd, m_N⟩
  obtain ⟨ds0, v0, b_R⟩ := F_RI.binds1 (ps := ["self", "top", "bottom"]) 3 1 (by simp) rfl fun _ _ _ _ _ _ _ us its hl hi => match us, its, hl, hi with | [_, _, _], [_], _, _ => ⟨_, rfl, rfl⟩
  cases v0
  obtain ⟨ds1, v1, b_R1⟩ := F_RI.binds1 (ps := ["self", "top", "bottom"]) 2 0 (by simp) rfl fun _ _ _ _ _ _ _ us its hl hi => match us, its, hl, hi with | [_, _], [_], _, _ => ⟨_, rfl, rfl⟩
  have M : Mk K CR fRI := ⟨mkR, aRI, iRI, kcR⟩
  have z_len := PySem.W.mg_none_of X G z_len
  have z_abs := PySem.W.mg_none_of X G z_abs
  have z_int := PySem.W.mg_none_of X G z_int
  have z_range := PySem.W.mg_none_of X G z_range
  have z_isinstance := PySem.W.mg_none_of X G z_isinstance
  have z_bool := PySem.W.mg_none_of X G z_bool
  have z_list := PySem.W.mg_none_of X G z_list
  have z_tuple := PySem.W.mg_none_of X G z_tuple
  have D : DTx mg := ⟨z_len, z_abs, z_int, z_range⟩
  have I : ITx mg := ⟨z_isinstance, z_int, z_bool⟩
  have F_draw := fun_mk (st := s_draw) ldraw cdraw kdraw
  have b_draw := F_draw.binds (ps := ["_law_stream_here", "_law_size"]) fun _ _ _ _ _ _ us hl => match us, hl with | [_, _], _ => rfl
  have m_draw : mg "_law_draw" = some (.ref fdraw) := PySem.W.mg_of X G adraw
  have F_stream := fun_mk (st := s_stream) lstream cstream kstream
  have b_stream := F_stream.binds (ps := ["_law_script", "_law_k"]) fun _ _ _ _ _ _ us hl => match us, hl with | [_, _], _ => rfl
  have m_stream : mg "_law_stream" = some (.ref fstream) := PySem.W.mg_of X G astream
  have F_lisint := fun_mk (st := s_lisint) llisint clisint klisint
  have b_lisint := F_lisint.binds (ps := ["_law_value"]) fun _ _ _ _ _ _ us hl => match us, hl with | [_], _ => rfl
  have m_lisint : mg "_law_is_integer" = some (.ref flisint) := PySem.W.mg_of X G alisint
  have F_isnum := fun_mk (st := s_isnum) lisnum cisnum kisnum
  have b_isnum := F_isnum.binds (ps := ["value"]) fun _ _ _ _ _ _ us hl => match us, hl with | [_], _ => rfl
  have m_isnum : mg "is_number" = some (.ref fisnum) := PySem.W.mg_of X G aisnum
  have F_asr := fun_mk (st := s_asratio) lasr casr kasr
  have b_asr := F_asr.binds (ps := ["number"]) fun _ _ _ _ _ _ us hl => match us, hl with | [_], _ => rfl
  have m_asr : mg "as_ratio" = some (.ref fasr) := PySem.W.mg_of X G aasr
  have F_eq := fun_mk (st := s_req) leq ceq keq
  have b_eq := F_eq.binds (ps := ["self", "other"]) fun _ _ _ _ _ _ us hl => match us, hl with | [_, _], _ => rfl
  have F_isp := fun_mk (st := s_isprime) lisp cisp kisp
  have b_isp := F_isp.binds (ps := ["count"]) fun _ _ _ _ _ _ us hl => match us, hl with | [_], _ => rfl
  have m_isp : mg "_is_prime" = some (.ref fisp) := PySem.W.mg_of X G aisp
  have F_inv := fun_mk (st := s_inverse) linv cinv kinv
  have b_inv := F_inv.binds (ps := ["number", "prime"]) fun _ _ _ _ _ _ us hl => match us, hl with | [_, _], _ => rfl
  have m_inv : mg "_inverse" = some (.ref finv) := PySem.W.mg_of X G ainv
  have m_F : mg "Field" = some (.ref CF) := PySem.W.mg_of X G aF
  have F_FI : FunD K "__init__" "Field.__init__" (defArgs s_finit) (defBody s_finit) (defScope s_finit) [.int 0] [] fFI _ := ⟨⟨_, _, _, _, _, _, _, _, _, _, rfl, lFI, cFI, .inr ⟨by simp, dFI, _, [Value.int 0 tkFI], nFI, rfl, eFI, rfl, .cons ⟨_, rfl⟩ .nil⟩, .inl rfl⟩, kFI⟩
  have F_feq := fun_mk (st := s_feq) lfeq cfeq kfeq
  have b_feq := F_feq.binds (ps := ["self", "other"]) fun _ _ _ _ _ _ us hl => match us, hl with | [_, _], _ => rfl
  have F_fnum := fun_mk (st := s_fnum) lfnum cfnum kfnum
  have b_fnum := F_fnum.binds (ps := ["self", "value"]) fun _ _ _ _ _ _ us hl => match us, hl with | [_, _], _ => rfl
  have F_fover := fun_mk (st := s_fover) lfover cfover kfover
  have b_fover := F_fover.binds (ps := ["self", "one", "other"]) fun _ _ _ _ _ _ us hl => match us, hl with | [_, _, _], _ => rfl
  have F_seq := fun_mk (st := s_isseq) lseq cseq kseq
  have b_seq := F_seq.binds (ps := ["value"]) fun _ _ _ _ _ _ us hl => match us, hl with | [_], _ => rfl
  have m_seq : mg "is_a_sequence" = some (.ref fseq) := PySem.W.mg_of X G aseq
  have F_taken := fun_mk (st := s_taken) ltaken ctaken ktaken
  have b_taken := F_taken.binds (ps := ["field", "values"]) fun _ _ _ _ _ _ us hl => match us, hl with | [_, _], _ => rfl
  have m_taken : mg "taken" = some (.ref ftaken) := PySem.W.mg_of X G ataken
  have F_snum := fun_mk (st := s_snum) lsnum csnum ksnum
  have b_snum := F_snum.binds (ps := ["field", "values"]) fun _ _ _ _ _ _ us hl => match us, hl with | [_, _], _ => rfl
  have m_snum : mg "_numbers" = some (.ref fsnum) := PySem.W.mg_of X G asnum
  have F_srow := fun_mk (st := s_srow) lsrow csrow ksrow
  have b_srow := F_srow.binds (ps := ["field", "coefficients"]) fun _ _ _ _ _ _ us hl => match us, hl with | [_, _], _ => rfl
  have m_srow : mg "_row" = some (.ref fsrow) := PySem.W.mg_of X G asrow
  have m_Rd : mg "Ready" = some (.ref CRd) := PySem.W.mg_of X G aRd
  have F_rd := fun_mk (st := s_rd) lrd crd krd
  have b_rd := F_rd.binds (ps := ["self", "row"]) fun _ _ _ _ _ _ us hl => match us, hl with | [_, _], _ => rfl
  have m_Se : mg "Series" = some (.ref CSe) := PySem.W.mg_of X G aSe
  have F_sinit := fun_mk (st := s_sinit) lsinit csinit ksinit
  have b_sinit := F_sinit.binds (ps := ["self", "field", "coefficients"]) fun _ _ _ _ _ _ us hl => match us, hl with | [_, _, _], _ => rfl
  have m_Rr : mg "Reader" = some (.ref CRr) := PySem.W.mg_of X G aRr
  have F_rinit := fun_mk (st := s_rinit) lrinit crinit krinit
  have b_rinit := F_rinit.binds (ps := ["self", "field"]) fun _ _ _ _ _ _ us hl => match us, hl with | [_, _], _ => rfl
  have F_rlen := fun_mk (st := s_rlen) lrlen crlen krlen
  have b_rlen := F_rlen.binds (ps := ["self"]) fun _ _ _ _ _ _ us hl => match us, hl with | [_], _ => rfl
  have F_riadd := fun_mk (st := s_riadd) lriadd criadd kriadd
  have b_riadd := F_riadd.binds (ps := ["self", "other"]) fun _ _ _ _ _ _ us hl => match us, hl with | [_, _], _ => rfl
  have F_rser := fun_mk (st := s_rser) lrser crser krser
  have b_rser := F_rser.binds (ps := ["self"]) fun _ _ _ _ _ _ us hl => match us, hl with | [_], _ => rfl
  have F_rget := fun_mk (st := s_rget) lrget crget krget
  have b_rget := F_rget.binds (ps := ["self"]) fun _ _ _ _ _ _ us hl => match us, hl with | [_], _ => rfl
  have F_rset := fun_mk (st := s_rset) lrset crset krset
  have b_rset := F_rset.binds (ps := ["self", "value"]) fun _ _ _ _ _ _ us hl => match us, hl with | [_, _], _ => rfl
  have F_fill := fun_mk (st := s_fill) lfill cfill kfill
  have b_fill := F_fill.binds (ps := ["reader", "numbers"]) fun _ _ _ _ _ _ us hl => match us, hl with | [_, _], _ => rfl
  have m_fill : mg "fill" = some (.ref ffill) := PySem.W.mg_of X G afill
  have F_lip := fun_mk (st := s_lip) llip clip klip
  have b_lip := F_lip.binds (ps := ["_law_value"]) fun _ _ _ _ _ _ us hl => match us, hl with | [_], _ => rfl
  have m_lip : mg "_law_is_prime" = some (.ref flip) := PySem.W.mg_of X G alip
  have F_anyp := fun_mk (st := s_anyp) lanyp canyp kanyp
  have b_anyp := F_anyp.binds (ps := ["_law_stream_here"]) fun _ _ _ _ _ _ us hl => match us, hl with | [_], _ => rfl
  have m_anyp : mg "_law_any_prime" = some (.ref fanyp) := PySem.W.mg_of X G aanyp
  have F_lpr := fun_mk (st := s_lpr) llpr clpr klpr
  have b_lpr := F_lpr.binds (ps := ["_law_stream_here"]) fun _ _ _ _ _ _ us hl => match us, hl with | [_], _ => rfl
  have m_lpr : mg "_law_prime" = some (.ref flpr) := PySem.W.mg_of X G alpr
  have F_small := fun_mk (st := s_small) lsmall csmall ksmall
  have b_small := F_small.binds (ps := ["_law_stream_here", "_law_prime_here"]) fun _ _ _ _ _ _ us hl => match us, hl with | [_, _], _ => rfl
  have m_small : mg "_law_small" = some (.ref fsmall) := PySem.W.mg_of X G asmall
  have F_nonz := fun_mk (st := s_nonz) lnonz cnonz knonz
  have b_nonz := F_nonz.binds (ps := ["_law_pair_here"]) fun _ _ _ _ _ _ us hl => match us, hl with | [_], _ => rfl
  have m_nonz : mg "_law_nonzero" = some (.ref fnonz) := PySem.W.mg_of X G anonz
  have F_given := fun_mk (st := s_given) lgiven cgiven kgiven
  have b_given := F_given.binds (ps := ["_law_pair_here", "_law_prime_here"]) fun _ _ _ _ _ _ us hl => match us, hl with | [_, _], _ => rfl
  have m_given : mg "_law_given" = some (.ref fgiven) := PySem.W.mg_of X G agiven
  have F_rowg := fun_mk (st := s_rowg) lrowg crowg krowg
  have b_rowg := F_rowg.binds (ps := ["_law_row", "_law_prime_here"]) fun _ _ _ _ _ _ us hl => match us, hl with | [_, _], _ => rfl
  have m_rowg : mg "_law_row_given" = some (.ref frowg) := PySem.W.mg_of X G arowg
  have F_lpair := fun_mk (st := s_lpair) llpair clpair klpair
  have b_lpair := F_lpair.binds (ps := ["_law_value", "_law_prime_here"]) fun _ _ _ _ _ _ us hl => match us, hl with | [_, _], _ => rfl
  have m_lpair : mg "_law_pair" = some (.ref flpair) := PySem.W.mg_of X G alpair
  have F_lpairs := fun_mk (st := s_lpairs) llpairs clpairs klpairs
  have b_lpairs := F_lpairs.binds (ps := ["_law_values", "_law_prime_here"]) fun _ _ _ _ _ _ us hl => match us, hl with | [_, _], _ => rfl
  have m_lpairs : mg "_law_pairs" = some (.ref flpairs) := PySem.W.mg_of X G alpairs
  have F_spairs := fun_mk (st := s_spairs) lspairs cspairs kspairs
  have b_spairs := F_spairs.binds (ps := ["_law_series", "_law_prime_here"]) fun _ _ _ _ _ _ us hl => match us, hl with | [_, _], _ => rfl
  have m_spairs : mg "_law_series_pairs" = some (.ref fspairs) := PySem.W.mg_of X G aspairs
  have F_set := fun_mk (st := s_set) lset cset kset
  have b_set := F_set.binds (ps := ["_law_reader_here", "_law_numbers"]) fun _ _ _ _ _ _ us hl => match us, hl with | [_, _], _ => rfl
  have m_set : mg "_law_set" = some (.ref fset) := PySem.W.mg_of X G aset
  have F_added := fun_mk (st := s_added) ladded cadded kadded
  have b_added := F_added.binds (ps := ["_law_reader_here", "_law_numbers"]) fun _ _ _ _ _ _ us hl => match us, hl with | [_, _], _ => rfl
  have m_added : mg "_law_added" = some (.ref fadded) := PySem.W.mg_of X G aadded
  have F_reader := fun_mk (st := s_reader) lreader creader kreader
  have b_reader := F_reader.binds (ps := ["_law_row", "_law_prime_here"]) fun _ _ _ _ _ _ us hl => match us, hl with | [_, _], _ => rfl
  have m_reader : mg "_law_reader" = some (.ref freader) := PySem.W.mg_of X G areader
  have F_due := fun_mk (st := s_due) ldue cdue kdue
  have b_due := F_due.binds (ps := ["_law_place", "_law_more", "_law_count"]) fun _ _ _ _ _ _ us hl => match us, hl with | [_, _, _], _ => rfl
  have m_due : mg "_law_due" = some (.ref fdue) := PySem.W.mg_of X G adue
  have F_la := fun_mk (st := s_law) lla cla kla
  have m_NF : mg "NoField" = some (.ref CNF) := PySem.W.mg_of X G aNF
  have m_NN : mg "NoNumber" = some (.ref CNN) := PySem.W.mg_of X G aNN
  have RNNF : RNx K mg "NoField" CNF := ⟨exc_in xLNF (ns_ok n1NF n2NF) n3NF (tail1 xLS (ns_ok n1S n2S) n3S), m_NF, x4NF, x2NF, x3NF⟩
  have RNNN : RNx K mg "NoNumber" CNN := ⟨exc_in xLNN (ns_ok n1NN n2NN) n3NN (tail1 xLS (ns_ok n1S n2S) n3S), m_NN, x4NN, x2NN, x3NN⟩
  have teNN := PySem.W.exm_ref x2NN y8NN x3NN x7NN
  have m_PL : mg "NoSeries" = some (.ref CPL) := PySem.W.mg_of X G aPL
  have F_PLI := fun_mk (st := s_placeInit) lPLI cPLI kPLI
  have b_PLI := F_PLI.binds (ps := ["self", "place"]) fun _ _ _ _ _ _ us hl => match us, hl with | [_, _], _ => rfl
  have F_told := fun_mk (st := s_told) ltold ctold ktold
  have b_told := F_told.binds (ps := ["self"]) fun _ _ _ _ _ _ us hl => match us, hl with | [_], _ => rfl
  have NPL : NTxF K "place" CPL fPLI := ⟨⟨⟨nmPL, qPL, NaPL, bsPL, _, snPL, subPL, abPL, colPL, ddPL, m0PL, m1PL, m2PL, m3PL, m5PL, xLPL, rfl⟩, x1PL, x2PL, x3PL, x4PL⟩, x5PL, aPLI, x6PL⟩
  have tePL := PySem.W.exm_ref x2PL y8PL x3PL x7PL
  have xfPL : XfC K CPL := ⟨y2PL, y3PL, x2PL, y8PL⟩
  have Z : KZx K CR := ⟨kit_tyo hdR q3R w_int, kit_tyo hdR q3R w_str, kit_tyo hdR q3R w_NoneType⟩
  have Z3 : KZ3 K CR := ⟨kit_tyo hdR q3R w_bool, kit_tyo hdR q3R w_list, kit_tyo hdR q3R w_tuple, kit_tyo hdR q3R w_dict⟩
  have KR : KRd K CR CRd := ⟨kit_tyo hdRd q3Rd wd_int, kit_tyo hdRd q3Rd wd_str, kit_tyo hdRd q3Rd wd_NoneType, kit_tyo hdRd q3Rd wd_bool, kit_tyo hdRd q3Rd wd_list, kit_tyo hdRd q3Rd wd_tuple, kit_tyo hdRd q3Rd wd_dict, kit_ownF hdRd q3Rd wd_R wd_self, kit_ty2 (by decide +kernel) wR_list, kit_ty2 (by decide +kernel) wR_tuple⟩
  have TF : FTx K CF := ⟨⟨pgF, hdF, poF, saF⟩, nF_prime⟩
  have YF : IFy K CF := ⟨q1F, y5, y6, q2F, kit_tyo hdF q3F wF_int⟩
  have MF : Mk K CF fFI := ⟨mkF, aFI, iFI, kcF⟩
  have TRd : IRd K CRd := ⟨⟨pgRd, hdRd, poRd, saRd⟩, nRd_row, q1Rd, y5, y6, q2Rd⟩
  have MRd : Mk K CRd frd := ⟨mkRd, ard, ird, kcRd⟩
  have TSe : STx K CSe := ⟨⟨pgSe, hdSe, poSe, saSe⟩, nSe_field, nSe_coefficients, nSe_known, q1Se, y5, y6, q2Se⟩
  have MSe : Mk K CSe fsinit := ⟨mkSe, asinit, isinit, kcSe⟩
  have TRr : TRr K CRr := ⟨⟨pgRr, hdRr, poRr, saRr⟩, nRr_field, nRr__held⟩
  have MRr : Mk K CRr frinit := ⟨mkRr, arinit, irinit, kcRr⟩
  have PG : PropOf K CRr "numbers" pnum frget := ⟨pa1, pa2, pa3, ⟨_, pa4⟩⟩
  have PS : PropSet K CRr "numbers" pnum frset := ⟨pa5, pa6, ⟨_, _, pa4⟩⟩
  have CM : Con K CRr "MOST" (.int 32) (.int 32 tkM) := ⟨mo1, ⟨_, rfl⟩, mo2, by decide +kernel⟩
  have d_iadd : dunderI Operator.Add.info.2 = ("__iadd__" : Str) := by decide +kernel
  have IO : IOp K CRr friadd (dunderI Operator.Add.info.2) := ⟨by rw [d_iadd]; exact ariadd, iriadd⟩
  have RT : RTx mg := ⟨PySem.W.mg_of X G g_isqrt, z_range⟩
  have BQ : QTx mg := ⟨z_isinstance, z_list, z_tuple, z_len⟩
  have GP : mg "GREATEST_PRIME" = some (.int 9973 tkGP) := PySem.W.mg_of X G g_GP
  have GMP : mg "MOST_PASSED" = some (.int 32 tkMP) := PySem.W.mg_of X G g_MP
  obtain ⟨ds2, v2, b_F⟩ := F_FI.binds1 (ps := ["self", "prime"]) 2 1 (by simp) rfl fun _ _ _ _ _ _ _ us its hl hi => match us, its, hl, hi with | [_, _], [_], _, _ => ⟨_, rfl, rfl⟩
  cases v2
  have nfFF : PySem.W.notFirst K CF (.ref CF) = true := by simp [PySem.W.notFirst]
  refine ⟨PySem.W.fnOf "law" "law" (defArgs s_law) (defBody s_law) (defScope s_law) .none kVla dcla pmla anla cdla ctla, fun s v => .of_eq rfl, fun base _ _ => ?_⟩
  have G_NI := ok_noRatioInit (P := P) (w := w) (mg := mg) (base := base) F_NI NN
  have G_II := ok_isint (P := P) (w := w) (mg := mg) (base := base) F_II I
  have G_R := ok_ratioInit (P := P) (w := w) (mg := mg) (base := base) F_RI T NN GT G_NI b_NI G_II m_II kII b_II
  have G_draw := ok_draw  (P := P) (w := w) (mg := mg) (base := base) F_draw D
  have G_stream := ok_stream  (P := P) (w := w) (mg := mg) (base := base) F_stream D
  have G_lisint := ok_lisint  (P := P) (w := w) (mg := mg) (base := base) F_lisint I
  have G_isnum := ok_isnum  (P := P) (w := w) (mg := mg) (base := base) F_isnum I m_R G_II m_II kII b_II
  have G_asr := ok_asratio (P := P) (w := w) (mg := mg) (base := base) F_asr T Y Z I m_R M G_R b_R1 v1
  have G_eq := ok_req  (P := P) (w := w) (mg := mg) (base := base) F_eq T Y Z I m_R G_II m_II kII b_II
  have G_isp := ok_isprime  (P := P) (w := w) (mg := mg) (base := base) F_isp RT
  have G_inv := ok_inverse  (P := P) (w := w) (mg := mg) (base := base) F_inv
  have G_F := ok_finit (P := P) (w := w) (mg := mg) (base := base) F_FI TF RNNF GP G_II m_II kII b_II G_isp m_isp kisp b_isp
  have G_feq := ok_feq  (P := P) (w := w) (mg := mg) (base := base) F_feq TF YF I m_F
  have G_numI := ok_numI (P := P) (w := w) (mg := mg) (base := base) F_fnum T TF Z I m_R RNNN G_isnum m_isnum kisnum b_isnum G_asr m_asr kasr b_asr
  have G_overI := ok_overI (P := P) (w := w) (mg := mg) (base := base) F_fover TF RNNN ⟨afnum, ifnum, kfnum⟩ G_numI b_fnum G_inv m_inv kinv b_inv
  have G_fnum := ok_num (P := P) (w := w) (mg := mg) (base := base) F_fnum T TF Y Z I m_R RNNN G_isnum m_isnum kisnum b_isnum G_asr m_asr kasr b_asr ⟨afover, ifover, kfover⟩ G_overI b_fover
  have G_lip := ok_lip  (P := P) (w := w) (mg := mg) (base := base) F_lip D
  have G_anyp := ok_anyp  (P := P) (w := w) (mg := mg) (base := base) F_anyp D G_draw m_draw kdraw b_draw G_lip m_lip klip b_lip
  have G_lpr := ok_lpr  (P := P) (w := w) (mg := mg) (base := base) F_lpr G_draw m_draw kdraw b_draw G_anyp m_anyp kanyp b_anyp
  have G_PLI := ok_placeInit  (P := P) (w := w) (mg := mg) (base := base) F_PLI NPL
  have G_seq := ok_isseq  (P := P) (w := w) (mg := mg) (base := base) F_seq BQ
  have G_taken := ok_taken  (P := P) (w := w) (mg := mg) (base := base) F_taken TF m_NN teNN (⟨afnum, ifnum, kfnum⟩) G_fnum b_fnum
  have G_rd := ok_rd  (P := P) (w := w) (mg := mg) (base := base) F_rd BQ TRd
  have G_snum := ok_snum  (P := P) (w := w) (mg := mg) (base := base) F_snum BQ m_PL NPL G_PLI b_PLI G_taken m_taken ktaken b_taken
  have G_srow := ok_srow  (P := P) (w := w) (mg := mg) (base := base) F_srow BQ TRd m_Rd GMP m_PL NPL G_PLI b_PLI G_seq m_seq kseq b_seq G_snum m_snum ksnum b_snum
  have G_sinit := ok_sinit  (P := P) (w := w) (mg := mg) (base := base) F_sinit BQ TSe m_PL NPL G_PLI b_PLI ⟨aeq, ieq⟩ nf_int G_eq b_eq G_srow m_srow ksrow b_srow
  have G_rinit := ok_rinit (C := CR) (CF := CF) (P := P) (w := w) (mg := mg) (base := base) F_rinit TRr
  have G_rlen := ok_rlen (C := CR) (CF := CF) (P := P) (w := w) (mg := mg) (base := base) F_rlen TRr BQ
  have G_rget := ok_rget (C := CR) (CF := CF) (P := P) (w := w) (mg := mg) (base := base) F_rget TRr
  have G_rset := ok_rset  (P := P) (w := w) (mg := mg) (base := base) F_rset TRr TSe BQ G_seq m_seq kseq b_seq MSe G_sinit b_sinit m_Se
  have G_fill := ok_fill  (P := P) (w := w) (mg := mg) (base := base) F_fill TRr PS G_rset b_rset
  have G_riadd := ok_riadd  (P := P) (w := w) (mg := mg) (base := base) F_riadd TRr BQ KR CM G_seq m_seq kseq b_seq G_taken m_taken ktaken b_taken m_PL NPL G_PLI b_PLI PS G_rset b_rset
  have G_rser := ok_rser  (P := P) (w := w) (mg := mg) (base := base) F_rser TRr BQ m_PL NPL G_PLI b_PLI MSe G_sinit b_sinit m_Se MRd G_rd b_rd m_Rd
  have G_told := ok_told  (P := P) (w := w) (mg := mg) (base := base) F_told
  have TB : ToldBy P w K mg base CPL "refused noseries" := ⟨y2PL, y3PL, ⟨ftold, _, atold, itold, ktold, G_told, b_told⟩⟩
  have G_small := ok_small  (P := P) (w := w) (mg := mg) (base := base) F_small G_draw m_draw kdraw b_draw
  have G_nonz := ok_nonz  (P := P) (w := w) (mg := mg) (base := base) F_nonz
  have G_given := ok_given  (P := P) (w := w) (mg := mg) (base := base) F_given D m_R M G_R b_R
  have G_rowg := ok_rowg  (P := P) (w := w) (mg := mg) (base := base) F_rowg G_given m_given kgiven b_given
  have G_lpair := ok_lpair  (P := P) (w := w) (mg := mg) (base := base) F_lpair T Y I m_R G_lisint m_lisint klisint b_lisint
  have G_lpairs := ok_lpairs  (P := P) (w := w) (mg := mg) (base := base) F_lpairs G_lpair m_lpair klpair b_lpair
  have G_spairs := ok_spairs  (P := P) (w := w) (mg := mg) (base := base) F_spairs BQ TSe TF YF I m_Se m_F MF G_F b_F ⟨afeq, ifeq⟩ nfFF G_feq b_feq G_lpairs m_lpairs klpairs b_lpairs
  have G_set := ok_set  (P := P) (w := w) (mg := mg) (base := base) F_set m_PL NPL tePL xfPL TB G_fill m_fill kfill b_fill
  have G_added := ok_added  (P := P) (w := w) (mg := mg) (base := base) F_added m_PL NPL tePL xfPL TB IO sfR G_riadd b_riadd
  have G_reader := ok_reader  (P := P) (w := w) (mg := mg) (base := base) F_reader KR m_Rr MRr G_rinit b_rinit m_F MF G_F b_F G_rowg m_rowg krowg b_rowg G_fill m_fill kfill b_fill
  have G_due := ok_due  (P := P) (w := w) (mg := mg) (base := base) F_due BQ
  exact ok_law F_la D BQ TRr Z Z3 KR PG G_rget b_rget ⟨arlen, irlen⟩ G_rlen b_rlen (⟨arser, irser, krser⟩) G_rser b_rser G_draw m_draw kdraw b_draw G_stream m_stream kstream b_stream G_lpr m_lpr klpr b_lpr G_small m_small ksmall b_small G_nonz m_nonz knonz b_nonz G_rowg m_rowg krowg b_rowg G_reader m_reader kreader b_reader G_set m_set kset b_set G_added m_added kadded b_added G_due m_due kdue b_due G_lpairs m_lpairs klpairs b_lpairs G_spairs m_spairs kspairs b_spairs
theorem walk {l : PySem.W.OpenLaw} {q : Program} {loose : List Str} {XP : (Str → Option Value) → Heap → Prop} {YP : World → Heap → Prop} {d : DefRec} {K : Params → PySem.W.Frag} (hn : l.most = some 63) (hdf : d.params.defaults = [])
    (hY : ∀ (w : World) (h : Heap), YP w h → (K w.params).In h)
    (F : ∀ (w : World) (mg : Str → Option Value) (fa : Addr) (h : Heap), (K w.params).In h → h.Ns mainGlobals mg → mg d.name = some (.ref fa) →
      ∃ fd : FuncData, (∀ (s : Shared) (u : Value), BindsTo s fd ⟨[u], []⟩ [("_law_script", u)]) ∧ ∀ base : Heap, (K w.params).In base → base.Ns mainGlobals mg → FnOk l.prog w (K w.params) mg base CX0 19 fa fd ["_law_script"] (spLaw (K w.params))) :
    PySem.W.WalkO q loose XP YP l.row.toRowW d [] (fun f vs => PySem.call f vs) :=
  L2.walk_of (n := 63) (k := 19) (x := "_law_script") (CX := fun _ => CX0) (sp := fun w => spLaw (K w.params)) hn (by decide) hdf ⟨rfl, by decide, by decide⟩ hY F (fun _ _ a ns hl _ hS => ⟨a, ns, rfl, hS, hl, fun _ => rfl⟩) fun _ _ _ _ _ z => z
end Sq

-- needs KE.OsRunLaw
open PySem PySem.W PyProof.Rows
section
set_option hygiene false
local macro_rules | `(tactic| kernel_rfl) => `(tactic| (rename_i w0; with_reducible refine Sq.splitRun ?_ (Sq.splitRun ?_ ?_); exact r1 w0; (refine Sq.splitF rfl ?_ ?_; exact r2 w0; exact r3 w0); exact r4 w0))
set_option maxRecDepth 100000 in
set_option maxHeartbeats 0 in
@[reducible] noncomputable def Sq.hd : Sq.RunP PySem.Challenge.rw_seriessquares_k85_numbers_set_and_added.Holds := by
  apply Sq.runP
  intro r1 r2 r3 r4
  w_on; o_law; k_headL; (case hw => w_witness2)
  k_fill
  refine Sq.walk (l := PySem.Challenge.rw_seriessquares_k85_numbers_set_and_added) rfl rfl (fun w h Y => PySem.W.kIn_of Y) ?F
  case F =>
    intro w mg fa h KX G hmg
    refine' Sq.all_mk KX G hmg ?aN ?x3N ?aNI ?lNI ?cNI ?kNI ?y5 ?y6 ?xLN ?x1N ?x2N ?x4N ?x5N ?x6N ?aII ?lII ?cII ?kII ?aR ?pgR ?hdR ?poR ?saR ?mkR ?kcR ?nR_top ?nR_bottom ?q1R ?q2R ?q3R ?aRI ?lRI ?cRI ?kRI ?iRI ?eRI ?w3 ?w4 ?g_gcd ?z_len ?z_abs ?z_int ?z_range ?z_isinstance ?z_bool ?z_list ?z_tuple ?adraw ?ldraw ?cdraw ?kdraw ?astream ?lstream ?cstream ?kstream ?alisint ?llisint ?clisint ?klisint ?aisnum ?lisnum ?cisnum ?kisnum ?aasr ?lasr ?casr ?kasr ?aeq ?leq ?ceq ?keq ?ieq ?aisp ?lisp ?cisp ?kisp ?ainv ?linv ?cinv ?kinv ?aF ?pgF ?hdF ?poF ?saF ?mkF ?kcF ?nF_prime ?q1F ?q2F ?q3F ?aFI ?lFI ?cFI ?kFI ?iFI ?eFI ?afeq ?lfeq ?cfeq ?kfeq ?ifeq ?afnum ?lfnum ?cfnum ?kfnum ?ifnum ?afover ?lfover ?cfover ?kfover ?ifover ?aseq ?lseq ?cseq ?kseq ?ataken ?ltaken ?ctaken ?ktaken ?asnum ?lsnum ?csnum ?ksnum ?asrow ?lsrow ?csrow ?ksrow ?aRd ?pgRd ?hdRd ?poRd ?saRd ?mkRd ?kcRd ?nRd_row ?q1Rd ?q2Rd ?q3Rd ?ard ?lrd ?crd ?krd ?ird ?aSe ?pgSe ?hdSe ?poSe ?saSe ?mkSe ?kcSe ?nSe_field ?nSe_coefficients ?nSe_known ?q1Se ?q2Se ?asinit ?lsinit ?csinit ?ksinit ?isinit ?aRr ?pgRr ?hdRr ?poRr ?saRr ?mkRr ?kcRr ?nRr_field ?nRr__held ?arinit ?lrinit ?crinit ?krinit ?irinit ?arlen ?lrlen ?crlen ?krlen ?irlen ?ariadd ?lriadd ?criadd ?kriadd ?iriadd ?arser ?lrser ?crser ?krser ?irser ?pa1 ?pa2 ?pa3 ?pa4 ?pa5 ?pa6 ?lrget ?crget ?krget ?lrset ?crset ?krset ?mo1 ?mo2 ?sfR ?afill ?lfill ?cfill ?kfill ?alip ?llip ?clip ?klip ?aanyp ?lanyp ?canyp ?kanyp ?alpr ?llpr ?clpr ?klpr ?asmall ?lsmall ?csmall ?ksmall ?anonz ?lnonz ?cnonz ?knonz ?agiven ?lgiven ?cgiven ?kgiven ?arowg ?lrowg ?crowg ?krowg ?alpair ?llpair ?clpair ?klpair ?alpairs ?llpairs ?clpairs ?klpairs ?aspairs ?lspairs ?cspairs ?kspairs ?aset ?lset ?cset ?kset ?aadded ?ladded ?cadded ?kadded ?areader ?lreader ?creader ?kreader ?adue ?ldue ?cdue ?kdue ?ala ?lla ?cla ?kla ?w_int ?w_str ?w_NoneType ?w_bool ?w_list ?w_tuple ?w_dict ?wF_int ?nf_int ?g_isqrt ?g_GP ?g_MP ?wd_int ?wd_str ?wd_NoneType ?wd_bool ?wd_list ?wd_tuple ?wd_dict ?wd_R ?wd_self ?wR_list ?wR_tuple ?aNF ?xLNF ?x3NF ?x4NF ?x2NF ?aNN ?xLNN ?x3NN ?x4NN ?x2NN ?x7NN ?y8NN ?xLS ?n1S ?n2S ?n3S ?n1NF ?n2NF ?n3NF ?n1NN ?n2NN ?n3NN ?aPL ?x3PL ?y8PL ?aPLI ?lPLI ?cPLI ?kPLI ?atold ?ltold ?ctold ?ktold ?itold ?xLPL ?x1PL ?x2PL ?x4PL ?x5PL ?x6PL ?x7PL ?y2PL ?y3PL
    (case aN => k_is)
    (case x3N => k_is)
    (case aNI => k_is)
    (case lNI => k_is)
    (case cNI => k_is)
    (case kNI => k_is)
    (case y5 => k_is)
    (case y6 => k_is)
    (case xLN => k_is)
    (case x1N => k_is)
    (case x2N => k_is)
    (case x4N => k_is)
    (case x5N => k_is)
    (case x6N => k_is)
    (case aII => k_is)
    (case lII => k_is)
    (case cII => k_is)
    (case kII => k_is)
    (case aR => k_is)
    (case pgR => k_is)
    (case hdR => k_is)
    (case poR => k_is)
    (case saR => k_is)
    (case mkR => k_is)
    (case kcR => k_is)
    (case nR_top => k_is)
    (case nR_bottom => k_is)
    (case q1R => k_is)
    (case q2R => k_is)
    (case q3R => k_is)
    (case aRI => k_is)
    (case lRI => k_is)
    (case cRI => k_is)
    (case kRI => k_is)
    (case iRI => k_is)
    (case eRI => k_is)
    (case w3 => k_is)
    (case w4 => k_is)
    (case g_gcd => k_is)
    (case z_len => k_is)
    (case z_abs => k_is)
    (case z_int => k_is)
    (case z_range => k_is)
    (case z_isinstance => k_is)
    (case z_bool => k_is)
    (case z_list => k_is)
    (case z_tuple => k_is)
    (case adraw => k_is)
    (case ldraw => k_is)
    (case cdraw => k_is)
    (case kdraw => k_is)
    (case astream => k_is)
    (case lstream => k_is)
    (case cstream => k_is)
    (case kstream => k_is)
    (case alisint => k_is)
    (case llisint => k_is)
    (case clisint => k_is)
    (case klisint => k_is)
    (case aisnum => k_is)
    (case lisnum => k_is)
    (case cisnum => k_is)
    (case kisnum => k_is)
    (case aasr => k_is)
    (case lasr => k_is)
    (case casr => k_is)
    (case kasr => k_is)
    (case aeq => k_is)
    (case leq => k_is)
    (case ceq => k_is)
    (case keq => k_is)
    (case ieq => k_is)
    (case aisp => k_is)
    (case lisp => k_is)
    (case cisp => k_is)
    (case kisp => k_is)
    (case ainv => k_is)
    (case linv => k_is)
    (case cinv => k_is)
    (case kinv => k_is)
    (case aF => k_is)
    (case pgF => k_is)
    (case hdF => k_is)
    (case poF => k_is)
    (case saF => k_is)
    (case mkF => k_is)
    (case kcF => k_is)
    (case nF_prime => k_is)
    (case q1F => k_is)
    (case q2F => k_is)
    (case q3F => k_is)
    (case aFI => k_is)
    (case lFI => k_is)
    (case cFI => k_is)
    (case kFI => k_is)
    (case iFI => k_is)
    (case eFI => k_is)
    (case afeq => k_is)
    (case lfeq => k_is)
    (case cfeq => k_is)
    (case kfeq => k_is)
    (case ifeq => k_is)
    (case afnum => k_is)
    (case lfnum => k_is)
    (case cfnum => k_is)
    (case kfnum => k_is)
    (case ifnum => k_is)
    (case afover => k_is)
    (case lfover => k_is)
    (case cfover => k_is)
    (case kfover => k_is)
    (case ifover => k_is)
    (case aseq => k_is)
    (case lseq => k_is)
    (case cseq => k_is)
    (case kseq => k_is)
    (case ataken => k_is)
    (case ltaken => k_is)
    (case ctaken => k_is)
    (case ktaken => k_is)
    (case asnum => k_is)
    (case lsnum => k_is)
    (case csnum => k_is)
    (case ksnum => k_is)
    (case asrow => k_is)
    (case lsrow => k_is)
    (case csrow => k_is)
    (case ksrow => k_is)
    (case aRd => k_is)
    (case pgRd => k_is)
    (case hdRd => k_is)
    (case poRd => k_is)
    (case saRd => k_is)
    (case mkRd => k_is)
    (case kcRd => k_is)
    (case nRd_row => k_is)
    (case q1Rd => k_is)
    (case q2Rd => k_is)
    (case q3Rd => k_is)
    (case ard => k_is)
    (case lrd => k_is)
    (case crd => k_is)
    (case krd => k_is)
    (case ird => k_is)
    (case aSe => k_is)
    (case pgSe => k_is)
    (case hdSe => k_is)
    (case poSe => k_is)
    (case saSe => k_is)
    (case mkSe => k_is)
    (case kcSe => k_is)
    (case nSe_field => k_is)
    (case nSe_coefficients => k_is)
    (case nSe_known => k_is)
    (case q1Se => k_is)
    (case q2Se => k_is)
    (case asinit => k_is)
    (case lsinit => k_is)
    (case csinit => k_is)
    (case ksinit => k_is)
    (case isinit => k_is)
    (case aRr => k_is)
    (case pgRr => k_is)
    (case hdRr => k_is)
    (case poRr => k_is)
    (case saRr => k_is)
    (case mkRr => k_is)
    (case kcRr => k_is)
    (case nRr_field => k_is)
    (case nRr__held => k_is)
    (case arinit => k_is)
    (case lrinit => k_is)
    (case crinit => k_is)
    (case krinit => k_is)
    (case irinit => k_is)
    (case arlen => k_is)
    (case lrlen => k_is)
    (case crlen => k_is)
    (case krlen => k_is)
    (case irlen => k_is)
    (case ariadd => k_is)
    (case lriadd => k_is)
    (case criadd => k_is)
    (case kriadd => k_is)
    (case iriadd => k_is)
    (case arser => k_is)
    (case lrser => k_is)
    (case crser => k_is)
    (case krser => k_is)
    (case irser => k_is)
    (case pa1 => k_is)
    (case pa2 => k_is)
    (case pa3 => k_is)
    (case pa4 => k_is)
    (case pa5 => k_is)
    (case pa6 => k_is)
    (case lrget => k_is)
    (case crget => k_is)
    (case krget => k_is)
    (case lrset => k_is)
    (case crset => k_is)
    (case krset => k_is)
    (case mo1 => k_is)
    (case mo2 => k_is)
    (case sfR => k_is)
    (case afill => k_is)
    (case lfill => k_is)
    (case cfill => k_is)
    (case kfill => k_is)
    (case alip => k_is)
    (case llip => k_is)
    (case clip => k_is)
    (case klip => k_is)
    (case aanyp => k_is)
    (case lanyp => k_is)
    (case canyp => k_is)
    (case kanyp => k_is)
    (case alpr => k_is)
    (case llpr => k_is)
    (case clpr => k_is)
    (case klpr => k_is)
    (case asmall => k_is)
    (case lsmall => k_is)
    (case csmall => k_is)
    (case ksmall => k_is)
    (case anonz => k_is)
    (case lnonz => k_is)
    (case cnonz => k_is)
    (case knonz => k_is)
    (case agiven => k_is)
    (case lgiven => k_is)
    (case cgiven => k_is)
    (case kgiven => k_is)
    (case arowg => k_is)
    (case lrowg => k_is)
    (case crowg => k_is)
    (case krowg => k_is)
    (case alpair => k_is)
    (case llpair => k_is)
    (case clpair => k_is)
    (case klpair => k_is)
    (case alpairs => k_is)
    (case llpairs => k_is)
    (case clpairs => k_is)
    (case klpairs => k_is)
    (case aspairs => k_is)
    (case lspairs => k_is)
    (case cspairs => k_is)
    (case kspairs => k_is)
    (case aset => k_is)
    (case lset => k_is)
    (case cset => k_is)
    (case kset => k_is)
    (case aadded => k_is)
    (case ladded => k_is)
    (case cadded => k_is)
    (case kadded => k_is)
    (case areader => k_is)
    (case lreader => k_is)
    (case creader => k_is)
    (case kreader => k_is)
    (case adue => k_is)
    (case ldue => k_is)
    (case cdue => k_is)
    (case kdue => k_is)
    (case ala => k_is)
    (case lla => k_is)
    (case cla => k_is)
    (case kla => k_is)
    (case w_int => k_is)
    (case w_str => k_is)
    (case w_NoneType => k_is)
    (case w_bool => k_is)
    (case w_list => k_is)
    (case w_tuple => k_is)
    (case w_dict => k_is)
    (case wF_int => k_is)
    (case nf_int => k_is)
    (case g_isqrt => k_is)
    (case g_GP => k_is)
    (case g_MP => k_is)
    (case wd_int => k_is)
    (case wd_str => k_is)
    (case wd_NoneType => k_is)
    (case wd_bool => k_is)
    (case wd_list => k_is)
    (case wd_tuple => k_is)
    (case wd_dict => k_is)
    (case wd_R => k_is)
    (case wd_self => k_is)
    (case wR_list => k_is)
    (case wR_tuple => k_is)
    (case aNF => k_is)
    (case xLNF => k_is)
    (case x3NF => k_is)
    (case x4NF => k_is)
    (case x2NF => k_is)
    (case aNN => k_is)
    (case xLNN => k_is)
    (case x3NN => k_is)
    (case x4NN => k_is)
    (case x2NN => k_is)
    (case x7NN => k_is)
    (case y8NN => k_is)
    (case xLS => k_is)
    (case n1S => k_is)
    (case n2S => rfl)
    (case n3S => k_is)
    (case n1NF => k_is)
    (case n2NF => rfl)
    (case n3NF => k_is)
    (case n1NN => k_is)
    (case n2NN => rfl)
    (case n3NN => k_is)
    (case aPL => k_is)
    (case x3PL => k_is)
    (case y8PL => k_is)
    (case aPLI => k_is)
    (case lPLI => k_is)
    (case cPLI => k_is)
    (case kPLI => k_is)
    (case atold => k_is)
    (case ltold => k_is)
    (case ctold => k_is)
    (case ktold => k_is)
    (case itold => k_is)
    (case xLPL => k_is)
    (case x1PL => k_is)
    (case x2PL => k_is)
    (case x4PL => k_is)
    (case x5PL => k_is)
    (case x6PL => k_is)
    (case x7PL => k_is)
    (case y2PL => k_is)
    (case y3PL => k_is)
end
set_option maxHeartbeats 0
theorem Sq.runs_1 : ∀ w : World, Sq.hd.1 w := fun w => cast (by kernel_rfl : Sq.hd0.1 w = Sq.hd.1 w) (Sq.run_1 w)
theorem Sq.runs_2 : ∀ w : World, Sq.hd.2.1 w := fun w => cast (by kernel_rfl : Sq.hd0.2.1 w = Sq.hd.2.1 w) (Sq.run_2 w)
theorem Sq.runs_3 : ∀ w : World, Sq.hd.2.2.1 w := fun w => cast (by kernel_rfl : Sq.hd0.2.2.1 w = Sq.hd.2.2.1 w) (Sq.run_3 w)
theorem Sq.runs_4 : ∀ w : World, Sq.hd.2.2.2.1 w := fun w => cast (by kernel_rfl : Sq.hd0.2.2.2.1 w = Sq.hd.2.2.2.1 w) (Sq.run_4 w)
theorem PySem.Challenge.cw_seriessquares_k85_numbers_set_and_added_holds : PySem.Challenge.rw_seriessquares_k85_numbers_set_and_added.Holds :=
  Sq.hd.2.2.2.2 Sq.runs_1 Sq.runs_2 Sq.runs_3 Sq.runs_4

