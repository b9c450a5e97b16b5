import PyProof.Rows.All
import KE.OsRunLaw
import Wide.All
import OpenK.AllK
import Wide.FinOn
import HandS.ForMost
import HandS.ForExc
import HandS.Codes
import HandS.Wide
import HandS.Gcd
import HandS.Flow
import HandS.IsInst
import HandS.ExcInit
import HandS.ExcField
import HandS.ExcIs
import HandS.Defaults
import HandS.MakeKw
import HandS.MakeKwOnly
import HandS.TryOnly
import HandS.EndBits
import KE.KExcIs
import KE.KOpsOwn
import HandS.ClsMeth
import HandS.Conv
import HandS.Walk
import HandS.Rev
import HandS.Star
import HandS.TupAny
import HandS.OwnEq
import OpenK.KOps
import HandS.Deep
import HandS.Style
import PySem.Challenge.RW_seriessquares_k16_square_has
set_option Elab.async false
set_option linter.all false
set_option maxRecDepth 100000
set_option maxHeartbeats 4000000
-- needs KE.OsRunLaw
namespace Sq
open PySem PySem.W
theorem splitRun {α β γ : Type} {x : Option α} {f : α → β} {g : α → γ} {a : β} {b : γ} (h1 : x.map f = some a) (h2 : x.map g = some b) : x.map (fun s => (f s, g s)) = some (a, b) := by
  cases x with
  | none => cases h1
  | some v =>
    cases h1
    cases h2
    rfl
theorem splitF {α β γ : Type} {x : Option α} {f : α → β × γ} {a : β × γ} {a1 : β} {a2 : γ} (e : a = (a1, a2)) (h1 : x.map (fun s => (f s).1) = some a1) (h2 : x.map (fun s => (f s).2) = some a2) : x.map f = some a := by
  cases x with
  | none => cases h1
  | some v =>
    have e1 : (f v).1 = a1 := Option.some.inj h1
    have e2 : (f v).2 = a2 := Option.some.inj h2
    rw [e]
    exact congrArg some (Prod.ext e1 e2)
abbrev RunP (H : Prop) := Σ' (R1 R2 R3 R4 R5 R6 R7 : World → Prop), (∀ w, R1 w) → (∀ w, R2 w) → (∀ w, R3 w) → (∀ w, R4 w) → (∀ w, R5 w) → (∀ w, R6 w) → (∀ w, R7 w) → H
abbrev runP {H : Prop} {R1 R2 R3 R4 R5 R6 R7 : World → Prop} (h : (∀ w, R1 w) → (∀ w, R2 w) → (∀ w, R3 w) → (∀ w, R4 w) → (∀ w, R5 w) → (∀ w, R6 w) → (∀ w, R7 w) → H) : RunP H := ⟨R1, R2, R3, R4, R5, R6, R7, h⟩
end Sq
open PySem PySem.W PyProof.Rows
section
set_option hygiene false
local macro_rules | `(tactic| kernel_rfl) => `(tactic| exact hF.elim)
local macro_rules | `(tactic| kernel_rfl) => `(tactic| (rename_i w0; with_reducible refine Sq.splitRun ?_ (Sq.splitRun ?_ ?_); exact r1 w0; (unfold PySem.W.openGood; refine Sq.splitF rfl ?_ ?_; exact r2 w0; refine Sq.splitF rfl ?_ ?_; exact r3 w0; refine Sq.splitF rfl ?_ ?_; exact r4 w0; refine Sq.splitF rfl ?_ ?_; exact r5 w0; exact r6 w0); exact r7 w0))
set_option maxRecDepth 100000 in
set_option maxHeartbeats 0 in
@[reducible] noncomputable def Sq.hd0 : Sq.RunP (False → PySem.Challenge.rw_seriessquares_k16_square_has.Holds) := by
  apply Sq.runP
  intro r1 r2 r3 r4 r5 r6 r7 hF
  w_on; o_law; k_headL; (case hw => w_witness2)
  all_goals exact hF.elim
end
set_option maxHeartbeats 0 in
theorem Sq.run_1 : ∀ w : World, Sq.hd0.1 w := fun w => by kernel_rfl
set_option maxHeartbeats 0 in
theorem Sq.run_2 : ∀ w : World, Sq.hd0.2.1 w := fun w => by kernel_rfl
set_option maxHeartbeats 0 in
theorem Sq.run_3 : ∀ w : World, Sq.hd0.2.2.1 w := fun w => by kernel_rfl
set_option maxHeartbeats 0 in
theorem Sq.run_4 : ∀ w : World, Sq.hd0.2.2.2.1 w := fun w => by kernel_rfl
set_option maxHeartbeats 0 in
theorem Sq.run_5 : ∀ w : World, Sq.hd0.2.2.2.2.1 w := fun w => by kernel_rfl
set_option maxHeartbeats 0 in
theorem Sq.run_6 : ∀ w : World, Sq.hd0.2.2.2.2.2.1 w := fun w => by kernel_rfl
set_option maxHeartbeats 0 in
theorem Sq.run_7 : ∀ w : World, Sq.hd0.2.2.2.2.2.2.1 w := fun w => by kernel_rfl

namespace Sq
open PySem L2
def top (i : Nat) : Stmt := PySem.Challenge.pw_seriessquares_k16_square_has.main.body.getD i (.Pass ⟨0, 0, 0, 0⟩)
abbrev s_state : Stmt := top 61
abbrev s_draw : Stmt := top 62
abbrev s_gcd : Stmt := top 63
/-- the heap stands but at p -/
def But (p : Addr) (H H' : Hp) : Prop := ∀ b o, H b = some o → b ≠ p → H' b = some o
theorem But.refl (p : Addr) (H : Hp) : But p H H := fun _ _ h _ => h
theorem But.trans {p : Addr} {H H1 H2 : Hp} (a : But p H H1) (b : But p H1 H2) : But p H H2 := fun c o h n => b c o (a c o h n) n
theorem But.upd {p : Addr} {H H1 : Hp} {o : HO} (a : But p H H1) : But p H (upd H1 p o) := fun c u h n => (upd_ne n).trans (a c u h n)
theorem But.new {p q : Addr} {H H1 : Hp} {o : HO} (a : But p H H1) (n : H1 q = none) : But p H (L2.upd H1 q o) := fun c u h nc => (upd_ne (ne_of_none (a c u h nc) n)).trans (a c u h nc)
theorem Same.but {p : Addr} {H H1 : Hp} (a : Same H H1) : But p H H1 := fun c u h _ => a c u h
/-- the five things of the state, and the script's ints -/
def St5 (H : Hp) (p a : Addr) (ns : List Int) (i l m c : Int) : Prop := H p = some (.lst [.ref a, .int i, .int l, .int m, .int c]) ∧ H a = some (.lst (ns.map V.int)) ∧ a ≠ p ∧ 0 ≤ i ∧ 0 ≤ m ∧ m < 2147483648
def StAt (H : Hp) (p : Addr) : Prop := ∃ a ns i l m c, St5 H p a ns i l m c
def spDraw : Sp := fun vs H Q _ => ∃ (p : Addr) (n : Int), vs = [.ref p, .int n] ∧ 0 < n ∧ n < 1073741824 ∧ StAt H p ∧ ∀ v H', 0 ≤ v → v < n → StAt H' p → But p H H' → Q (.int v) H'
/-- the state, its numbers at a -/
def StA (H : Hp) (p a : Addr) : Prop := ∃ ns i l m c, St5 H p a ns i l m c
theorem StA.at_ {H : Hp} {p a : Addr} (S : StA H p a) : StAt H p := ⟨a, S⟩
def spDrawA : Sp := fun vs H Q _ => ∃ (p : Addr) (n : Int) (a : Addr), vs = [.ref p, .int n] ∧ 0 < n ∧ n < 1073741824 ∧ StA H p a ∧ ∀ v H', 0 ≤ v → v < n → StA H' p a → But p H H' → Q (.int v) H'
theorem St5.set {H : Hp} {p a : Addr} {ns : List Int} {i l m c : Int} (S : St5 H p a ns i l m c) {i' l' m' c' : Int} (h0 : 0 ≤ i') (h1 : 0 ≤ m') (h2 : m' < 2147483648) :
    St5 (upd H p (.lst [.ref a, .int i', .int l', .int m', .int c'])) p a ns i' l' m' c' := ⟨upd_same, (upd_ne S.2.2.1).trans S.2.1, S.2.2.1, h0, h1, h2⟩
structure DTx (mg : Str → Option Value) : Prop where
  b_len : mg "len" = none
  b_abs : mg "abs" = none
  b_int : mg "int" = none
  b_range : mg "range" = none
section
variable {P : Program} {w : World} {K : PySem.W.Frag} {mg : Str → Option Value} {base : Heap}
theorem sc_draw : FnScope ["_law_state_here", "_law_many", "_law_item", "_law_found", "_law_twice"] ["_law_state_here", "_law_many"] (defScope s_draw) := ⟨rfl, rfl, rfl, by decide +kernel, rfl, by decide +kernel, by decide +kernel⟩
theorem ok_drawA {f : Addr} {fd : FuncData} (F : Fun K "_law_draw" "_law_draw" s_draw f fd) (T : DTx mg) : FnOk P w K mg base CX0 1 f fd ["_law_state_here", "_law_many"] spDrawA := by
  refine F.ok sc_draw (fun vs H Q E h => ?_) (fun cdv A outer s H vs Q E hr h => ?_)
  · obtain ⟨p, n, a, rfl, _⟩ := h
    rfl
  · obtain ⟨p, n, a, rfl, hn0, hn1, ⟨ns, i, l, m, c, S⟩, k⟩ := h
    refine ⟨_, (C8.pss_cut (ps_asg (pe_op op_add (pe_ix ix_list (pv 0) pe_int (fun _ _ => rfl)) pe_int) (pg_sub (pv 0) pe_int set_list))
      (C8.pss_cut (ps_if (PW.pt (pw_and (pt_cmpR op_le (pe_ix ix_list (pv 0) pe_int (fun _ _ => rfl)) pe_int (nomark _)) (pw_and1 (pt_cmpR op_lt (pe_ix ix_list (pv 0) pe_int (fun _ _ => rfl)) (pe_callB call_len_seq (by rfl) T.b_len (by decide +kernel) (pa_cons (pe_ix ix_list (pv 0) pe_int (fun _ _ => rfl)) pa_nil)) (nomark _)))))
        (pss_cons (ps_set (i := 2) sc_draw.nd rfl (Or.inl rfl) (pe_ix ix_list (pe_ix ix_list (pv 0) pe_int (fun _ _ => rfl)) (pe_ix ix_list (pv 0) pe_int (fun _ _ => rfl)) (fun _ _ => rfl)))
      (pss_cons (ps_asg (pe_op op_add (pe_ix ix_list (pv 0) pe_int (fun _ _ => rfl)) pe_int) (pg_sub (pv 0) pe_int set_list))
      (pss_one (ps_if (pt_cmpR op_ge (pe_callB call_abs (by rfl) T.b_abs (by decide +kernel) (pa_cons (pv 2) pa_nil)) (pe_op op_pow pe_int pe_int) (nomark _))
        (pss_one (ps_asg (pe_callB call_abs (by rfl) T.b_abs (by decide +kernel) (pa_cons (pv 2) pa_nil)) (pg_sub (pv 0) pe_int set_list)))
        (pss_cons (ps_asg pe_int (pg_sub (pv 0) pe_int set_list))
      (pss_one (ps_asg (pe_op op_mod (pe_callTy call_int1 (by rfl) T.b_int (by decide +kernel) (pa_cons (pe_op op_add (pe_op op_add (pe_op op_mul (pe_ix ix_list (pv 0) pe_int (fun _ _ => rfl)) pe_int) (pv 2)) (pe_op op_mul pe_int (pe_ix ix_list (pv 0) pe_int (fun _ _ => rfl)))) pa_nil)) pe_int) (pg_sub (pv 0) pe_int set_list))))))))
        pss_nil)
      (pss_cons (ps_if (pt_cmpR op_gt (pe_ix ix_list (pv 0) pe_int (fun _ _ => rfl)) pe_int (nomark _))
        (pss_cons (ps_set (i := 3) sc_draw.nd rfl (Or.inl rfl) (pe_op op_mod (pe_callTy call_int1 (by rfl) T.b_int (by decide +kernel) (pa_cons (pe_ix ix_list (pv 0) pe_int (fun _ _ => rfl)) pa_nil)) (pv 1)))
      (pss_cons (ps_asg (pe_op op_fdiv (pe_ix ix_list (pv 0) pe_int (fun _ _ => rfl)) (pv 1)) (pg_sub (pv 0) pe_int set_list))
      (pss_one (ps_ret (pv 3)))))
        pss_nil)
      (pss_cons (ps_asg (pe_op op_mod (pe_callTy call_int1 (by rfl) T.b_int (by decide +kernel) (pa_cons (pe_op op_add (pe_op op_add (pe_op op_mul (pe_ix ix_list (pv 0) pe_int (fun _ _ => rfl)) pe_int) (pe_op op_mul pe_int (pe_ix ix_list (pv 0) pe_int (fun _ _ => rfl)))) pe_int) pa_nil)) pe_int) (pg_sub (pv 0) pe_int set_list))
      (pss_cons (ps_set (i := 4) sc_draw.nd rfl (Or.inl rfl) (pe_op op_mod (pe_callTy call_int1 (by rfl) T.b_int (by decide +kernel) (pa_cons (pe_op op_mul (pe_ix ix_list (pv 0) pe_int (fun _ _ => rfl)) (pe_op op_add (pe_op op_fdiv (pe_ix ix_list (pv 0) pe_int (fun _ _ => rfl)) pe_int) pe_int)) pa_nil)) pe_int))
      (pss_one (ps_ret (pe_op op_mod (pe_op op_fdiv (pv 4) pe_int) (pv 1))))))))), ?_⟩
    obtain ⟨hp, ha, hap, h0, h1, h2⟩ := id S
    -- the count
    refine ⟨fun σ H' => σ = [some (.ref p), some (.int n), none, none, none] ∧ St5 H' p a ns i l m (c + 1) ∧ But p H H', ⟨_, rfl, _, _, _, _, rfl, rfl, SqL.of hp, rfl, _, _, rfl, rfl, _, rfl, _, _, _, _, rfl, rfl, hp, rfl, rfl, S.set h0 h1 h2, (But.refl _ _).upd⟩, ?_⟩
    rintro σ H1 ⟨rfl, S1, B1⟩
    obtain ⟨hp1, ha1, _⟩ := id S1
    -- the next number of the script
    refine ⟨fun σ H' => ∃ v2, σ = [some (.ref p), some (.int n), v2, none, none] ∧ (∃ i l m, St5 H' p a ns i l m (c + 1)) ∧ But p H H', ?_, ?_⟩
    · refine ⟨_, rfl, _, _, _, _, rfl, rfl, SqL.of hp1, rfl, _, _, rfl, rfl, _, rfl, ?_⟩
      refine ite2 (fun c1 => ?_) (fun c1 => iteF ⟨none, rfl, ⟨i, l, m, S1⟩, B1⟩)
      refine ⟨_, rfl, _, _, _, _, rfl, rfl, SqL.of hp1, rfl, _, rfl, _, _, _, _, rfl, rfl, SqL.of hp1, rfl, _, _, rfl, .inl (SqL.of ha1), _, _, rfl, rfl, _, rfl, ?_⟩
      refine ite2 (fun c2 => ?_) (fun c2 => ⟨none, rfl, ⟨i, l, m, S1⟩, B1⟩)
      have c2' : i.toNat < ns.length := by
        have := of_decide_eq_true c2
        rw [List.length_map] at this
        omega
      have hz : (ns.map V.int)[i.toNat]? = some (V.int ns[i.toNat]) := by
        rw [List.getElem?_map, List.getElem?_eq_getElem c2']
        rfl
      refine ⟨_, rfl, _, _, _, _, rfl, rfl, SqL.of hp1, rfl, _, rfl, _, _, _, _, rfl, rfl, SqL.of hp1, rfl, _, _, _, _, rfl, rfl, SqL.of ha1, at_of (j := i.toNat) (by omega) hz, ?_⟩
      generalize ns[i.toNat] = z
      refine ⟨_, rfl, _, _, _, _, rfl, rfl, SqL.of hp1, rfl, _, _, rfl, rfl, _, rfl, _, _, _, _, rfl, rfl, hp1, rfl, ?_⟩
      have S2 := S1.set (i' := i + 1) (l' := l) (m' := m) (c' := c + 1) (by omega) h1 h2
      refine ⟨_, rfl, _, rfl, _, _, rfl, rfl, ⟨by decide, by decide, by decide⟩, _, _, rfl, rfl, _, rfl, ?_⟩
      refine ite2 (fun c3 => ?_) (fun c3 => ?_)
      · refine ⟨_, rfl, _, rfl, _, rfl, _, _, _, _, rfl, rfl, S2.1, rfl, ?_⟩
        exact ⟨_, rfl, ⟨_, _, _, S2.set (by omega) h1 h2⟩, B1.upd.upd⟩
      · refine ⟨_, rfl, _, _, _, _, rfl, rfl, S2.1, rfl, ?_⟩
        have S3 := S2.set (i' := i + 1) (l' := 0) (m' := m) (c' := c + 1) (by omega) h1 h2
        refine ⟨_, rfl, _, _, _, _, rfl, rfl, SqL.of S3.1, rfl, _, _, rfl, rfl, .inr (by decide), _, rfl, _, _, rfl, rfl, _, rfl, _, _, _, _, rfl, rfl, SqL.of S3.1, rfl, _, _, rfl, rfl, .inl (by decide), _, _, rfl, rfl, .inl ⟨_, rfl, ?_⟩⟩
        refine ⟨_, _, rfl, rfl, (by show (0 : Int) < 2147483629; decide), _, rfl, _, _, _, _, rfl, rfl, S3.1, rfl, ?_⟩
        exact ⟨_, rfl, ⟨_, _, _, S3.set (by omega) (Int.emod_nonneg _ (by decide)) (Int.lt_trans (Int.emod_lt_of_pos _ (by decide)) (by decide))⟩, B1.upd.upd.upd⟩
    · rintro σ H2 ⟨v2, rfl, ⟨i, l, m, S2⟩, B2⟩
      obtain ⟨hp2, ha2, hap2, h02, h12, h22⟩ := id S2
      refine ⟨_, rfl, _, _, _, _, rfl, rfl, SqL.of hp2, rfl, _, _, rfl, rfl, _, rfl, ?_⟩
      refine ite2 (fun c1 => ?_) (fun c1 => ?_)
      · refine ⟨_, rfl, _, _, _, _, rfl, rfl, SqL.of hp2, rfl, .inl ⟨_, rfl, _, rfl, _, _, rfl, rfl, hn0, ?_⟩⟩
        refine ⟨_, rfl, _, _, _, _, rfl, rfl, SqL.of hp2, rfl, _, rfl, _, _, rfl, rfl, ⟨hn0, hn1⟩, _, rfl, _, _, _, _, rfl, rfl, hp2, rfl, ?_⟩
        exact ⟨_, rfl, k _ _ (Int.emod_nonneg _ (by omega)) (Int.emod_lt_of_pos _ hn0) ⟨ns, _, _, _, _, S2.set h02 h12 h22⟩ B2.upd⟩
      · refine ⟨_, rfl, _, _, _, _, rfl, rfl, SqL.of hp2, rfl, _, _, rfl, rfl, .inr (by decide), _, rfl, _, _, _, _, rfl, rfl, SqL.of hp2, rfl, _, _, rfl, rfl, .inl (by decide), _, _, rfl, rfl, _, _, rfl, rfl, .inl ⟨_, rfl, ?_⟩⟩
        refine ⟨_, _, rfl, rfl, (by show (0 : Int) < 2147483647; decide), _, rfl, _, _, _, _, rfl, rfl, hp2, rfl, ?_⟩
        have m0 : 0 ≤ (m * 48271 + 7919 * (c + 1) + 1) % 2147483647 := Int.emod_nonneg _ (by decide)
        have m1 : (m * 48271 + 7919 * (c + 1) + 1) % 2147483647 < 2147483647 := Int.emod_lt_of_pos _ (by decide)
        have S3 := S2.set (i' := i) (l' := l) (m' := (m * 48271 + 7919 * (c + 1) + 1) % 2147483647) (c' := c + 1) h02 m0 (by omega)
        refine ⟨_, rfl, _, _, _, _, rfl, rfl, SqL.of S3.1, rfl, _, rfl, _, _, _, _, rfl, rfl, SqL.of S3.1, rfl, _, _, rfl, rfl, ⟨by decide, by decide⟩, _, _, rfl, rfl, _, _, rfl, rfl, .inl ⟨Int.lt_of_lt_of_le (by decide) m0, Int.lt_trans m1 (by decide)⟩, .inl ⟨_, rfl, ?_⟩⟩
        refine ⟨_, _, rfl, rfl, (by show (0 : Int) < 2147483399; decide), ?_⟩
        refine ⟨_, rfl, _, _, rfl, rfl, ⟨by decide, by decide⟩, _, rfl, _, _, rfl, rfl, hn0, ?_⟩
        exact k _ _ (Int.emod_nonneg _ (by omega)) (Int.emod_lt_of_pos _ hn0) ⟨ns, _, _, _, _, S3⟩ B2.upd
theorem ok_draw {f : Addr} {fd : FuncData} (F : Fun K "_law_draw" "_law_draw" s_draw f fd) (T : DTx mg) : FnOk P w K mg base CX0 1 f fd ["_law_state_here", "_law_many"] spDraw :=
  (ok_drawA F T).imp fun vs H Q E ⟨p, n, e, h0, h1, ⟨a, S⟩, k⟩ => ⟨p, n, a, e, h0, h1, S, fun v H' v0 v1 S' B => k v H' v0 v1 ⟨a, S'⟩ B⟩
end
end Sq
namespace Sq
open PySem L2
/-- the state is made: the items' list is a new one -/
def spState (K : PySem.W.Frag) : Sp := fun vs H Q _ => ∃ (s : Addr) (ns : List Int), vs = [.ref s] ∧ SqL K H s (ns.map V.int) ∧ ns.length ≤ 63 ∧ ∀ p H', H p = none → StAt H' p → Same H H' → Q (.ref p) H'
theorem same_new {H H1 : Hp} {q : Addr} {o : HO} (a : Same H H1) (n : H1 q = none) : Same H (L2.upd H1 q o) := fun c u h => (upd_ne (ne_of_none (a c u h) n)).trans (a c u h)
theorem same_at {H H1 : Hp} {q : Addr} {o : HO} (a : Same H H1) (n : H q = none) : Same H (L2.upd H1 q o) := fun c u h => (upd_ne (ne_of_none h n)).trans (a c u h)
theorem take_map (ns : List Int) (k : Nat) : cutV (ns.map V.int) none (some ((k : Nat) : Int)) = (ns.take k).map V.int := by
  unfold cutV
  rw [HT.sIx_none, HT.sIx_nat, List.drop_zero, List.length_map, List.map_take]
  rw [Nat.sub_zero]
  by_cases h : k ≤ ns.length
  · rw [Nat.min_eq_left h]
  · rw [Nat.min_eq_right (by omega), List.take_of_length_le (by simp), List.take_of_length_le (by simp; omega)]
theorem map_get {ns : List Int} {i : Nat} {y : V} (hi : (ns.map V.int)[i]? = some y) : ∃ z, ns[i]? = some z ∧ y = V.int z := by
  rw [List.getElem?_map] at hi
  cases e : ns[i]? with
  | none =>
    rw [e] at hi
    cases hi
  | some z =>
    rw [e] at hi
    exact ⟨z, rfl, (Option.some.inj hi).symm⟩
theorem take_more {α : Type} {l : List α} {i : Nat} {x : α} (h : l[i]? = some x) : l.take (i + 1) = l.take i ++ [x] := by
  rw [List.take_add_one, h]
  rfl
theorem seq_at {K : PySem.W.Frag} {H : Hp} {a b : Addr} {xs : List V} {o : HO} (h : SqL K H a xs) (n : b ≠ a) : SqL K (upd H b o) a xs := by
  rcases h with (h | ⟨o, h⟩) | h
  · exact .inl (.inl ((upd_ne n.symm).trans h))
  · exact .inl (.inr ⟨o, (upd_ne n.symm).trans h⟩)
  · exact .inr h
section
variable {P : Program} {w : World} {K : PySem.W.Frag} {mg : Str → Option Value} {base : Heap}
theorem sc_state : FnScope ["_law_script", "_law_items", "_law_item"] ["_law_script"] (defScope s_state) := ⟨rfl, rfl, rfl, by decide +kernel, rfl, by decide +kernel, by decide +kernel⟩
theorem ok_state {f : Addr} {fd : FuncData} (F : Fun K "_law_state" "_law_state" s_state f fd) (T : DTx mg) : FnOk P w K mg base CX0 1 f fd ["_law_script"] (spState K) := by
  refine F.ok sc_state (fun vs H Q E h => ?_) (fun cdv A outer s H vs Q E hr h => ?_)
  · obtain ⟨p, n, rfl, _⟩ := h
    rfl
  · obtain ⟨a, ns, rfl, hS, hl, k⟩ := h
    refine ⟨_, pss_cons (ps_setLc (i := 1) (own := [("_law_item", 2)]) (g := gName 2) (tt := tYes) rfl sc_state.nd rfl rfl (sw_true rfl rfl rfl (by decide +kernel))
        (pi_list (pe_slice sl_list (pv 0) po_none (po_some pe_int))) (blkOk_by (N := ["_law_script", "_law_items", "_law_item"]) (sc := defScope s_state) (by decide +kernel)) (fun _ _ _ _ _ => pg_name (i := 2) sc_state.nd rfl (Or.inl rfl)) (fun _ _ _ _ _ => pts_nil)
        (fun _ _ _ _ _ => pe_callTy call_int1 (by rfl) T.b_int (by decide +kernel) (pa_cons (pv 2) pa_nil)))
      (pss_one (ps_ret (pe_lst (pa_cons (pv 1) (pa_cons pe_int (pa_cons pe_int (pa_cons (pe_op op_add pe_int (pe_callB call_len_seq (by rfl) T.b_len (by decide +kernel) (pa_cons (pv 1) pa_nil))) (pa_cons pe_int pa_nil)))))))), ?_⟩
    refine ⟨_, rfl, _, rfl, _, _, rfl, hS, fun q hq => ?_⟩
    have et : cutV (ns.map V.int) none (some 63) = (ns.take 63).map V.int := take_map ns 63
    have hq1 : SqL K (upd H q (.lst (cutV (ns.map V.int) none (some 63)))) q ((ns.take 63).map V.int) := by
      rw [et]
      exact SqL.of upd_same
    refine ⟨_, rfl, ⟨_, hq1⟩, fun D hD => ?_⟩
    have hDq : D ≠ q := fun e => by
      rw [e, upd_same] at hD
      cases hD
    have hDH : H D = none := by
      rw [upd_ne hDq] at hD
      exact hD
    refine lc_list (K := K) (a := q) (xs := (ns.take 63).map V.int) (fun i H' => H' D = some (.lst ((ns.take i).map V.int)) ∧ Same H H' ∧ SqL K H' q ((ns.take 63).map V.int)) ?_ (fun i H' _ h => h.2.2) ?_ ?_
    · refine ⟨by simpa using upd_same, same_new (same_new (Same.refl H) hq) hD, ?_⟩
      exact Same.seq (same_new (Same.refl _) hD) hq1
    · rintro i y H2 hi ⟨hD2, s2, hq2⟩
      obtain ⟨z, hz, rfl⟩ := map_get hi
      refine ⟨rfl, _, rfl, .inl ⟨_, rfl, ?_⟩⟩
      have hi1 : i < (ns.take 63).length := (List.getElem?_eq_some_iff.mp hz).1
      have hi63 : i < 63 := by
        rw [List.length_take] at hi1
        omega
      have hz' : ns[i]? = some z := by
        rw [List.getElem?_take] at hz
        rw [if_pos hi63] at hz
        exact hz
      refine ⟨_, hD2, small1000 (by rw [List.length_map, List.length_take]; omega), ?_, same_at s2 hDH, ?_⟩
      · rw [take_more hz', List.map_append]
        exact upd_same
      · exact seq_at hq2 hDq
    · rintro H2 ⟨hD2, s2, hq2⟩
      refine ⟨_, rfl, _, rfl, _, _, rfl, .inl (SqL.of hD2), _, _, rfl, rfl, (by show 5 ≤ sizeLine; decide), fun p hp => ?_⟩
      have hpD : D ≠ p := ne_of_none hD2 hp
      refine k p _ (s2.free hp) ⟨D, (ns.take 63).take (ns.take 63).length, 0, 0, _, 0, upd_same, (upd_ne hpD).trans ?_, hpD, by omega, by omega, ?_⟩ (same_new s2 hp)
      · rw [hD2, List.take_take, List.length_map]
        congr 4
        simp
      · rw [List.length_map, List.length_take]
        omega
end
end Sq
namespace Sq
open PySem L2
theorem fmod_lt (x : Int) {y : Int} (h : y ≠ 0) : (x.fmod y).natAbs < y.natAbs := by
  have e := Int.fmod_eq_emod (a := x) (b := y)
  have h1 := Int.emod_nonneg x h
  have h2 := Int.emod_lt x h
  by_cases c : 0 ≤ y ∨ y ∣ x
  · rw [if_pos c] at e
    omega
  · rw [if_neg c] at e
    have h3 : ¬ y ∣ x := fun d => c (.inr d)
    have h4 : x % y ≠ 0 := fun z => h3 (Int.dvd_of_emod_eq_zero z)
    omega
theorem gcd_fmod (x y : Int) : Int.gcd y (x.fmod y) = Int.gcd x y := by
  rw [Int.fmod_def, Int.gcd_sub_mul_left_right, Int.gcd_comm]
def spGcd : Sp := fun vs H Q _ => ∃ a b : Int, vs = [.int a, .int b] ∧ Q (.int ((Int.gcd a b : Nat) : Int)) H
/-- is it an int, no bool: for a value whose type is known -/
def isI : V → Bool
  | .int _ => true
  | _ => false
def IsTy (K : PySem.W.Frag) (H : Hp) (x : V) : Prop := ∃ t b1 b2, TyX K H x t ∧ PySem.W.kitOne K t (.type "int") = some b1 ∧ PySem.W.kitOne K t (.type "bool") = some b2 ∧ (b1 && !b2) = isI x
theorem IsTy.int {K : PySem.W.Frag} {H : Hp} (i : Int) : IsTy K H (.int i) := ⟨.type "int", true, false, .base (.int i), kit_ty (by decide +kernel), kit_ty (by decide +kernel), rfl⟩
theorem IsTy.bl {K : PySem.W.Frag} {H : Hp} (i : Bool) : IsTy K H (.bl i) := ⟨.type "bool", true, true, .base (.bl i), kit_ty (by decide +kernel), kit_ty (by decide +kernel), rfl⟩
theorem IsTy.non {K : PySem.W.Frag} {H : Hp} : IsTy K H .non := ⟨.type "NoneType", false, false, .base .non, kit_ty (by decide +kernel), kit_ty (by decide +kernel), rfl⟩
theorem IsTy.str {K : PySem.W.Frag} {H : Hp} (z : Str) : IsTy K H (.str z) := ⟨.type "str", false, false, .base (.str z), kit_ty (by decide +kernel), kit_ty (by decide +kernel), rfl⟩
theorem IsTy.lst {K : PySem.W.Frag} {H : Hp} {a : Addr} {xs : List V} (e : H a = some (.lst xs)) : IsTy K H (.ref a) := ⟨.type "list", false, false, .base (.lst e), kit_ty (by decide +kernel), kit_ty (by decide +kernel), rfl⟩
theorem IsTy.tup {K : PySem.W.Frag} {H : Hp} {a : Addr} {xs : List V} (e : H a = some (.tup xs)) : IsTy K H (.ref a) := ⟨.type "tuple", false, false, .base (.tup e), kit_ty (by decide +kernel), kit_ty (by decide +kernel), rfl⟩
theorem IsTy.dK {K : PySem.W.Frag} {H : Hp} {a : Addr} {xs : List (Key × V)} (e : H a = some (.dK xs)) : IsTy K H (.ref a) := ⟨.type "dict", false, false, .base (.dK e), kit_ty (by decide +kernel), kit_ty (by decide +kernel), rfl⟩
def spIsInt (K : PySem.W.Frag) : Sp := fun vs H Q _ => ∃ x, vs = [x] ∧ IsTy K H x ∧ Q (.bl (isI x)) H
def spGreat : Sp := fun vs H Q _ => ∃ p, vs = [.ref p] ∧ StAt H p ∧ ∀ v H', v.natAbs < 2 ^ 120 → StAt H' p → But p H H' → Q (.int v) H'
structure ITx (mg : Str → Option Value) : Prop where
  b_isinstance : mg "isinstance" = none
  b_int : mg "int" = none
  b_bool : mg "bool" = none
section
variable {P : Program} {w : World} {K : PySem.W.Frag} {mg : Str → Option Value} {base : Heap}
theorem sc_gcd : FnScope ["_law_one", "_law_other"] ["_law_one", "_law_other"] (defScope s_gcd) := ⟨rfl, rfl, rfl, by decide +kernel, rfl, by decide +kernel, by decide +kernel⟩
theorem ok_gcd {f : Addr} {fd : FuncData} (F : Fun K "_law_gcd" "_law_gcd" s_gcd f fd) (T : DTx mg) : FnOk P w K mg base CX0 1 f fd ["_law_one", "_law_other"] spGcd := by
  refine F.ok sc_gcd (fun vs H Q E h => ?_) (fun cdv A outer s H vs Q E hr h => ?_)
  · obtain ⟨a, b, rfl, _⟩ := h
    rfl
  · obtain ⟨a, b, rfl, k⟩ := h
    refine ⟨_, (pss_cons (ps_while PassesOwn.never (pt_cmpR op_ne (pv 1) pe_int (nomark _)) (pss_one (ps_par (i := 0) (j := 1) (by rfl) sc_gcd.nd rfl rfl (by decide) rfl rfl (pa_cons (pv 1) (pa_cons (pe_op op_modN (pe_callTy call_int1 (by rfl) T.b_int (by decide +kernel) (pa_cons (pv 0) pa_nil)) (pv 1)) pa_nil)) (by rfl))))
      (pss_one (ps_ret (pe_callB call_abs (by rfl) T.b_abs (by decide +kernel) (pa_cons (pv 0) pa_nil))))), ?_⟩
    refine while_by (fun σ H' => ∃ x y : Int, σ = [some (.int x), some (.int y)] ∧ Int.gcd x y = Int.gcd a b ∧ H' = H) (fun σ _ => match σ with | [_, some (.int y)] => y.natAbs | _ => 0) ⟨a, b, rfl, rfl, rfl⟩ ?_ ?_
    · rintro σ H' ⟨x, y, rfl, hg, rfl⟩
      refine ⟨_, rfl, rfl, _, rfl, ?_⟩
      refine ite2 (fun c => ?_) (fun c => ?_)
      · have hy : y ≠ 0 := fun e => by
          rw [e] at c
          exact absurd c (by decide)
        refine ⟨_, rfl, _, rfl, .inl ⟨_, rfl, _, rfl, _, _, rfl, rfl, hy, ?_⟩⟩
        exact ⟨_, _, rfl, ⟨_, _, rfl, (gcd_fmod x y).trans hg, rfl⟩, fmod_lt x hy⟩
      · have hy : y = 0 := by
          by_cases e : y = 0
          · exact e
          · exact absurd (by simp [e]) c
        subst hy
        refine ⟨_, rfl, _, rfl, ?_⟩
        rw [← hg] at k
        rw [Int.gcd_zero] at k
        have e : (if x < 0 then -x else x) = ((x.natAbs : Nat) : Int) := by
          split <;> omega
        rw [e]
        exact k
    · rintro σ H' Q1 Q2 hi ⟨v, e, u, z, e2, c⟩
      exact ⟨v, e, u, z, e2, hi _ _ c⟩
end
end Sq

namespace Sq
open PySem L2 PyProof.Rows
abbrev s_noRatioInit : Stmt := inClass (top 6) 0
abbrev s_isint : Stmt := top 14
abbrev s_ratioInit : Stmt := inClass (top 21) 0
/-- // by any number but 0 whose size is below 2 ^ 9000 -/
def CDivZ (_ j : Int) : Prop := j ≠ 0 ∧ j.natAbs < 2 ^ 8000
theorem op_fdivZ {X : Cx} : OpR X (binaryOp .FloorDiv) (rI CDivZ fun i j => .int (i.fdiv j)) := opI fun i j _ _ _ _ _ hc q =>
  floordiv_int hc.1 q (.inl (PyProof.noPylong_of_log2 (Nat.lt_of_lt_of_le (PySem.Flt.log2_lt_of (by decide) hc.2) (by decide))))
/-! ### the fraction in lowest terms -/
structure Low (a b t u : Int) : Prop where
  pos : 1 ≤ u
  cop : Int.gcd t u = 1
  val : t * b = a * u
  lt : t.natAbs ≤ a.natAbs
  lu : u.natAbs ≤ b.natAbs
theorem low_of {a b c : Int} (hb : b ≠ 0) (hc : c = (Int.gcd a b : Int) ∧ 0 < b ∨ c = -(Int.gcd a b : Int) ∧ b < 0) : Low a b (a.fdiv c) (b.fdiv c) := by
  have hg : 0 < Int.gcd a b := Int.gcd_pos_of_ne_zero_right a hb
  have da : c ∣ a := by
    rcases hc with ⟨rfl, _⟩ | ⟨rfl, _⟩
    · exact Int.gcd_dvd_left ..
    · exact Int.neg_dvd.mpr (Int.gcd_dvd_left ..)
  have db : c ∣ b := by
    rcases hc with ⟨rfl, _⟩ | ⟨rfl, _⟩
    · exact Int.gcd_dvd_right ..
    · exact Int.neg_dvd.mpr (Int.gcd_dvd_right ..)
  have c0 : c ≠ 0 := by omega
  obtain ⟨t, ht⟩ := da
  obtain ⟨u, hu⟩ := db
  have et : a.fdiv c = t := by rw [ht]; exact Int.mul_fdiv_cancel_left _ c0
  have eu : b.fdiv c = u := by rw [hu]; exact Int.mul_fdiv_cancel_left _ c0
  rw [et, eu]
  have cn : c.natAbs = Int.gcd a b := by omega
  have c1 : 1 ≤ c.natAbs := by omega
  have gcu : Int.gcd a b = c.natAbs * Int.gcd t u := by
    rw [ht, hu, Int.gcd_mul_left]
  refine ⟨?_, ?_, ?_, ?_, ?_⟩
  · have : 0 < u := by
      rcases hc with ⟨h1, h2⟩ | ⟨h1, h2⟩
      · refine Int.pos_of_mul_pos_right (a := c) ?_ (by omega)
        rw [← hu]
        exact h2
      · refine Int.pos_of_mul_pos_right (a := -c) ?_ (by omega)
        rw [Int.neg_mul, ← hu]
        omega
    omega
  · rw [cn] at gcu
    exact (Nat.eq_of_mul_eq_mul_left hg (by rw [Nat.mul_one]; exact gcu)).symm
  · rw [ht, hu, Int.mul_assoc, Int.mul_left_comm]
  · rw [ht, Int.natAbs_mul]
    exact Nat.le_mul_of_pos_left _ c1
  · rw [hu, Int.natAbs_mul]
    exact Nat.le_mul_of_pos_left _ c1
/-! ### the objects -/
def rfl_ (t u : Int) : List (Str × V) := putF "bottom" (.int u) (putF "top" (.int t) [])
theorem tb : ¬ (("top" : Str) = "bottom") := by decide +kernel
theorem rf_top (t u : Int) : (rfl_ t u).lookup ("top" : Str) = some (.int t) := by
  unfold rfl_
  rw [lookup_putF, if_neg tb, lookup_putF, if_pos rfl]
theorem rf_bottom (t u : Int) : (rfl_ t u).lookup ("bottom" : Str) = some (.int u) := by
  unfold rfl_
  rw [lookup_putF, if_pos rfl]
theorem rf_no (t u : Int) {m : Str} (h1 : ¬ m = "bottom") (h2 : ¬ m = "top") : (rfl_ t u).lookup m = none := by
  unfold rfl_
  rw [lookup_putF, if_neg h1, lookup_putF, if_neg h2]
  rfl
def RatAt (C : Addr) (H : Hp) (x : Addr) (t u : Int) : Prop := ∃ dx, H x = some (.ins C dx (rfl_ t u))
/-- what a NoRatio carries -/
def wordAt (z : Str) : HO := .xd [(("word" : Str), .str z)]
/-- the word that is due, if any -/
def dueW (u v : V) : Option Str := if isI u then (if isI v then (if v = .int 0 then some "zero" else none) else some "bottom") else some "top"
def spRatioInit (K : PySem.W.Frag) (C CN : Addr) : Sp := fun vs H Q E => ∃ (x dx : Addr) (u v : V), vs = [.ref x, u, v] ∧ H x = some (.ins C dx []) ∧ IsTy K H u ∧ IsTy K H v ∧ (∀ b, v = .int b → b.natAbs < 2 ^ 8000) ∧
  (∀ z, dueW u v = some z → ∀ d, H d = none → E (.ref CN) (some d) (upd H d (wordAt z))) ∧
  (∀ a b, u = .int a → v = .int b → b ≠ 0 → ∀ t w H', Low a b t w → RatAt C H' x t w → But x H H' → Q .non H')
def spWordInit (CN : Addr) : Sp := fun vs H Q _ => ∃ (a : Addr) (y : V), vs = [.ref a, y] ∧ H a = some (exo a CN none) ∧ ∀ dx, H dx = none → dx ≠ a → Q .non (upd (upd H dx (exd dx [(("word" : Str), y)])) a (exo a CN (some dx)))
/-- the class of an error with the field word -/
structure NTx (K : PySem.W.Frag) (mg : Str → Option Value) (CN fN : Addr) : Prop where
  oex : OexC K CN
  nw : PySem.W.findIn K (.ref CN) "word" = some none
  iC : PySem.W.findIn K (.ref CN) "__init__" = some (some (.ref fN))
  tI : PySem.W.typeIn K (.ref fN) = some (.type "function")
structure CTx (K : PySem.W.Frag) (C : Addr) : Prop where
  cl : Cls K C
  nT : NoAttr K C "top"
  nB : NoAttr K C "bottom"
section
variable {P : Program} {w : World} {K : PySem.W.Frag} {mg : Str → Option Value} {base : Heap}
theorem sc_noRatioInit : FnScope ["self", "word"] ["self", "word"] (defScope s_noRatioInit) := ⟨rfl, rfl, rfl, by decide +kernel, rfl, by decide +kernel, by decide +kernel⟩
theorem ok_noRatioInit {f CN fN : Addr} {fd : FuncData} (F : Fun K "__init__" "NoRatio.__init__" s_noRatioInit f fd) (T : NTx K mg CN fN) : FnOk P w K mg base CX0 1 f fd ["self", "word"] (spWordInit CN) := by
  refine F.ok sc_noRatioInit (fun vs H Q E h => ?_) (fun cdv A outer s H vs Q E hr h => ?_)
  · obtain ⟨x, y, rfl, _⟩ := h
    rfl
  · obtain ⟨a, y, rfl, ha, k⟩ := h
    refine ⟨_, pss_one (ps_ost (pv 0) (pv 1)), ?_⟩
    exact ⟨_, rfl, _, rfl, a, CN, rfl, T.oex, T.nw, .inl ⟨ha, fun dx h1 h2 => k dx h1 h2⟩⟩
theorem sc_isint : FnScope ["value"] ["value"] (defScope s_isint) := ⟨rfl, rfl, rfl, by decide +kernel, rfl, by decide +kernel, by decide +kernel⟩
theorem ok_isint {f : Addr} {fd : FuncData} (F : Fun K "is_an_integer" "is_an_integer" s_isint f fd) (T : ITx mg) : FnOk P w K mg base CX0 1 f fd ["value"] (spIsInt K) := by
  refine F.ok sc_isint (fun vs H Q E h => ?_) (fun cdv A outer s H vs Q E hr h => ?_)
  · obtain ⟨x, rfl, _⟩ := h
    rfl
  · obtain ⟨x, rfl, ⟨t, b1, b2, ht, h1, h2, h3⟩, k⟩ := h
    refine ⟨_, pss_one (ps_ret (pe_and (pe_callB call_isi (by rfl) T.b_isinstance (by decide +kernel) (pa_cons (pv 0) (pa_cons (pe_bltn (v := .ty "int") (by rfl) T.b_int (by decide +kernel) rfl) pa_nil)))
      (pe_one (pe_not (pe_callB call_isi (by rfl) T.b_isinstance (by decide +kernel) (pa_cons (pv 0) (pa_cons (pe_bltn (v := .ty "bool") (by rfl) T.b_bool (by decide +kernel) rfl) pa_nil))))))), ?_⟩
    refine ⟨_, rfl, _, _, _, _, b1, rfl, .ty _, ht, h1, _, rfl, ?_⟩
    cases b1 with
    | false =>
      refine iteF ?_
      rw [← h3] at k
      exact k
    | true =>
      refine iteT ?_
      refine ⟨_, rfl, _, _, _, _, b2, rfl, .ty _, ht, h2, _, rfl, ?_⟩
      rw [← h3] at k
      exact k
end
end Sq
namespace Sq
open PySem L2 PyProof.Rows
theorem xd_eq {H : Hp} {a d CN : Addr} {y : V} (ha : H a = none) (n : d ≠ a) : upd (L2.del (upd (upd (upd H a (exo a CN none)) d (exd d [(("word" : Str), y)])) a (exo a CN (some d))) a) d (.xd [(("word" : Str), y)]) = upd H d (.xd [(("word" : Str), y)]) := by
  funext b
  by_cases h1 : b = d
  · subst h1
    rw [upd_same, upd_same]
  · rw [upd_ne h1, upd_ne h1]
    by_cases h2 : b = a
    · subst h2
      rw [del_same, ha]
    · rw [del_ne h2, upd_ne h2, upd_ne h1, upd_ne h2]
theorem mkO_read {CN : Addr} {z : Str} {H : Hp} {E : XK} (h : ∀ d, H d = none → E (.ref CN) (some d) (upd H d (wordAt z))) : ∀ a, H a = none → spWordInit CN (.ref a :: ([.str z] ++ [])) (upd H a (exo a CN none))
    (fun v H2 => v = .non ∧ ∃ (d : Addr) (fs : List (Str × V)), H2 a = some (exo a CN (some d)) ∧ H2 d = some (exd d fs) ∧ H d = none ∧ E (.ref CN) (some d) (upd (L2.del H2 a) d (.xd fs))) (fun _ _ _ => False) := fun a ha => by
  refine ⟨a, _, rfl, upd_same, fun dx h1 h2 => ⟨rfl, dx, [(("word" : Str), V.str z)], upd_same, ?_, ?_, ?_⟩⟩
  · exact (upd_ne h2).trans upd_same
  · rw [upd_ne h2] at h1
    exact h1
  · rw [upd_ne h2] at h1
    rw [xd_eq ha h2]
    exact h dx h1
theorem isI_int : ∀ {u : V}, isI u = true → ∃ a, u = .int a
  | .int i, _ => ⟨i, rfl⟩
  | .non, h => by cases h
  | .bl _, h => by cases h
  | .str _, h => by cases h
  | .byt _, h => by cases h
  | .flt _, h => by cases h
  | .ref _, h => by cases h
  | .ty _, h => by cases h
structure GTx (mg : Str → Option Value) (CN : Addr) : Prop where
  g_gcd : mg "gcd_math" = some (.builtin "math.gcd")
  m_NoRatio : mg "NoRatio" = some (.ref CN)
section
variable {P : Program} {w : World} {K : PySem.W.Frag} {mg : Str → Option Value} {base : Heap}
theorem sc_ratioInit : FnScope ["self", "top", "bottom", "common"] ["self", "top", "bottom"] (defScope s_ratioInit) := ⟨rfl, rfl, rfl, by decide +kernel, rfl, by decide +kernel, by decide +kernel⟩
theorem ok_ratioInit {f C CN fN fI : Addr} {fd fdN fdI : FuncData} (F : FunD K "__init__" "Ratio.__init__" (defArgs s_ratioInit) (defBody s_ratioInit) (defScope s_ratioInit) [.int 1] [] f fd) (T : CTx K C) (N : NTx K mg CN fN) (G : GTx mg CN)
    (G_N : FnOk P w K mg base CX0 1 fN fdN ["self", "word"] (spWordInit CN)) (b_N : Binds K fdN ["self", "word"] [])
    (G_I : FnOk P w K mg base CX0 1 fI fdI ["value"] (spIsInt K)) (m_I : mg "is_an_integer" = some (.ref fI)) (k_I : PySem.W.keepIn K (.ref fI) = true) (b_I : Binds K fdI ["value"] []) :
    FnOk P w K mg base (L2.CX P w) 3 f fd ["self", "top", "bottom"] (spRatioInit K C CN) := by
  refine F.ok sc_ratioInit (fun vs H Q E h => ?_) (fun cdv A outer s H vs Q E hr h => ?_)
  · obtain ⟨x, dx, u, v, rfl, _⟩ := h
    rfl
  · obtain ⟨x, dx, u, v, rfl, hx, tu, tv, hs, kE, kQ⟩ := h
    have hr1 : Room 1 _ := hr.mono (by decide)
    have raise := fun (z : Str) => (mkO_read (CN := CN) (z := z) (H := H) (E := E))
    refine ⟨_, (pss_cons (ps_if (pt_not (pt_val (pe_call G_I hr1 rfl m_I k_I b_I .nil pass0 (pa_cons (pv 1) pa_nil)))) (pss_one (ps_raise rfl (takes_of rfl rfl rfl rfl) (pmk_oex N.oex N.iC N.tI G_N hr b_N .nil pass0 rfl G.m_NoRatio (pa_cons pe_str pa_nil)))) pss_nil)
      (pss_cons (ps_if (pt_not (pt_val (pe_call G_I hr1 rfl m_I k_I b_I .nil pass0 (pa_cons (pv 2) pa_nil)))) (pss_one (ps_raise rfl (takes_of rfl rfl rfl rfl) (pmk_oex N.oex N.iC N.tI G_N hr b_N .nil pass0 rfl G.m_NoRatio (pa_cons pe_str pa_nil)))) pss_nil)
      (pss_cons (ps_if (pt_cmpR op_eq (pv 2) pe_int (nomark _)) (pss_one (ps_raise rfl (takes_of rfl rfl rfl rfl) (pmk_oex N.oex N.iC N.tI G_N hr b_N .nil pass0 rfl G.m_NoRatio (pa_cons pe_str pa_nil)))) pss_nil)
      (pss_cons (ps_set (i := 3) sc_ratioInit.nd rfl (Or.inl rfl) (pe_callBfun cr_gcd rfl G.g_gcd (pa_cons (pv 1) (pa_cons (pv 2) pa_nil))))
      (C8.pss_cut (ps_if (pt_cmpR op_lt (pv 2) pe_int (nomark _)) (pss_one (ps_set (i := 3) sc_ratioInit.nd rfl (Or.inl rfl) (pe_un un_neg (pv 3)))) pss_nil)
      (pss_cons (ps_fld (pv 0) (pe_op op_fdivZ (pv 1) (pv 3)) rfl)
      (pss_one (ps_fld (pv 0) (pe_op op_fdivZ (pv 2) (pv 3)) rfl)))))))), ?_⟩
    refine ⟨_, rfl, u, rfl, tu, _, rfl, ?_⟩
    cases eu : isI u with
    | false =>
      refine iteT ⟨by decide, raise "top" ?_⟩
      exact kE "top" (by unfold dueW; rw [eu]; rfl)
    | true =>
      refine iteF ⟨_, rfl, v, rfl, tv, _, rfl, ?_⟩
      cases ev : isI v with
      | false =>
        refine iteT ⟨by decide, raise "bottom" ?_⟩
        exact kE "bottom" (by unfold dueW; rw [eu, ev]; rfl)
      | true =>
        obtain ⟨a, rfl⟩ : ∃ a, u = .int a := by
          exact isI_int eu
        obtain ⟨b, rfl⟩ : ∃ b, v = .int b := by
          exact isI_int ev
        refine iteF ⟨_, rfl, rfl, _, rfl, ?_⟩
        refine ite2 (fun c => ?_) (fun c => ?_)
        · refine ⟨by decide, raise "zero" ?_⟩
          have e : b = 0 := by simpa using c
          subst e
          exact kE "zero" rfl
        · have hb : b ≠ 0 := fun e => c (by simp [e])
          refine ⟨_, rfl, _, rfl, a, b, rfl, ?_⟩
          refine ⟨fun σ H' => H' = H ∧ ∃ c : Int, σ = [some (.ref x), some (.int a), some (.int b), some (.int c)] ∧ (c = (Int.gcd a b : Int) ∧ 0 < b ∨ c = -(Int.gcd a b : Int) ∧ b < 0), ?_, ?_⟩
          · refine ⟨_, rfl, _, _, rfl, rfl, _, rfl, ?_⟩
            refine ite2 (fun c1 => ?_) (fun c1 => ?_)
            · refine ⟨_, rfl, _, rfl, rfl, _, rfl, .inr ⟨rfl, of_decide_eq_true c1⟩⟩
            · have c2 : ¬ b < 0 := fun e => c1 (decide_eq_true e)
              exact ⟨rfl, _, rfl, .inl ⟨rfl, by omega⟩⟩
          · rintro σ H' ⟨rfl, g, rfl, hg⟩
            have L := low_of hb hg
            have hgb : Int.gcd a b ≤ b.natAbs := Nat.le_of_dvd (by omega) (Int.gcd_dvd_natAbs_right ..)
            have hgp : 0 < Int.gcd a b := Int.gcd_pos_of_ne_zero_right a hb
            have cz : CDivZ a g := ⟨by omega, by have := hs b rfl; omega⟩
            refine ⟨_, rfl, _, rfl, _, _, rfl, rfl, cz, _, rfl, x, C, dx, [], rfl, hx, T.cl, T.nT, (by show 0 < 1000; decide), ?_⟩
            refine ⟨_, rfl, _, rfl, _, _, rfl, rfl, cz, _, rfl, x, C, dx, _, rfl, upd_same, T.cl, T.nB, (by show 1 < 1000; decide), ?_⟩
            exact kQ a b rfl rfl hb _ _ _ L ⟨dx, upd_same⟩ (But.refl x _).upd.upd
end
end Sq

namespace Sq
open PySem L2 PyProof.Rows
/-- C(..) in a try's body: what leaves is wished for at the slots -/
def tMkS (C : Addr) (sp : Sp) (dvs : List V) (W : L2.St → XK) (t : TA) : TE := fun σ H Q => t σ H fun vs H1 => ∀ y dy, H1 y = none → H1 dy = none → dy ≠ y →
  sp (.ref y :: (vs ++ dvs)) (upd (upd H1 dy (.own y)) y (.ins C dy [])) (fun v H2 => v = .non ∧ Q (.ref y) H2) (W σ)
theorem pe_mkS {X : Cx} {CX : CXT} {k : Nat} {f C : Addr} {fd : FuncData} {ps : List Str} {sp : Sp} {dvs : List V} {ds : List Value} {W : L2.St → XK} {x : Str} {p pos : Pos} {e : Expr} {es : List Expr} {t : TA}
    (M : Mk X.K C f) (G : FnOk X.prog X.w X.K X.mg X.base CX k f fd ps sp) (room : Room (k + 1) X.A) (gl : Gl X x) (mx : X.mg x = some (.ref C)) (bi : Binds X.K fd ps ds) (dv : Vals dvs ds) (ok : ∀ σ, PassesAt CX X σ (W σ))
    (ha : PA X (e :: es) t) (nd : (x == ("__debug__" : Str)) = false := by decide) (st : starEach (e :: es) X.env = (false, eval e X.env) :: starEach es X.env := by rfl)
    (pl : (backTo pos (starEach es X.env)).any (·.1) = false := by rfl) : PE X (.Call (.Name x p) (e :: es) [] pos) (tMkS C sp dvs W t) := by
  refine ⟨fun pins s σ H Q I h => wpAny_Call_Name_kw (ld_glob I gl mx (PySem.W.callWith_K (h₀ := X.base) I.ok.mod.kin M.kp (thn (ha.run pos pins s σ H _ I h) fun us s1 hh => ?_) st pl) nd)⟩
  obtain ⟨vs, H1, I1, r, q⟩ := hh
  refine ⟨I1.kIn, ?_⟩
  have n1 : H1 (s1.heap.objs.size + 1) = none := I1.hok.fresh (Nat.le_succ _)
  have n0 : H1 s1.heap.objs.size = none := I1.hok.fresh (Nat.le_refl _)
  have want := q _ _ n1 n0 (Nat.ne_of_lt (Nat.lt_succ_self _))
  have J := Inv.made (C := C) I1
  have rr : Vals (V.ref (s1.heap.objs.size + 1) :: (vs ++ dvs)) (Value.ref (s1.heap.objs.size + 1) :: (us ++ ds)) := Paired.cons rfl (Vals.append r dv)
  have lens : (Value.ref (s1.heap.objs.size + 1) :: us ++ ds).length = ps.length := (rr.length.symm.trans (G.len _ _ _ _ want))
  have run := G.run _ X.stack _ _ ⟨Value.ref (s1.heap.objs.size + 1) :: us, []⟩ (Value.ref (s1.heap.objs.size + 1) :: (us ++ ds)) _ _ (W σ) (room.make C us []) (J.env0.make C us []) (bi _ (Value.ref (s1.heap.objs.size + 1) :: us) J.kIn lens) rr want
  refine wpAny_call (make_map (f := f) I1.kIn M.makes M.init (beq_iff_eq.mp M.fn) (codeAny_mono run fun res s2 out => ?_))
  cases res with
  | error er => exact ok σ pins _ _ er s2 J out
  | ok flow =>
    cases flow with
    | ret val =>
      obtain ⟨v, H3, J3, rv, ev, z⟩ := J.after out
      cases ev
      exact ⟨rv, V.ref (s1.heap.objs.size + 1), H3, J3, rfl, z⟩
    | next => cases out
    | brk => cases out
    | cont => cases out
/-- isinstance(e, c), e the caught error with its own dict -/
structure EIx (K : PySem.W.Frag) (D : Addr) : Prop where
  hcl : (PySem.W.clsIn K D).isSome = true
  hga : PySem.W.findIn K (.ref D) "__getattribute__" = some (some (.builtin "BaseException.__getattribute__"))
  hgt : PySem.W.findIn K (.ref D) "__getattr__" = some none
  hsub : PySem.W.subIn K (.ref D) (.type "BaseException") = some true
  ha : PySem.W.findIn K (.ref D) "__class__" = some (some (.builtin "object.__class__"))
  hn : PySem.W.specialIn K (.builtin "object.__class__") "__get__" = some (some (.builtin "getset_descriptor.__get__"))
  htk : PySem.W.takesIn K (.builtin "object.__class__") = some true
  hm : PySem.W.mroIn K D (.type "object") = some true
def rIsX (K : PySem.W.Frag) (D a : Addr) (cls : Value) (d : Option Addr) : List V → Hp → VK → Prop := fun xs H Q => ∃ (c : V) (cv : Value) (b : Bool) (dd : Addr) (fs : List (Str × V)), xs = [.ref a, c] ∧ ClsV c cv ∧ PySem.W.kitOne K (.ref D) cv = some b ∧
  cls = .ref D ∧ d = some dd ∧ H dd = some (.xd fs) ∧ Q (.bl b) H
theorem call_isX {X : Cx} {a D : Addr} {oe : Obj} {cls : Value} {d : Option Addr} {pn : List (Addr × Obj)} (C : EIx X.K D) (hz : Zc cls d oe) (hf : ∃ vs, oe.data = .fields vs) : CallR (X.suite a ((a, oe) :: pn)) (.builtin "isinstance") (rIsX X.K D a cls d) := by
  intro pins s σ H xs us Q I r h
  obtain ⟨c, cv, b, dd, fs, rfl, hcv, e, ec, ed, hd, q⟩ := h
  obtain ⟨x1, x2, e1, r1, r2⟩ : ∃ x1 x2, us = [x1, x2] ∧ RelV (.ref a) x1 ∧ RelV c x2 := by
    cases r with
    | cons rx rr =>
      cases rr with
      | cons rt rn =>
        cases rn
        exact ⟨_, _, rfl, rx, rt⟩
  subst e1
  have e1 : x1 = Value.ref a := r1
  subst e1
  have e2 := hcv.eq r2
  subst e2
  obtain ⟨hget, _⟩ := I.pin (a, oe) (List.mem_append.mpr (.inl List.mem_cons_self))
  obtain ⟨vs, hv⟩ := hf
  obtain ⟨mA, hns, _⟩ := (show ObjOk X.prog X.w H s.heap dd (.xd fs) from I.hok dd _ hd)
  obtain ⟨od, ho, _⟩ := lookIn_ns hns
  have J : PySem.W.InstAt s.heap a oe D (some od) := ⟨hget, hz.1.trans ec, by unfold PySem.W.notCls; rw [hv], by rw [hz.2, ed]; exact ho⟩
  exact PySem.W.kia_one (PySem.W.kitx_exc C.hcl C.hga C.hgt C.hsub C.ha C.hn C.htk C.hm) I.kIn J e (fun z => nomatch z) fun tk => ⟨.bl b, H, I.kept (t' := tk) fun _ _ z => z, rfl, q⟩
structure ITy (K : PySem.W.Frag) (C : Addr) : Prop where
  ha : PySem.W.findIn K (.ref C) "__class__" = some (some (.builtin "object.__class__"))
  hn : PySem.W.specialIn K (.builtin "object.__class__") "__get__" = some (some (.builtin "getset_descriptor.__get__"))
  htk : PySem.W.takesIn K (.builtin "object.__class__") = some true
  hm : PySem.W.mroIn K C (.type "object") = some true
  kI : PySem.W.kitOne K (.ref C) (.type "int") = some false
  kB : PySem.W.kitOne K (.ref C) (.type "bool") = some false
theorem kit_self {K : PySem.W.Frag} {C : Addr} : PySem.W.kitOne K (.ref C) (.ref C) = some true := by
  unfold PySem.W.kitOne
  rw [if_pos (by simp)]
theorem RatAt.ty {K : PySem.W.Frag} {C : Addr} {H : Hp} {x : Addr} {t u : Int} (T : CTx K C) (Y : ITy K C) (h : RatAt C H x t u) : TyX K H (.ref x) (.ref C) := by
  obtain ⟨dx, h⟩ := h
  exact .base (.ins h T.cl Y.ha Y.hn Y.htk Y.hm)
theorem RatAt.isTy {K : PySem.W.Frag} {C : Addr} {H : Hp} {x : Addr} {t u : Int} (T : CTx K C) (Y : ITy K C) (h : RatAt C H x t u) : IsTy K H (.ref x) := ⟨_, _, _, h.ty T Y, Y.kI, Y.kB, rfl⟩
theorem mul_ok {a b : Int} (ha : a.natAbs < 2 ^ 4000) (hb : b.natAbs < 2 ^ 4000) : CMulW a b := wide_mul ha hb (by decide) (by decide) (by decide)
theorem IsTy.same {K : PySem.W.Frag} {H H' : Hp} {x : V} (s : Same H H') (h : IsTy K H x) : IsTy K H' x := by
  obtain ⟨t, b1, b2, ty, h1, h2, h3⟩ := h
  refine ⟨t, b1, b2, ?_, h1, h2, h3⟩
  cases ty with
  | base b =>
    refine .base ?_
    cases b with
    | non => exact .non
    | bl => exact .bl _
    | int => exact .int _
    | str => exact .str _
    | flt => exact .flt _
    | lst e => exact .lst (s _ _ e)
    | frz e => exact .frz (s _ _ e)
    | tup e => exact .tup (s _ _ e)
    | dK e => exact .dK (s _ _ e)
    | dT e => exact .dT (s _ _ e)
    | ins e c1 c2 c3 c4 c5 => exact .ins (s _ _ e) c1 c2 c3 c4 c5
  | byt => exact .byt _
  | set e => exact .set (s _ _ e)
  | kList e c => exact .kList e c
  | kTuple e c => exact .kTuple e c
  | kDict e c => exact .kDict e c
  | fTuple e => exact .fTuple (s _ _ e)
  | fDict e => exact .fDict (s _ _ e)
theorem same_made {H H1 : Hp} {x dx C : Addr} (nx : H x = none) (nd : H dx = none) (k : But x (upd (upd H dx (.own x)) x (.ins C dx [])) H1) : Same H H1 := fun b o e =>
  k b o (by rw [upd_ne (ne_of_none e nx), upd_ne (ne_of_none e nd)]; exact e) (ne_of_none e nx)
theorem same_pair {H : Hp} {x dx C : Addr} (nx : H x = none) (nd : H dx = none) (ne : dx ≠ x) : Same H (upd (upd H dx (.own x)) x (.ins C dx [])) := same_new (same_new (Same.refl H) nd) ((upd_ne ne.symm).trans nx)
theorem due_none {a b : Int} (hb : b ≠ 0) : dueW (.int a) (.int b) = none := by
  unfold dueW
  have : ¬ (V.int b = V.int 0) := fun e => hb (V.int.inj e)
  simp [isI, this]
theorem due_top {u v : V} (h : isI u = false) : dueW u v = some ("top" : Str) := by
  unfold dueW
  simp [h]
theorem due_bottom {a : Int} {v : V} (h : isI v = false) : dueW (.int a) v = some ("bottom" : Str) := by
  unfold dueW
  rw [if_pos (show isI (.int a) = true from rfl), h, if_neg Bool.false_ne_true]
theorem mk_go {K : PySem.W.Frag} {C CN x dx : Addr} {H : Hp} {a b : Int} {Q : VK} {E : XK} (hb : b ≠ 0) (sb : b.natAbs < 2 ^ 8000) (nx : H x = none) (ndx : H dx = none) (_ne : dx ≠ x) (k : ∀ t u H', Low a b t u → RatAt C H' x t u → Same H H' → Q .non H') :
    spRatioInit K C CN [.ref x, .int a, .int b] (upd (upd H dx (.own x)) x (.ins C dx [])) Q E :=
  ⟨x, dx, _, _, rfl, upd_same, .int _, .int _, fun b' e => (by cases e; exact sb), fun z hz => (by rw [due_none hb] at hz; cases hz), fun a' b' ea eb _ t w H' L R Bt => by
    cases ea
    cases eb
    exact k t w H' L R (same_made nx ndx Bt)⟩
def spLaw (K : PySem.W.Frag) : Sp := fun vs H Q _ => ∃ (a : Addr) (ns : List Int), vs = [.ref a] ∧ SqL K H a (ns.map V.int) ∧ ns.length ≤ 63 ∧ ∀ H', Q (.bl true) H'
end Sq

namespace Sq
open PySem L2 PyProof.Rows
/-- o.m(..) in a try's body: what leaves is wished for at the slots -/
def tMtS (C : Addr) (m : Str) (sp : Sp) (W : L2.St → XK) (to : TE) (t : TA) : TE := fun σ H Q => to σ H fun x H1 => ∃ a dy fs, x = .ref a ∧ H1 a = some (.ins C dy fs) ∧ fs.lookup m = none ∧ t σ H1 fun vs H2 => sp (x :: vs) H2 Q (W σ)
theorem pe_mtS {X : Cx} {CX : CXT} {k : Nat} {f C : Addr} {fd : FuncData} {ps : List Str} {sp : Sp} {W : L2.St → XK} {m : Str} {apos pos : Pos} {o e : Expr} {es : List Expr} {to : TE} {t : TA} {pl : Sem Bool}
    (ho : PE X o to) (cl : Cls X.K C) (me : Meth X.K C m f) (G : FnOk X.prog X.w X.K X.mg X.base CX k f fd ps sp) (room : Room k X.A) (bi : Binds X.K fd ps []) (ok : ∀ σ, PassesAt CX X σ (W σ)) (ha : PA X (e :: es) t)
    (st : starEach (e :: es) X.env = (false, eval e X.env) :: starEach es X.env := by rfl) (np : (backTo pos (starEach es X.env)).any (·.1) = false := by rfl)
    (ev : eval (.Call (.Attribute o m apos) (e :: es) [] pos) X.env = (do let ov ← eval o X.env; standAt apos.atName; let (f, first) ← holding [ov] (getMethod ov m pl); callWith pos f first (backTo pos (starEach (e :: es) X.env)) (backToKw pos (keywordEach [] X.env))) := by rfl) :
    PE X (.Call (.Attribute o m apos) (e :: es) [] pos) (tMtS C m sp W to t) := by
  refine ⟨fun pins s σ H Q I h => PySem.W.methodCall_KW (pl := pl) (thn (ho.run pins s σ H _ I h) fun u s1 hh => ?_) ev⟩
  obtain ⟨x, H1, I1, rx, a, dy, fs, ex, ea, l, q⟩ := hh
  cases ex
  cases rx
  refine getmeth_ok I1 ea cl me l (PySem.W.callWith_K (first := [.ref a]) (h₀ := X.base) I.ok.mod.kin me.kp (thn (ha.run pos pins s1 σ H1 _ I1 q) fun us s2 h2 => ?_) st np)
  obtain ⟨vs, H2, I2, r, q2⟩ := h2
  exact ⟨I2.kIn, run_fnS (us := .ref a :: us) (vs := .ref a :: vs) G room bi (ok σ) I2 (.cons rfl r) q2⟩
/-! ### sizes by powers of two -/
def B (n : Nat) (x : Int) : Prop := x.natAbs < 2 ^ n
theorem B_le {n m : Nat} {x : Int} (h : B n x) (hn : n ≤ m) : B m x := Nat.lt_of_lt_of_le h (Nat.pow_le_pow_right (by decide) hn)
theorem B_mul {n m : Nat} {x y : Int} (h : B n x) (h' : B m y) : B (n + m) (x * y) := wide_lt h h'
theorem B_add {n m : Nat} {x y : Int} (h : B n x) (h' : B m y) : B (max n m + 1) (x + y) := by
  have a := B_le h (Nat.le_max_left n m)
  have b := B_le h' (Nat.le_max_right n m)
  unfold B at *
  rw [Nat.pow_succ]
  omega
theorem B_neg {n : Nat} {x : Int} (h : B n x) : B n (-x) := by
  unfold B at *
  omega
theorem B_sub {n m : Nat} {x y : Int} (h : B n x) (h' : B m y) : B (max n m + 1) (x - y) := by
  have := B_add h (B_neg h')
  rw [← Int.sub_eq_add_neg] at this
  exact this
theorem B_abs {n : Nat} {x y : Int} (h : B n x) (hy : y.natAbs ≤ x.natAbs) : B n y := Nat.lt_of_le_of_lt hy h
theorem mulB {n m : Nat} {x y : Int} (h : B n x) (h' : B m y) (hs : n + m + 2 ≤ 1000000) : CMulW x y := wide_mul (B_le h (Nat.le_succ n)) (B_le h' (Nat.le_succ m)) (Nat.succ_pos _) (Nat.succ_pos _) (by omega)
end Sq

namespace Sq
open PySem L2 PyProof.Rows
theorem cmpBack_of {X : Cx} {pins : List (Addr × Obj)} {σ : L2.St} {Q : VK} {u : Value} {s' : Shared} (h : EP X pins σ Q u s') : PySem.W.CmpBack (EP X pins σ Q) u s' := by
  cases u with
  | notImplemented =>
    obtain ⟨v, _, _, r, _⟩ := h
    cases v with
    | non => cases r
    | bl _ => cases r
    | ref _ => cases r
    | ty _ => cases r
    | int _ => obtain ⟨_, e⟩ := r; cases e
    | str _ => obtain ⟨_, e⟩ := r; cases e
    | byt _ => obtain ⟨_, e⟩ := r; cases e
    | flt _ => obtain ⟨_, e⟩ := r; cases e
  | _ => exact h
/-- an operator of an own class, found by its name -/
structure OwnOp (K : PySem.W.Frag) (C f : Addr) (nm : Str) : Prop where
  at_ : PySem.W.findIn K (.ref C) nm = some (some (.ref f))
  fn : PySem.W.isFn K (.ref f) = true
section
variable {X : Cx} {CX : CXT} {k : Nat} {f C : Addr} {fd : FuncData} {ps : List Str} {sp : Sp} {E : XK}
theorem inst_at {pins : List (Addr × Obj)} {σ : L2.St} {H : Hp} {s : Shared} {a C dx : Addr} {fs : List (Str × V)} (I : Inv X pins σ H s) (h : H a = some (.ins C dx fs)) : ∃ od, PySem.W.InstAt s.heap a (PySem.W.instObj C dx) C (some od) := by
  obtain ⟨mA, J, _⟩ := ins_get I.hok h
  obtain ⟨od, J, _⟩ := J.look
  exact ⟨od, J⟩
/-- a + b, both of the class at C -/
def rOwn2 (C : Addr) (sp : Sp) (E : XK) : R2 := fun x y H Q => ∃ a b dx dy fs gs, x = .ref a ∧ y = .ref b ∧ H a = some (.ins C dx fs) ∧ H b = some (.ins C dy gs) ∧ sp [x, y] H Q E
theorem op_own2 {op : Operator} (hc : PySem.W.selfFirst X.K C = true) (O : OwnOp X.K C f (PySem.dunder op.info.2)) (G : FnOk X.prog X.w X.K X.mg X.base CX k f fd ps sp) (hr : Room k X.A) (hb : Binds X.K fd ps []) (hx : Passes CX X E) :
    OpR X (binaryOp op) (rOwn2 C sp E) := by
  rintro pins s σ H x y v u Q I rx ry ⟨a, b, dx, dy, fs, gs, rfl, rfl, ha, hb', hsp⟩
  cases rx
  cases ry
  obtain ⟨od, J⟩ := inst_at I ha
  obtain ⟨od', J'⟩ := inst_at I hb'
  obtain ⟨m, hF⟩ := I.fr
  refine PySem.W.binop_K hF I.ok.mod.kin J J'.type hc O.at_ O.fn ?_
  exact wpAny_mono (run_fn (us := [.ref a, .ref b]) (vs := [.ref a, .ref b]) G hr hb .nil hx I (.cons rfl (.cons rfl .nil)) hsp) (fun _ _ h => cmpBack_of h) fun _ _ z => z
/-- a + i, a of the class at C, i an int -/
structure IntOp (K : PySem.W.Frag) (C : Addr) (nm : String) : Prop where
  h1 : ∃ fo, PySem.W.findIn K (.type "int") (PySem.dunder nm) = some fo
  h2 : ∃ ro, PySem.W.findIn K (.type "int") (dunderR nm) = some ro
  hsub : PySem.W.subIn K (.type "int") (.ref C) = some false
  hr : ∃ g : Addr, PySem.W.findIn K (.ref C) (dunderR nm) = some (some (.ref g))
def rOwnI (C : Addr) (sp : Sp) (E : XK) : R2 := fun x y H Q => ∃ a i dx fs, x = .ref a ∧ y = .int i ∧ H a = some (.ins C dx fs) ∧ sp [x, y] H Q E
theorem op_ownI {op : Operator} (hc : PySem.W.selfFirst X.K C = true) (O : OwnOp X.K C f (PySem.dunder op.info.2)) (N : IntOp X.K C op.info.2) (G : FnOk X.prog X.w X.K X.mg X.base CX k f fd ps sp) (hr : Room k X.A) (hb : Binds X.K fd ps []) (hx : Passes CX X E) :
    OpR X (binaryOp op) (rOwnI C sp E) := by
  rintro pins s σ H x y v u Q I rx ry ⟨a, i, dx, fs, rfl, rfl, ha, hsp⟩
  cases rx
  obtain ⟨t, rfl⟩ := ry
  obtain ⟨od, J⟩ := inst_at I ha
  obtain ⟨m, hF⟩ := I.fr
  obtain ⟨fo, h1⟩ := N.h1
  obtain ⟨ro, h2⟩ := N.h2
  obtain ⟨g, h3⟩ := N.hr
  refine PySem.W.ksp_binT (T := "int") hF I.ok.mod.kin J rfl hc O.at_ O.fn h3 (.inr ⟨g, rfl⟩) h1 h2 N.hsub ?_
  exact wpAny_mono (run_fn (us := [.ref a, .int i t]) (vs := [.ref a, .int i]) G hr hb .nil hx I (.cons rfl (.cons ⟨t, rfl⟩ .nil)) hsp) (fun _ _ h => cmpBack_of h) fun _ _ z => z
/-- -a -/
def rOwn1 (C : Addr) (sp : Sp) (E : XK) : V → Hp → VK → Prop := fun x H Q => ∃ a dx fs, x = .ref a ∧ H a = some (.ins C dx fs) ∧ sp [x] H Q E
theorem un_own (O : OwnOp X.K C f "__neg__") (G : FnOk X.prog X.w X.K X.mg X.base CX k f fd ps sp) (hr : Room k X.A) (hb : Binds X.K fd ps []) (hx : Passes CX X E) : UnR X (unaryOp .USub) (rOwn1 C sp E) := by
  rintro pins s σ H x v Q I rx ⟨a, dx, fs, rfl, ha, hsp⟩
  cases rx
  obtain ⟨od, J⟩ := inst_at I ha
  obtain ⟨m, hF⟩ := I.fr
  refine PySem.W.ksp_neg hF I.ok.mod.kin J O.at_ O.fn ?_
  exact run_fn (us := [.ref a]) (vs := [.ref a]) G hr hb .nil hx I (.cons rfl .nil) hsp
end
end Sq
namespace Sq
open PySem L2 PyProof.Rows
/-- a built-in operator of ints, upon an object that holds no int: NotImplemented -/
def SNot (a : Addr) : PySem.Spec := fun _ R s => (∃ o, s.heap.get? a = some o ∧ o.data = .plain) ∧ R (.ok (.ret .notImplemented)) s
theorem bin_not {nm : String} {g : Int → Int → Sem Fin} {i : Int} {t : Tok} {a : Addr} : Meets (Builtin.Int.intBinary nm g false ⟨[.int i t, .ref a], []⟩) (SNot a) := by
  rintro prog w A R s ⟨⟨o, ho, hd⟩, q⟩
  unfold Builtin.Int.intBinary
  refine wpAny_bind (wpAny_of_eq (a := ((Value.int i t : Value), [Value.ref a])) (by first | rfl | (simp only [slotArgs]; rfl)) ?_)
  refine wpAny_bind (wpAny_of_eq (a := i) (by rfl) ?_)
  refine wpAny_bind (wpAny_bind (wpAny_load ho ?_))
  rw [hd]
  exact wpAny_pure (wpAny_bind (wpAny_rule (wpAny_pure q)))
section
variable {X : Cx} {CX : CXT} {k : Nat} {f C : Addr} {fd : FuncData} {ps : List Str} {sp : Sp} {E : XK}
/-- i + a, i an int, a of the class at C -/
def rIOwn (C : Addr) (sp : Sp) (E : XK) : R2 := fun x y H Q => ∃ a i dx fs, x = .int i ∧ y = .ref a ∧ H a = some (.ins C dx fs) ∧ sp [y, x] H Q E
theorem bin1_right {M : Model} {A : Around} {E : Value → Shared → Prop} {s : Shared} {K : PySem.W.Frag} {a C f : Addr} {ox : Obj} {od : Option Obj} {nm : String} {i : Int} {t : Tok} {id : String} {Q : Option Value → Shared → Prop}
    (Y : K.In s.heap) (I : PySem.W.InstAt s.heap a ox C od) (hc : PySem.W.selfFirst K C = true) (fT : fillsNumberSlot (.type "int") nm = pure true) (sl : Slot "int" (PySem.dunder nm) id)
    (h0 : PySem.W.findIn K (.ref C) (PySem.dunder nm) = some (some (.ref f))) {g : Addr} (hs : PySem.W.findIn K (.ref C) (dunderR nm) = some (some (.ref g))) (hf : PySem.W.isFn K (.ref g) = true) (hsub : PySem.W.subIn K (.ref C) (.type "int") = some false)
    (hcall : wpAny M A (call (.builtin id) [.int i t, .ref a]) (fun v s' => v = .notImplemented ∧ s' = s) E s)
    (h : wpAny M A (call (.ref g) [.ref a, .int i t]) (PySem.W.CmpBack fun v s' => Q (some v) s') E s) : wpAny M A (binaryOp1 nm (.int i t) (.ref a)) Q E s := by
  obtain ⟨cd, rest, hcd, hm⟩ := PySem.W.ksp_first hc
  have L1 : PySem.W.Looks M s.heap (typeOf (.ref a)) (.ref C) := I.type
  have L2 : PySem.W.Looks M s.heap (fillsNumberSlot (.ref C) nm) true := PySem.W.fills_K Y hcd hm h0
  have L3 : PySem.W.Looks M s.heap (isSubtype (.ref C) (.type "int")) false := PySem.W.looks_subIn Y hsub
  have two : wpAny M A (tryMethod (.ref a) (dunderR nm) (.int i t)) (fun r s' => ∃ v, r = some v ∧ Q (some v) s') E s := PySem.W.ksp_try Y I hs hf h
  simp only [binaryOp1]
  refine wpAny_bind (wpAny_of_eq (a := Value.type "int") rfl (wpAny_bind (L1.here (wpAny_bind (wpAny_of_eq fT ?_)))))
  have ne : (Value.type "int" == Value.ref C) = false := Bool.eq_false_iff.mpr fun q => by cases beq_iff_eq.mp q
  simp only [ne, Bool.false_eq_true, if_false]
  refine wpAny_bind (L2.here ?_)
  simp only [Bool.and_self, if_true]
  refine wpAny_bind (L3.here ?_)
  have hpy : numberSlotInPython (.type "int") nm = pure false := rfl
  simp only [Bool.false_eq_true, if_false, pure_bind, Bool.not_false, Bool.and_self, if_true, hpy]
  refine wpAny_bind (m := tryMethod (.int i t) _ _) ?_
  have hT : s.TypeIs (.int i t) "int" := typeIs_int s i t
  unfold tryMethod
  refine wpAny_bind (wpAny_callSpecial?_slot hT sl (wpAny_mono hcall (fun v s1 h1 => ?_) fun _ _ z => z))
  obtain ⟨rfl, rfl⟩ := h1
  refine wpAny_pure (wpAny_bind (wpAny_mono two (fun r s2 h2 => ?_) fun _ _ z => z))
  obtain ⟨v, rfl, q⟩ := h2
  exact wpAny_bind (wpAny_rule (wpAny_pure q))
end
end Sq
namespace Sq
open PySem L2 PyProof.Rows
/-- what the class must say for i + a -/
structure RevOp (K : PySem.W.Frag) (C f g : Addr) (nm : String) : Prop where
  h0 : PySem.W.findIn K (.ref C) (PySem.dunder nm) = some (some (.ref f))
  hs : PySem.W.findIn K (.ref C) (dunderR nm) = some (some (.ref g))
  hf : PySem.W.isFn K (.ref g) = true
  hsub : PySem.W.subIn K (.ref C) (.type "int") = some false
/-- the built-in side of an operator of ints -/
structure BltOp (op : Operator) : Prop where
  fT : fillsNumberSlot (.type "int") op.info.2 = pure true
  sl : ∃ id B, Slot "int" (PySem.dunder op.info.2) id ∧ entryFor table id = some B ∧ (∀ a b : Value, argsOk id ⟨[a, b], []⟩) ∧ ∃ nm g, ∀ args, B args = Builtin.Int.intBinary nm g false args
theorem blt_add : BltOp .Add := ⟨F.fills_int_add, _, _, F.slot_int_add, F.entry_int_add, F.args_int_add_2, _, _, fun _ => rfl⟩
theorem blt_sub : BltOp .Sub := ⟨F.fills_int_sub, _, _, F.slot_int_sub, F.entry_int_sub, F.args_int_sub_2, _, _, fun _ => rfl⟩
theorem blt_mul : BltOp .Mult := ⟨F.fills_int_mul, _, _, F.slot_int_mul, F.entry_int_mul, F.args_int_mul_2, _, _, fun _ => rfl⟩
section
variable {X : Cx} {CX : CXT} {k : Nat} {f C : Addr} {fd : FuncData} {ps : List Str} {sp : Sp} {E : XK}
theorem bin_of1 {M : Model} {A : Around} {E : Value → Shared → Prop} {s : Shared} {op : Operator} {a b : Value} {Q : Value → Shared → Prop} (h : wpAny M A (binaryOp1 op.info.2 a b) (fun r s' => ∃ v, r = some v ∧ Q v s') E s) : wpAny M A (binaryOp op a b) Q E s := by
  rcases hi : op.info with ⟨sym, nm⟩
  rw [hi] at h
  simp only [binaryOp, hi]
  refine wpAny_holding (wpAny_bind (wpAny_mono h (fun r s' hr => ?_) fun _ _ z => z))
  obtain ⟨v, rfl, q⟩ := hr
  exact wpAny_pure q
theorem op_Iown {op : Operator} {g : Addr} (hc : PySem.W.selfFirst X.K C = true) (B : BltOp op) (R : RevOp X.K C f g op.info.2) (G : FnOk X.prog X.w X.K X.mg X.base CX k g fd ps sp) (hr : Room k X.A) (hb : Binds X.K fd ps []) (hx : Passes CX X E) :
    OpR X (binaryOp op) (rIOwn C sp E) := by
  rintro pins s σ H x y v u Q I rx ry ⟨a, i, dx, fs, rfl, rfl, ha, hsp⟩
  cases ry
  obtain ⟨t, rfl⟩ := rx
  obtain ⟨od, J⟩ := inst_at I ha
  obtain ⟨id, Bf, sl, en, ar, nm, gg, hB⟩ := B.sl
  refine bin_of1 (bin1_right I.kIn J hc B.fT sl R.h0 R.hs R.hf R.hsub ?_ ?_)
  · refine call_meets sl (typeIs_int s i t) en (ar _ _) (S := SNot a) ?_ ⟨⟨_, J.at_, rfl⟩, rfl, rfl⟩
    rw [hB]
    exact bin_not
  · refine wpAny_mono (run_fn (us := [.ref a, .int i t]) (vs := [.ref a, .int i]) G hr hb .nil hx I (.cons rfl (.cons ⟨t, rfl⟩ .nil)) hsp) (fun u s' h => ?_) fun _ _ z => z
    have c := cmpBack_of h
    cases u with
    | notImplemented => exact c.elim
    | _ => exact ⟨_, rfl, c⟩
/-- the class has only itself and object above it -/
structure MroOk (K : PySem.W.Frag) (C : Addr) (cd : ClassData) : Prop where
  hc : PySem.W.clsIn K C = some cd
  hm : cd.mro = [.ref C, .type "object"]
structure NoIn (K : PySem.W.Frag) (C : Addr) (nm : String) : Prop where
  h1 : PySem.W.findIn K (.ref C) (dunderI nm) = some none
  h2 : PySem.W.findIn K (.type "object") (dunderI nm) = some none
theorem no_inplace {K : PySem.W.Frag} {M : Model} {h : Heap} {cd : ClassData} {nm : String} {add : Bool} (Y : K.In h) (O : MroOk K C cd) (N : NoIn K C nm) : PySem.W.Looks M h (fillsInplaceSlot (.ref C) nm add) false := by
  intro A Q E s kk q
  have Lm : PySem.W.Looks M h (mroOf (.ref C)) cd.mro := (PySem.W.looks_clsIn Y O.hc).andThen (f := fun cd => pure cd.mro) .now
  have L1 : PySem.W.Looks M h (typeLookup (.ref C) (dunderI nm)) none := PySem.W.looks_findIn Y N.h1
  have L2 : PySem.W.Looks M h (typeLookup (.type "object") (dunderI nm)) none := PySem.W.looks_findIn Y N.h2
  unfold fillsInplaceSlot
  refine wpAny_bind (Lm A _ E s kk ?_)
  rw [O.hm, List.anyM_cons]
  refine wpAny_bind (wpAny_bind (L1 A _ E s kk (wpAny_pure ?_)))
  rw [if_neg Bool.false_ne_true, List.anyM_cons]
  refine wpAny_bind (wpAny_bind (L2 A _ E s kk (wpAny_pure ?_)))
  rw [if_neg Bool.false_ne_true, List.anyM_nil]
  exact wpAny_pure q
theorem inplace_of1 {M : Model} {A : Around} {E : Value → Shared → Prop} {s : Shared} {K : PySem.W.Frag} {op : Operator} {a : Addr} {b : Value} {ox : Obj} {od : Option Obj} {cd : ClassData} {Q : Value → Shared → Prop} (Y : K.In s.heap) (I : PySem.W.InstAt s.heap a ox C od) (O : MroOk K C cd) (N : NoIn K C op.info.2)
    (h : wpAny M A (binaryOp1 op.info.2 (.ref a) b) (fun r s' => ∃ v, r = some v ∧ Q v s') E s) : wpAny M A (inplaceOp op (.ref a) b) Q E s := by
  have L1 : PySem.W.Looks M s.heap (typeOf (.ref a)) (.ref C) := I.type
  have L2 : PySem.W.Looks M s.heap (fillsInplaceSlot (.ref C) op.info.2 (op == .Add)) false := no_inplace Y O N
  unfold inplaceOp
  refine wpAny_holding (wpAny_bind (L1.here (wpAny_bind (L2.here ?_))))
  simp only [Bool.false_eq_true, if_false]
  refine wpAny_bind (wpAny_mono h (fun r s' hr => ?_) fun _ _ z => z)
  obtain ⟨v, rfl, q⟩ := hr
  exact wpAny_pure q
theorem bin1_two {M : Model} {A : Around} {E : Value → Shared → Prop} {s : Shared} {K : PySem.W.Frag} {a : Addr} {b : Value} {ox : Obj} {od : Option Obj} {nm : String} {Q : Option Value → Shared → Prop} (Y : K.In s.heap) (I : PySem.W.InstAt s.heap a ox C od)
    (hb : PySem.W.Looks M s.heap (typeOf b) (.ref C)) (hc : PySem.W.selfFirst K C = true) (O : OwnOp K C f (PySem.dunder nm)) (h : wpAny M A (call (.ref f) [.ref a, b]) (PySem.W.CmpBack fun v s' => Q (some v) s') E s) : wpAny M A (binaryOp1 nm (.ref a) b) Q E s := by
  obtain ⟨cd, rest, hcd, hm⟩ := PySem.W.ksp_first hc
  have L1 : PySem.W.Looks M s.heap (typeOf (.ref a)) (.ref C) := I.type
  have L2 : PySem.W.Looks M s.heap (fillsNumberSlot (.ref C) nm) true := PySem.W.fills_K Y hcd hm O.at_
  have one : wpAny M A (tryMethod (.ref a) (PySem.dunder nm) b) (fun r s' => ∃ v, r = some v ∧ Q (some v) s') E s := PySem.W.ksp_try Y I O.at_ O.fn h
  simp only [binaryOp1]
  refine wpAny_bind (L1.here (wpAny_bind (hb.here (wpAny_bind (L2.here ?_)))))
  simp only [beq_self_eq_true, if_true]
  refine wpAny_bind (wpAny_pure ?_)
  simp only [Bool.and_false, Bool.false_eq_true, if_false, Bool.false_and, pure_bind, if_true]
  refine wpAny_bind (wpAny_mono one (fun r s' hr => ?_) fun _ _ z => z)
  obtain ⟨v, rfl, q⟩ := hr
  exact wpAny_pure q
theorem bin1_int {M : Model} {A : Around} {E : Value → Shared → Prop} {s : Shared} {K : PySem.W.Frag} {a : Addr} {i : Int} {t : Tok} {ox : Obj} {od : Option Obj} {nm : String} {Q : Option Value → Shared → Prop} (Y : K.In s.heap) (I : PySem.W.InstAt s.heap a ox C od)
    (hc : PySem.W.selfFirst K C = true) (O : OwnOp K C f (PySem.dunder nm)) (N : IntOp K C nm) (h : wpAny M A (call (.ref f) [.ref a, .int i t]) (PySem.W.CmpBack fun v s' => Q (some v) s') E s) : wpAny M A (binaryOp1 nm (.ref a) (.int i t)) Q E s := by
  obtain ⟨cd, rest, hcd, hm⟩ := PySem.W.ksp_first hc
  obtain ⟨fo, h1⟩ := N.h1
  obtain ⟨ro, h2⟩ := N.h2
  obtain ⟨g, h3⟩ := N.hr
  have L1 : PySem.W.Looks M s.heap (typeOf (.ref a)) (.ref C) := I.type
  have L2 : PySem.W.Looks M s.heap (fillsNumberSlot (.ref C) nm) true := PySem.W.fills_K Y hcd hm O.at_
  have L3 : PySem.W.Looks M s.heap (fillsNumberSlot (.type "int") nm) ((fo.isSome && !isSeqSlot fo) || (ro.isSome && !isSeqSlot ro)) := PySem.W.ksp_fillsT Y h1 h2
  have L4 : PySem.W.Looks M s.heap (isSubtype (.type "int") (.ref C)) false := PySem.W.looks_subIn Y N.hsub
  have L5 : PySem.W.Looks M s.heap (numberSlotInPython (.ref C) nm) true := PySem.W.ksp_inPy Y O.at_ h3 (.inr ⟨g, rfl⟩)
  have L6 : PySem.W.Looks M s.heap (typeLookup (.type "int") (dunderR nm)) ro := PySem.W.looks_findIn Y h2
  have one : wpAny M A (tryMethod (.ref a) (PySem.dunder nm) (.int i t)) (fun r s' => ∃ v, r = some v ∧ Q (some v) s') E s := PySem.W.ksp_try Y I O.at_ O.fn h
  have ne : (Value.ref C == Value.type "int") = false := Bool.eq_false_iff.mpr fun q => by cases beq_iff_eq.mp q
  have hpy : numberSlotInPython (.type "int") nm = pure false := rfl
  simp only [binaryOp1]
  refine wpAny_bind (L1.here (wpAny_bind (wpAny_of_eq (a := Value.type "int") rfl (wpAny_bind (L2.here ?_)))))
  simp only [ne, Bool.false_eq_true, if_false]
  refine wpAny_bind (L3.here ?_)
  generalize ((fo.isSome && !isSeqSlot fo) || (ro.isSome && !isSeqSlot ro)) = right
  cases right with
  | false =>
    simp only [Bool.and_false, Bool.false_eq_true, if_false, Bool.false_and, pure_bind, if_true]
    refine wpAny_bind (wpAny_mono one (fun r s' hr => ?_) fun _ _ z => z)
    obtain ⟨v, rfl, q⟩ := hr
    exact wpAny_pure q
  | true =>
    simp only [Bool.and_self, if_true]
    refine wpAny_bind (L4.here ?_)
    simp only [Bool.false_eq_true, if_false, pure_bind, Bool.not_false, Bool.and_self, if_true]
    refine wpAny_bind (L5.here ?_)
    simp only [if_true, hpy, pure_bind, Bool.not_false]
    refine wpAny_bind (L6.here (wpAny_bind (wpAny_mono one (fun r s' hr => ?_) fun _ _ z => z)))
    obtain ⟨v, rfl, q⟩ := hr
    exact wpAny_pure q
theorem back_some {pins : List (Addr × Obj)} {σ : L2.St} {Q : VK} {u : Value} {s' : Shared} (h : EP X pins σ Q u s') : PySem.W.CmpBack (fun v s' => ∃ w, some v = some w ∧ EP X pins σ Q w s') u s' := by
  have c := cmpBack_of h
  cases u with
  | notImplemented => exact c.elim
  | _ => exact ⟨_, rfl, c⟩
theorem ip_own2 {op : Operator} {cd : ClassData} (hc : PySem.W.selfFirst X.K C = true) (M : MroOk X.K C cd) (N : NoIn X.K C op.info.2) (O : OwnOp X.K C f (PySem.dunder op.info.2)) (G : FnOk X.prog X.w X.K X.mg X.base CX k f fd ps sp) (hr : Room k X.A) (hb : Binds X.K fd ps []) (hx : Passes CX X E) :
    OpR X (inplaceOp op) (rOwn2 C sp E) := by
  rintro pins s σ H x y v u Q I rx ry ⟨a, b, dx, dy, fs, gs, rfl, rfl, ha, hb', hsp⟩
  cases rx
  cases ry
  obtain ⟨od, J⟩ := inst_at I ha
  obtain ⟨od', J'⟩ := inst_at I hb'
  exact inplace_of1 I.kIn J M N (bin1_two I.kIn J J'.type hc O (wpAny_mono (run_fn (us := [.ref a, .ref b]) (vs := [.ref a, .ref b]) G hr hb .nil hx I (.cons rfl (.cons rfl .nil)) hsp) (fun _ _ h => back_some h) fun _ _ z => z))
theorem ip_ownI {op : Operator} {cd : ClassData} (hc : PySem.W.selfFirst X.K C = true) (M : MroOk X.K C cd) (N : NoIn X.K C op.info.2) (O : OwnOp X.K C f (PySem.dunder op.info.2)) (NI : IntOp X.K C op.info.2) (G : FnOk X.prog X.w X.K X.mg X.base CX k f fd ps sp) (hr : Room k X.A) (hb : Binds X.K fd ps []) (hx : Passes CX X E) :
    OpR X (inplaceOp op) (rOwnI C sp E) := by
  rintro pins s σ H x y v u Q I rx ry ⟨a, i, dx, fs, rfl, rfl, ha, hsp⟩
  cases rx
  obtain ⟨t, rfl⟩ := ry
  obtain ⟨od, J⟩ := inst_at I ha
  exact inplace_of1 I.kIn J M N (bin1_int I.kIn J hc O NI (wpAny_mono (run_fn (us := [.ref a, .int i t]) (vs := [.ref a, .int i]) G hr hb .nil hx I (.cons rfl (.cons ⟨t, rfl⟩ .nil)) hsp) (fun _ _ h => back_some h) fun _ _ z => z))
/-- a == y by the class's own ==; y is of the class, or of a built-in class -/
def rOwnEq (K : PySem.W.Frag) (C : Addr) (sp : Sp) (E : XK) : R2 := fun x y H Q => ∃ a dx fs t, x = .ref a ∧ H a = some (.ins C dx fs) ∧ TyX K H y t ∧ PySem.W.notFirst K C t = true ∧ sp [x, y] H Q E
theorem op_ownEq (O : OwnOp X.K C f "__eq__") (G : FnOk X.prog X.w X.K X.mg X.base CX k f fd ps sp) (hr : Room k X.A) (hb : Binds X.K fd ps []) (hx : Passes CX X E) : OpR X (compareOp .Eq) (rOwnEq X.K C sp E) := by
  rintro pins s σ H x y v u Q I rx ry ⟨a, dx, fs, t, rfl, ha, hty, hn, hsp⟩
  cases rx
  obtain ⟨od, J⟩ := inst_at I ha
  obtain ⟨m, hF⟩ := I.fr
  obtain ⟨Pt, KX, hp, _⟩ := kit_of I ry hty
  show wpAny (model X.prog X.w) X.A (richCompare .Eq (.ref a) u) (EP X pins σ Q) X.xe s
  refine PySem.W.cmp_K (op := .Eq) (tb := t) hr.units0 hF I.ok.mod.kin J (KX.ty _ _ I.kIn hp) hn O.at_ O.fn ?_
  exact wpAny_mono (run_fn (us := [.ref a, u]) (vs := [.ref a, y]) G hr hb .nil hx I (.cons rfl (.cons ry .nil)) hsp) (fun _ _ h => cmpBack_of h) fun _ _ z => z
end
end Sq

namespace Sq
open PySem L2 PyProof.Rows
/-- one or the other rule -/
theorem op_or {X : Cx} {f : Value → Value → Sem Value} {r1 r2 : R2} (h1 : OpR X f r1) (h2 : OpR X f r2) : OpR X f (fun x y H Q => r1 x y H Q ∨ r2 x y H Q) := by
  rintro pins s σ H x y v u Q I rx ry (h | h)
  · exact h1 pins s σ H x y v u Q I rx ry h
  · exact h2 pins s σ H x y v u Q I rx ry h
/-- X(), X an own error class without an __init__ -/
theorem pmk_own0 {X : Cx} {C : Addr} {bmB : List Value} {B newId initId : String} {x : Str} {p pos : Pos} (F : ExcBaseFacts B newId initId bmB) (q : PySem.W.excIn X.K C bmB newId = true) (gC : X.mg x = some (.ref C)) (kC : PySem.W.keepIn X.K (.ref C) = true)
    (r : Raises X (.ref C)) (hg : Gl X x) (nd : (x == ("__debug__" : Str)) = false := by decide) : PMk X (.Call (.Name x p) [] [] pos) (fun _ H Q => Q (.ref C) none H) := by
  intro pins s σ H Q I h
  refine wpAny_Call_Name_kw (ld_glob I hg gC (PySem.W.callWith_K0 I.kIn kC ?_) nd)
  show wpAny _ _ (call (.ref C) []) _ _ _
  obtain ⟨bm, N, nm, qn, bs, hdct, sn, sub, ab, col, dd, k0, k1, k2, k3, k5, mN, hC, hN, hni, T⟩ := exc_obj I.kIn q
  obtain ⟨hp, g, d, t, os⟩ := s
  exact wpAny_call_exc_subT F T hC hN hni (fun h' e hm => mk_of I hm r h (I.hok.gone hm.new)) (Nat.zero_le _)
/-- what the class must say for a != b by its own == -/
structure NeOp (K : PySem.W.Frag) (C f : Addr) : Prop where
  eq : PySem.W.findIn K (.ref C) "__eq__" = some (some (.ref f))
  fn : PySem.W.isFn K (.ref f) = true
  ne : PySem.W.findIn K (.ref C) "__ne__" = some (some (.builtin "object.__ne__"))
  ob : PySem.W.mroIn K C (.type "object") = some true
section
variable {X : Cx} {CX : CXT} {k : Nat} {f C : Addr} {fd : FuncData} {ps : List Str} {sp : Sp} {E : XK}
theorem if_bound {M : Model} {A : Around} {E : Value → Shared → Prop} {s : Shared} {K : PySem.W.Frag} {x : Addr} {ox : Obj} {od : Option Obj} {name : Str} {id : String} {args : List Value} {Q : Option Value → Shared → Prop} (Y : K.In s.heap) (I : PySem.W.InstAt s.heap x ox C od)
    (hs : PySem.W.findIn K (.ref C) name = some (some (.builtin id))) (hb : ∀ self : Value, bindSpecial (.builtin id) self = pure (Value.builtin id, [self])) (h : wpAny M A (call (.builtin id) (.ref x :: args)) (fun v => Q (some v)) E s) : wpAny M A (callSpecialIfBound? (.ref x) name args) Q E s := by
  simp only [callSpecialIfBound?, bindSpecialIfBound?]
  refine wpAny_holding (wpAny_bind (wpAny_bind (wpAny_bind (I.type.here ((PySem.W.looks_findIn Y hs).here ?_)))))
  have fin : wpAny M A (call (.builtin id) ([.ref x] ++ args) >>= fun v => pure (some v)) Q E s := wpAny_bind (wpAny_mono h (fun v s' h' => wpAny_pure h') fun _ _ h' => h')
  refine wpAny_bind (wpAny_askSetting (wpAny_ite ?_))
  split
  · exact wpAny_bind (wpAny_of_eq (hb _) (wpAny_pure fin))
  · exact wpAny_tryCatch (wpAny_bind (wpAny_of_eq (hb _) (wpAny_pure fin)))
end
end Sq

namespace Sq
open PySem L2 PyProof.Rows
abbrev s_isnum : Stmt := top 19
abbrev s_asratio : Stmt := top 20
abbrev s_req : Stmt := inClass (top 21) 1
abbrev s_radd : Stmt := inClass (top 21) 2
abbrev s_rradd : Stmt := inClass (top 21) 3
abbrev s_rsub : Stmt := inClass (top 21) 4
abbrev s_rrsub : Stmt := inClass (top 21) 5
abbrev s_rmul : Stmt := inClass (top 21) 6
abbrev s_rrmul : Stmt := inClass (top 21) 7
abbrev s_rneg : Stmt := inClass (top 21) 8
abbrev s_rover : Stmt := inClass (top 21) 9
/-! ### mathematics -/
theorem low_int {i T U : Int} (L : Low i 1 T U) : T = i ∧ U = 1 := by
  have v := L.val
  have p := L.pos
  have c := L.cop
  rw [Int.mul_one] at v
  rw [v, Int.gcd_comm] at c
  have d : Int.gcd U (i * U) = U.natAbs := Int.gcd_eq_natAbs_left (Int.dvd_mul_left ..)
  rw [d] at c
  have u1 : U = 1 := by omega
  rw [u1, Int.mul_one] at v
  exact ⟨v, u1⟩
theorem cancel_r {x y z : Int} (hz : z ≠ 0) (h : x * z = y * z) : x = y := Int.eq_of_mul_eq_mul_right hz h
/-- the value of a fraction in lowest terms, over a further fraction's -/
theorem low_add {a b c d t u t' u' T U : Int} (L1 : Low a b t u) (L2 : Low c d t' u') (L : Low (t * u' + t' * u) (u * u') T U) : T * (b * d) = (a * d + c * b) * U := by
  have h1 := L1.val
  have h2 := L2.val
  have h := L.val
  have n : u * u' ≠ 0 := Int.mul_ne_zero (by have := L1.pos; omega) (by have := L2.pos; omega)
  refine cancel_r n ?_
  grind
theorem low_sub {a b c d t u t' u' T U : Int} (L1 : Low a b t u) (L2 : Low c d t' u') (L : Low (t * u' - t' * u) (u * u') T U) : T * (b * d) = (a * d - c * b) * U := by
  have h1 := L1.val
  have h2 := L2.val
  have h := L.val
  have n : u * u' ≠ 0 := Int.mul_ne_zero (by have := L1.pos; omega) (by have := L2.pos; omega)
  refine cancel_r n ?_
  grind
theorem low_mul {a b c d t u t' u' T U : Int} (L1 : Low a b t u) (L2 : Low c d t' u') (L : Low (t * t') (u * u') T U) : T * (b * d) = a * c * U := by
  have h1 := L1.val
  have h2 := L2.val
  have h := L.val
  have n : u * u' ≠ 0 := Int.mul_ne_zero (by have := L1.pos; omega) (by have := L2.pos; omega)
  refine cancel_r n ?_
  grind
theorem low_over {a b c d t u t' u' T U : Int} (L1 : Low a b t u) (L2 : Low c d t' u') (hd : d ≠ 0) (hc : c ≠ 0) (L : Low (t * u') (u * t') T U) : T * (b * c) = a * d * U := by
  have h1 := L1.val
  have h2 := L2.val
  have h := L.val
  have t0 : t' ≠ 0 := fun e => by
    rw [e, Int.zero_mul] at h2
    have := L2.pos
    exact Int.mul_ne_zero hc (by omega) h2.symm
  have n : u * t' ≠ 0 := Int.mul_ne_zero (by have := L1.pos; omega) t0
  refine cancel_r n (cancel_r hd ?_)
  grind
theorem low_neg {a b t u T U : Int} (L1 : Low a b t u) (L : Low (-t) u T U) : T * b = -a * U := by
  have h1 := L1.val
  have h := L.val
  have n : u ≠ 0 := by have := L1.pos; omega
  refine cancel_r n ?_
  grind
theorem low_one : Low t 1 t 1 := ⟨by decide, by simp, by omega, Nat.le_refl _, Nat.le_refl _⟩
theorem low_eq {a b c d t u t' u' : Int} (hb : b ≠ 0) (hd : d ≠ 0) (L1 : Low a b t u) (L2 : Low c d t' u') : (t = t' ∧ u = u') ↔ a * d = c * b := by
  have h1 := L1.val
  have h2 := L2.val
  have p1 := L1.pos
  have p2 := L2.pos
  constructor
  · rintro ⟨rfl, rfl⟩
    refine cancel_r (z := u) (by omega) ?_
    grind
  · intro h
    have n : b * d ≠ 0 := Int.mul_ne_zero hb hd
    have e : t * u' = t' * u := cancel_r n (by grind)
    have e' : t.natAbs * u'.natAbs = t'.natAbs * u.natAbs := by rw [← Int.natAbs_mul, ← Int.natAbs_mul, e]
    have c1 : Nat.Coprime u.natAbs t.natAbs := Nat.Coprime.symm L1.cop
    have c2 : Nat.Coprime u'.natAbs t'.natAbs := Nat.Coprime.symm L2.cop
    have d1 : u.natAbs ∣ u'.natAbs := c1.dvd_of_dvd_mul_left (by rw [e']; exact Nat.dvd_mul_left ..)
    have d2 : u'.natAbs ∣ u.natAbs := c2.dvd_of_dvd_mul_left (by rw [← e']; exact Nat.dvd_mul_left ..)
    have eu : u.natAbs = u'.natAbs := Nat.dvd_antisymm d1 d2
    have eu2 : u = u' := by omega
    subst eu2
    exact ⟨cancel_r (z := u) (by omega) e, rfl⟩
theorem low_eqI {a b t u w : Int} (hb : b ≠ 0) (L1 : Low a b t u) : (u = 1 ∧ t = w) ↔ a = w * b := by
  have h := low_eq hb (by decide) L1 (low_one (t := w))
  rw [Int.mul_one] at h
  rw [← h]
  constructor
  · rintro ⟨a, b⟩
    exact ⟨b, a⟩
  · rintro ⟨a, b⟩
    exact ⟨b, a⟩
/-- of at most 1,500 bits -/
def Fit (t : Int) : Prop := t.natAbs < 2 ^ 1500
theorem up {t : Int} (h : Fit t) : t.natAbs < 2 ^ 4000 := Nat.lt_of_lt_of_le h (Nat.pow_le_pow_right (by decide) (by decide))
theorem fit_up {t : Int} (h : Fit t) : t.natAbs < 2 ^ 8000 := Nat.lt_of_lt_of_le h (Nat.pow_le_pow_right (by decide) (by decide))
theorem big2 {t u : Int} (h : Fit t) (h' : Fit u) : (t * u).natAbs < 2 ^ 8000 := Nat.lt_of_lt_of_le (wide_lt h h') (Nat.pow_le_pow_right (by decide) (by decide))
theorem fit_one : Fit 1 := Nat.lt_of_lt_of_le (show (1 : Int).natAbs < 2 ^ 1 from by decide) (Nat.pow_le_pow_right (by decide) (by decide))
theorem mul_ne {a b : Int} (h : a ≠ 0) (h' : b ≠ 0) : a * b ≠ 0 := Int.mul_ne_zero h h'
/-- y is the number t / u: a Ratio, or an int -/
def NumAt (C : Addr) (H : Hp) (y : V) (t u : Int) : Prop := (∃ r, y = .ref r ∧ RatAt C H r t u) ∨ (y = .int t ∧ u = 1)
theorem RatAt.same {C : Addr} {H H' : Hp} {x : Addr} {t u : Int} (s : Same H H') (h : RatAt C H x t u) : RatAt C H' x t u := by
  obtain ⟨dx, h⟩ := h
  exact ⟨dx, s _ _ h⟩
theorem NumAt.same {C : Addr} {H H' : Hp} {y : V} {t u : Int} (s : Same H H') (h : NumAt C H y t u) : NumAt C H' y t u := by
  rcases h with ⟨r, e, h⟩ | h
  · exact .inl ⟨r, e, h.same s⟩
  · exact .inr h
/-- isinstance(x, Ratio) of other things -/
structure KZx (K : PySem.W.Frag) (C : Addr) : Prop where
  kint : PySem.W.kitOne K (.type "int") (.ref C) = some false
  kstr : PySem.W.kitOne K (.type "str") (.ref C) = some false
  knon : PySem.W.kitOne K (.type "NoneType") (.ref C) = some false
def spIsNum (K : PySem.W.Frag) (C : Addr) : Sp := fun vs H Q _ => ∃ (y : V) (t : Value) (b : Bool), vs = [y] ∧ TyX K H y t ∧ PySem.W.kitOne K t (.ref C) = some b ∧ IsTy K H y ∧ Q (.bl (b || isI y)) H
theorem num_is {K : PySem.W.Frag} {C : Addr} {H : Hp} {y : V} {t u : Int} (T : CTx K C) (Y : ITy K C) (Z : KZx K C) (h : NumAt C H y t u) : ∃ (q : Value) (b : Bool), TyX K H y q ∧ PySem.W.kitOne K q (.ref C) = some b ∧ IsTy K H y ∧ (b || isI y) = true := by
  rcases h with ⟨r, rfl, h⟩ | ⟨rfl, _⟩
  · exact ⟨_, true, h.ty T Y, kit_self, h.isTy T Y, rfl⟩
  · exact ⟨.type "int", false, .base (.int _), Z.kint, .int _, rfl⟩
def spAsRatio (C : Addr) : Sp := fun vs H Q _ => ∃ (y : V) (t u : Int), vs = [y] ∧ NumAt C H y t u ∧ t.natAbs < 2 ^ 8000 ∧ ∀ r H', RatAt C H' r t u → Same H H' → Q (.ref r) H'
section
variable {P : Program} {w : World} {K : PySem.W.Frag} {mg : Str → Option Value} {base : Heap}
theorem sc_isnum : FnScope ["value"] ["value"] (defScope s_isnum) := ⟨rfl, rfl, rfl, by decide +kernel, rfl, by decide +kernel, by decide +kernel⟩
theorem ok_isnum {f C fI : Addr} {fd fdI : FuncData} (F : Fun K "is_number" "is_number" s_isnum f fd) (B : ITx mg) (m_C : mg "Ratio" = some (.ref C))
    (G_I : FnOk P w K mg base CX0 1 fI fdI ["value"] (spIsInt K)) (m_I : mg "is_an_integer" = some (.ref fI)) (k_I : PySem.W.keepIn K (.ref fI) = true) (b_I : Binds K fdI ["value"] []) : FnOk P w K mg base CX0 2 f fd ["value"] (spIsNum K C) := by
  refine F.ok sc_isnum (fun vs H Q E h => ?_) (fun cdv A outer s H vs Q E hr h => ?_)
  · obtain ⟨y, t, b, rfl, _⟩ := h
    rfl
  · obtain ⟨y, t, b, rfl, ty, kb, it, k⟩ := h
    refine ⟨_, pss_one (ps_ret (pe_or (pe_callB call_isi (by rfl) B.b_isinstance (by decide +kernel) (pa_cons (pv 0) (pa_cons (pe_glob (v := .ref C) rfl m_C rfl) pa_nil))) (pe_one (pe_call G_I hr rfl m_I k_I b_I .nil pass0 (pa_cons (pv 0) pa_nil))))), ?_⟩
    refine ⟨_, rfl, _, _, _, _, b, rfl, .own C, ty, kb, _, rfl, ?_⟩
    cases b with
    | true => exact iteT k
    | false => exact iteF ⟨_, rfl, _, rfl, it, k⟩
theorem sc_asratio : FnScope ["number"] ["number"] (defScope s_asratio) := ⟨rfl, rfl, rfl, by decide +kernel, rfl, by decide +kernel, by decide +kernel⟩
theorem ok_asratio {f C CN fR : Addr} {fd fdR : FuncData} {ds1 : List Value} (F : Fun K "as_ratio" "as_ratio" s_asratio f fd) (T : CTx K C) (Y : ITy K C) (Z : KZx K C) (B : ITx mg) (m_C : mg "Ratio" = some (.ref C)) (M : Mk K C fR)
    (G_R : FnOk P w K mg base (L2.CX P w) 3 fR fdR ["self", "top", "bottom"] (spRatioInit K C CN)) (b_R1 : Binds K fdR ["self", "top", "bottom"] ds1) (v_R1 : Vals [.int 1] ds1) : FnOk P w K mg base CX0 5 f fd ["number"] (spAsRatio C) := by
  refine F.ok sc_asratio (fun vs H Q E h => ?_) (fun cdv A outer s H vs Q E hr h => ?_)
  · obtain ⟨y, t, u, rfl, _⟩ := h
    rfl
  · obtain ⟨y, t, u, rfl, hy, st, k⟩ := h
    refine ⟨_, pss_cons (ps_if (pt_val (pe_callB call_isi (by rfl) B.b_isinstance (by decide +kernel) (pa_cons (pv 0) (pa_cons (pe_glob (v := .ref C) rfl m_C rfl) pa_nil)))) (pss_one (ps_ret (pv 0))) pss_nil)
      (pss_one (ps_ret (pe_make M G_R (hr.mono (by decide)) rfl m_C b_R1 v_R1 passL (pa_cons (pv 0) pa_nil)))), ?_⟩
    rcases hy with ⟨r, rfl, hr1⟩ | ⟨rfl, rfl⟩
    · refine ⟨_, rfl, _, _, _, _, true, rfl, .own C, hr1.ty T Y, kit_self, _, rfl, iteT ?_⟩
      exact ⟨_, rfl, k r H hr1 (Same.refl H)⟩
    · refine ⟨_, rfl, _, _, _, _, false, rfl, .own C, .base (.int _), Z.kint, _, rfl, iteF ?_⟩
      refine ⟨_, rfl, fun z dz nz ndz ne => mk_go (by decide) (fit_up fit_one) nz ndz ne fun a b H2 L R s2 => ⟨rfl, ?_⟩⟩
      obtain ⟨e1, e2⟩ := low_int L
      subst e1 e2
      exact k z H2 R s2
def spR_add (C : Addr) : Sp := fun vs H Q _ => ∃ (x : Addr) (y : V) (t u t' u' : Int), vs = [.ref x, y] ∧ RatAt C H x t u ∧ NumAt C H y t' u' ∧ 1 ≤ u ∧ 1 ≤ u' ∧ Fit t ∧ Fit u ∧ Fit t' ∧ Fit u' ∧
  ∀ z T U H', Low (t * u' + t' * u) (u * u') T U → RatAt C H' z T U → Same H H' → Q (.ref z) H'
theorem sc_radd : FnScope ["self", "other", "right"] ["self", "other"] (defScope s_radd) := ⟨rfl, rfl, rfl, by decide +kernel, rfl, by decide +kernel, by decide +kernel⟩
theorem ok_radd {f C CN fR fN fA : Addr} {fd fdR fdN fdA : FuncData} (F : Fun K "__add__" "Ratio.__add__" s_radd f fd) (T : CTx K C) (Y : ITy K C) (Z : KZx K C) (m_C : mg "Ratio" = some (.ref C)) (M : Mk K C fR)
    (G_R : FnOk P w K mg base (L2.CX P w) 3 fR fdR ["self", "top", "bottom"] (spRatioInit K C CN)) (b_R : Binds K fdR ["self", "top", "bottom"] [])
    (G_N : FnOk P w K mg base CX0 2 fN fdN ["value"] (spIsNum K C)) (m_N : mg "is_number" = some (.ref fN)) (k_N : PySem.W.keepIn K (.ref fN) = true) (b_N : Binds K fdN ["value"] [])
    (G_A : FnOk P w K mg base CX0 5 fA fdA ["number"] (spAsRatio C)) (m_A : mg "as_ratio" = some (.ref fA)) (k_A : PySem.W.keepIn K (.ref fA) = true) (b_A : Binds K fdA ["number"] []) :
    FnOk P w K mg base CX0 6 f fd ["self", "other"] (spR_add C) := by
  refine F.ok sc_radd (fun vs H Q E h => ?_) (fun cdv A outer s H vs Q E hr h => ?_)
  · obtain ⟨x, y, t, u, t', u', rfl, _⟩ := h
    rfl
  · obtain ⟨x, y, t, u, t', u', rfl, hx, hy, pu, pu', st, su, st', su', k⟩ := h
    refine ⟨_, (pss_cons (ps_if (pt_not (pt_val (pe_call G_N (hr.mono (by decide)) rfl m_N k_N b_N .nil pass0 (pa_cons (pv 1) pa_nil)))) (pss_one ps_never) pss_nil)
      (pss_cons (ps_set (i := 2) sc_radd.nd rfl (Or.inl rfl) (pe_call G_A hr rfl m_A k_A b_A .nil pass0 (pa_cons (pv 1) pa_nil)))
      (pss_one (ps_ret (pe_make M G_R (hr.mono (by decide)) rfl m_C b_R .nil passL (pa_cons (pe_op op_add (pe_op op_mulW (pe_fld (pv 0) rfl) (pe_fld (pv 2) rfl)) (pe_op op_mulW (pe_fld (pv 2) rfl) (pe_fld (pv 0) rfl))) (pa_cons (pe_op op_mulW (pe_fld (pv 0) rfl) (pe_fld (pv 2) rfl)) pa_nil))))))), ?_⟩
    obtain ⟨q, b, hq, kb, hi, hbi⟩ := num_is T Y Z hy
    refine ⟨_, rfl, y, q, b, rfl, hq, kb, hi, _, rfl, ?_⟩
    rw [hbi]
    refine iteF ?_
    refine ⟨_, rfl, y, t', u', rfl, hy, fit_up st', fun r H1 hr1 s1 => ?_⟩
    obtain ⟨dx, hx0⟩ := hx
    have hx1 := s1 _ _ hx0
    obtain ⟨dr, hr1⟩ := hr1
    refine ⟨_, rfl, x, C, dx, _, _, rfl, hx1, T.cl, T.nT, rf_top _ _, _, rfl, r, C, dr, _, _, rfl, hr1, T.cl, T.nB, rf_bottom _ _, _, _, rfl, rfl, mul_ok (up st) (up su'), ?_⟩
    refine ⟨_, rfl, r, C, dr, _, _, rfl, hr1, T.cl, T.nT, rf_top _ _, _, rfl, x, C, dx, _, _, rfl, hx1, T.cl, T.nB, rf_bottom _ _, _, _, rfl, rfl, mul_ok (up st') (up su), _, _, rfl, rfl, ?_⟩
    refine ⟨_, rfl, x, C, dx, _, _, rfl, hx1, T.cl, T.nB, rf_bottom _ _, _, rfl, r, C, dr, _, _, rfl, hr1, T.cl, T.nB, rf_bottom _ _, _, _, rfl, rfl, mul_ok (up su) (up su'), ?_⟩
    exact fun z dz nz ndz ne => mk_go (mul_ne (by omega) (by omega)) (big2 su su') nz ndz ne fun T U H2 L R s2 => ⟨rfl, k z T U H2 L R (s1.trans s2)⟩
def spR_sub (C : Addr) : Sp := fun vs H Q _ => ∃ (x : Addr) (y : V) (t u t' u' : Int), vs = [.ref x, y] ∧ RatAt C H x t u ∧ NumAt C H y t' u' ∧ 1 ≤ u ∧ 1 ≤ u' ∧ Fit t ∧ Fit u ∧ Fit t' ∧ Fit u' ∧
  ∀ z T U H', Low (t * u' - t' * u) (u * u') T U → RatAt C H' z T U → Same H H' → Q (.ref z) H'
theorem sc_rsub : FnScope ["self", "other", "right"] ["self", "other"] (defScope s_rsub) := ⟨rfl, rfl, rfl, by decide +kernel, rfl, by decide +kernel, by decide +kernel⟩
theorem ok_rsub {f C CN fR fN fA : Addr} {fd fdR fdN fdA : FuncData} (F : Fun K "__sub__" "Ratio.__sub__" s_rsub f fd) (T : CTx K C) (Y : ITy K C) (Z : KZx K C) (m_C : mg "Ratio" = some (.ref C)) (M : Mk K C fR)
    (G_R : FnOk P w K mg base (L2.CX P w) 3 fR fdR ["self", "top", "bottom"] (spRatioInit K C CN)) (b_R : Binds K fdR ["self", "top", "bottom"] [])
    (G_N : FnOk P w K mg base CX0 2 fN fdN ["value"] (spIsNum K C)) (m_N : mg "is_number" = some (.ref fN)) (k_N : PySem.W.keepIn K (.ref fN) = true) (b_N : Binds K fdN ["value"] [])
    (G_A : FnOk P w K mg base CX0 5 fA fdA ["number"] (spAsRatio C)) (m_A : mg "as_ratio" = some (.ref fA)) (k_A : PySem.W.keepIn K (.ref fA) = true) (b_A : Binds K fdA ["number"] []) :
    FnOk P w K mg base CX0 6 f fd ["self", "other"] (spR_sub C) := by
  refine F.ok sc_rsub (fun vs H Q E h => ?_) (fun cdv A outer s H vs Q E hr h => ?_)
  · obtain ⟨x, y, t, u, t', u', rfl, _⟩ := h
    rfl
  · obtain ⟨x, y, t, u, t', u', rfl, hx, hy, pu, pu', st, su, st', su', k⟩ := h
    refine ⟨_, (pss_cons (ps_if (pt_not (pt_val (pe_call G_N (hr.mono (by decide)) rfl m_N k_N b_N .nil pass0 (pa_cons (pv 1) pa_nil)))) (pss_one ps_never) pss_nil)
      (pss_cons (ps_set (i := 2) sc_rsub.nd rfl (Or.inl rfl) (pe_call G_A hr rfl m_A k_A b_A .nil pass0 (pa_cons (pv 1) pa_nil)))
      (pss_one (ps_ret (pe_make M G_R (hr.mono (by decide)) rfl m_C b_R .nil passL (pa_cons (pe_op op_sub (pe_op op_mulW (pe_fld (pv 0) rfl) (pe_fld (pv 2) rfl)) (pe_op op_mulW (pe_fld (pv 2) rfl) (pe_fld (pv 0) rfl))) (pa_cons (pe_op op_mulW (pe_fld (pv 0) rfl) (pe_fld (pv 2) rfl)) pa_nil))))))), ?_⟩
    obtain ⟨q, b, hq, kb, hi, hbi⟩ := num_is T Y Z hy
    refine ⟨_, rfl, y, q, b, rfl, hq, kb, hi, _, rfl, ?_⟩
    rw [hbi]
    refine iteF ?_
    refine ⟨_, rfl, y, t', u', rfl, hy, fit_up st', fun r H1 hr1 s1 => ?_⟩
    obtain ⟨dx, hx0⟩ := hx
    have hx1 := s1 _ _ hx0
    obtain ⟨dr, hr1⟩ := hr1
    refine ⟨_, rfl, x, C, dx, _, _, rfl, hx1, T.cl, T.nT, rf_top _ _, _, rfl, r, C, dr, _, _, rfl, hr1, T.cl, T.nB, rf_bottom _ _, _, _, rfl, rfl, mul_ok (up st) (up su'), ?_⟩
    refine ⟨_, rfl, r, C, dr, _, _, rfl, hr1, T.cl, T.nT, rf_top _ _, _, rfl, x, C, dx, _, _, rfl, hx1, T.cl, T.nB, rf_bottom _ _, _, _, rfl, rfl, mul_ok (up st') (up su), _, _, rfl, rfl, ?_⟩
    refine ⟨_, rfl, x, C, dx, _, _, rfl, hx1, T.cl, T.nB, rf_bottom _ _, _, rfl, r, C, dr, _, _, rfl, hr1, T.cl, T.nB, rf_bottom _ _, _, _, rfl, rfl, mul_ok (up su) (up su'), ?_⟩
    exact fun z dz nz ndz ne => mk_go (mul_ne (by omega) (by omega)) (big2 su su') nz ndz ne fun T U H2 L R s2 => ⟨rfl, k z T U H2 L R (s1.trans s2)⟩
def spR_mul (C : Addr) : Sp := fun vs H Q _ => ∃ (x : Addr) (y : V) (t u t' u' : Int), vs = [.ref x, y] ∧ RatAt C H x t u ∧ NumAt C H y t' u' ∧ 1 ≤ u ∧ 1 ≤ u' ∧ Fit t ∧ Fit u ∧ Fit t' ∧ Fit u' ∧
  ∀ z T U H', Low (t * t') (u * u') T U → RatAt C H' z T U → Same H H' → Q (.ref z) H'
theorem sc_rmul : FnScope ["self", "other", "right"] ["self", "other"] (defScope s_rmul) := ⟨rfl, rfl, rfl, by decide +kernel, rfl, by decide +kernel, by decide +kernel⟩
theorem ok_rmul {f C CN fR fN fA : Addr} {fd fdR fdN fdA : FuncData} (F : Fun K "__mul__" "Ratio.__mul__" s_rmul f fd) (T : CTx K C) (Y : ITy K C) (Z : KZx K C) (m_C : mg "Ratio" = some (.ref C)) (M : Mk K C fR)
    (G_R : FnOk P w K mg base (L2.CX P w) 3 fR fdR ["self", "top", "bottom"] (spRatioInit K C CN)) (b_R : Binds K fdR ["self", "top", "bottom"] [])
    (G_N : FnOk P w K mg base CX0 2 fN fdN ["value"] (spIsNum K C)) (m_N : mg "is_number" = some (.ref fN)) (k_N : PySem.W.keepIn K (.ref fN) = true) (b_N : Binds K fdN ["value"] [])
    (G_A : FnOk P w K mg base CX0 5 fA fdA ["number"] (spAsRatio C)) (m_A : mg "as_ratio" = some (.ref fA)) (k_A : PySem.W.keepIn K (.ref fA) = true) (b_A : Binds K fdA ["number"] []) :
    FnOk P w K mg base CX0 6 f fd ["self", "other"] (spR_mul C) := by
  refine F.ok sc_rmul (fun vs H Q E h => ?_) (fun cdv A outer s H vs Q E hr h => ?_)
  · obtain ⟨x, y, t, u, t', u', rfl, _⟩ := h
    rfl
  · obtain ⟨x, y, t, u, t', u', rfl, hx, hy, pu, pu', st, su, st', su', k⟩ := h
    refine ⟨_, (pss_cons (ps_if (pt_not (pt_val (pe_call G_N (hr.mono (by decide)) rfl m_N k_N b_N .nil pass0 (pa_cons (pv 1) pa_nil)))) (pss_one ps_never) pss_nil)
      (pss_cons (ps_set (i := 2) sc_rmul.nd rfl (Or.inl rfl) (pe_call G_A hr rfl m_A k_A b_A .nil pass0 (pa_cons (pv 1) pa_nil)))
      (pss_one (ps_ret (pe_make M G_R (hr.mono (by decide)) rfl m_C b_R .nil passL (pa_cons (pe_op op_mulW (pe_fld (pv 0) rfl) (pe_fld (pv 2) rfl)) (pa_cons (pe_op op_mulW (pe_fld (pv 0) rfl) (pe_fld (pv 2) rfl)) pa_nil))))))), ?_⟩
    obtain ⟨q, b, hq, kb, hi, hbi⟩ := num_is T Y Z hy
    refine ⟨_, rfl, y, q, b, rfl, hq, kb, hi, _, rfl, ?_⟩
    rw [hbi]
    refine iteF ?_
    refine ⟨_, rfl, y, t', u', rfl, hy, fit_up st', fun r H1 hr1 s1 => ?_⟩
    obtain ⟨dx, hx0⟩ := hx
    have hx1 := s1 _ _ hx0
    obtain ⟨dr, hr1⟩ := hr1
    refine ⟨_, rfl, x, C, dx, _, _, rfl, hx1, T.cl, T.nT, rf_top _ _, _, rfl, r, C, dr, _, _, rfl, hr1, T.cl, T.nT, rf_top _ _, _, _, rfl, rfl, mul_ok (up st) (up st'), ?_⟩
    refine ⟨_, rfl, x, C, dx, _, _, rfl, hx1, T.cl, T.nB, rf_bottom _ _, _, rfl, r, C, dr, _, _, rfl, hr1, T.cl, T.nB, rf_bottom _ _, _, _, rfl, rfl, mul_ok (up su) (up su'), ?_⟩
    exact fun z dz nz ndz ne => mk_go (mul_ne (by omega) (by omega)) (big2 su su') nz ndz ne fun T U H2 L R s2 => ⟨rfl, k z T U H2 L R (s1.trans s2)⟩
end
end Sq

namespace Sq
open PySem L2 PyProof.Rows
section
variable {P : Program} {w : World} {K : PySem.W.Frag} {mg : Str → Option Value} {base : Heap}
def spR_radd (C : Addr) : Sp := fun vs H Q _ => ∃ (x : Addr) (i t u : Int), vs = [.ref x, .int i] ∧ RatAt C H x t u ∧ 1 ≤ u ∧ Fit t ∧ Fit u ∧ Fit i ∧
  ∀ z T U H', Low (t * 1 + i * u) (u * 1) T U → RatAt C H' z T U → Same H H' → Q (.ref z) H'
theorem sc_rradd : FnScope ["self", "other"] ["self", "other"] (defScope s_rradd) := ⟨rfl, rfl, rfl, by decide +kernel, rfl, by decide +kernel, by decide +kernel⟩
theorem ok_rradd {f C fO fN : Addr} {fd fdO fdN : FuncData} (F : Fun K "__radd__" "Ratio.__radd__" s_rradd f fd) (T : CTx K C) (Y : ITy K C) (Z : KZx K C) (hc : PySem.W.selfFirst K C = true)
    (G_N : FnOk P w K mg base CX0 2 fN fdN ["value"] (spIsNum K C)) (m_N : mg "is_number" = some (.ref fN)) (k_N : PySem.W.keepIn K (.ref fN) = true) (b_N : Binds K fdN ["value"] [])
    (O : OwnOp K C fO (PySem.dunder Operator.Add.info.2)) (I : IntOp K C Operator.Add.info.2) (G_O : FnOk P w K mg base CX0 6 fO fdO ["self", "other"] (spR_add C)) (b_O : Binds K fdO ["self", "other"] []) :
    FnOk P w K mg base CX0 7 f fd ["self", "other"] (spR_radd C) := by
  refine F.ok sc_rradd (fun vs H Q E h => ?_) (fun cdv A outer s H vs Q E hr h => ?_)
  · obtain ⟨x, i, t, u, rfl, _⟩ := h
    rfl
  · obtain ⟨x, i, t, u, rfl, hx, pu, st, su, si, k⟩ := h
    refine ⟨_, (pss_cons (ps_if (pt_not (pt_val (pe_call G_N (hr.mono (by decide)) rfl m_N k_N b_N .nil pass0 (pa_cons (pv 1) pa_nil)))) (pss_one ps_never) pss_nil)
      (pss_one (ps_ret (pe_op (op_ownI (op := .Add) hc O I G_O hr b_O pass0) (pv 0) (pv 1))))), ?_⟩
    obtain ⟨q, b, hq, kb, hi, hbi⟩ := num_is (H := H) (y := .int i) (t := i) (u := 1) T Y Z (.inr ⟨rfl, rfl⟩)
    refine ⟨_, rfl, .int i, q, b, rfl, hq, kb, hi, _, rfl, ?_⟩
    rw [hbi]
    refine iteF ?_
    obtain ⟨dx, hx0⟩ := id hx
    exact ⟨_, rfl, _, rfl, x, i, dx, _, rfl, rfl, hx0, x, .int i, t, u, i, 1, rfl, hx, .inr ⟨rfl, rfl⟩, pu, by decide, st, su, si, fit_one, k⟩
def spR_rmul (C : Addr) : Sp := fun vs H Q _ => ∃ (x : Addr) (i t u : Int), vs = [.ref x, .int i] ∧ RatAt C H x t u ∧ 1 ≤ u ∧ Fit t ∧ Fit u ∧ Fit i ∧
  ∀ z T U H', Low (t * i) (u * 1) T U → RatAt C H' z T U → Same H H' → Q (.ref z) H'
theorem sc_rrmul : FnScope ["self", "other"] ["self", "other"] (defScope s_rrmul) := ⟨rfl, rfl, rfl, by decide +kernel, rfl, by decide +kernel, by decide +kernel⟩
theorem ok_rrmul {f C fO fN : Addr} {fd fdO fdN : FuncData} (F : Fun K "__rmul__" "Ratio.__rmul__" s_rrmul f fd) (T : CTx K C) (Y : ITy K C) (Z : KZx K C) (hc : PySem.W.selfFirst K C = true)
    (G_N : FnOk P w K mg base CX0 2 fN fdN ["value"] (spIsNum K C)) (m_N : mg "is_number" = some (.ref fN)) (k_N : PySem.W.keepIn K (.ref fN) = true) (b_N : Binds K fdN ["value"] [])
    (O : OwnOp K C fO (PySem.dunder Operator.Mult.info.2)) (I : IntOp K C Operator.Mult.info.2) (G_O : FnOk P w K mg base CX0 6 fO fdO ["self", "other"] (spR_mul C)) (b_O : Binds K fdO ["self", "other"] []) :
    FnOk P w K mg base CX0 7 f fd ["self", "other"] (spR_rmul C) := by
  refine F.ok sc_rrmul (fun vs H Q E h => ?_) (fun cdv A outer s H vs Q E hr h => ?_)
  · obtain ⟨x, i, t, u, rfl, _⟩ := h
    rfl
  · obtain ⟨x, i, t, u, rfl, hx, pu, st, su, si, k⟩ := h
    refine ⟨_, (pss_cons (ps_if (pt_not (pt_val (pe_call G_N (hr.mono (by decide)) rfl m_N k_N b_N .nil pass0 (pa_cons (pv 1) pa_nil)))) (pss_one ps_never) pss_nil)
      (pss_one (ps_ret (pe_op (op_ownI (op := .Mult) hc O I G_O hr b_O pass0) (pv 0) (pv 1))))), ?_⟩
    obtain ⟨q, b, hq, kb, hi, hbi⟩ := num_is (H := H) (y := .int i) (t := i) (u := 1) T Y Z (.inr ⟨rfl, rfl⟩)
    refine ⟨_, rfl, .int i, q, b, rfl, hq, kb, hi, _, rfl, ?_⟩
    rw [hbi]
    refine iteF ?_
    obtain ⟨dx, hx0⟩ := id hx
    exact ⟨_, rfl, _, rfl, x, i, dx, _, rfl, rfl, hx0, x, .int i, t, u, i, 1, rfl, hx, .inr ⟨rfl, rfl⟩, pu, by decide, st, su, si, fit_one, k⟩
def spR_rsub (C : Addr) : Sp := fun vs H Q _ => ∃ (x : Addr) (i t u : Int), vs = [.ref x, .int i] ∧ RatAt C H x t u ∧ 1 ≤ u ∧ Fit t ∧ Fit u ∧ Fit i ∧
  ∀ z T U H', Low (i * u - t * 1) (1 * u) T U → RatAt C H' z T U → Same H H' → Q (.ref z) H'
theorem sc_rrsub : FnScope ["self", "other"] ["self", "other"] (defScope s_rrsub) := ⟨rfl, rfl, rfl, by decide +kernel, rfl, by decide +kernel, by decide +kernel⟩
theorem ok_rrsub {f C fO fN fA : Addr} {fd fdO fdN fdA : FuncData} (F : Fun K "__rsub__" "Ratio.__rsub__" s_rrsub f fd) (T : CTx K C) (Y : ITy K C) (Z : KZx K C) (hc : PySem.W.selfFirst K C = true)
    (G_N : FnOk P w K mg base CX0 2 fN fdN ["value"] (spIsNum K C)) (m_N : mg "is_number" = some (.ref fN)) (k_N : PySem.W.keepIn K (.ref fN) = true) (b_N : Binds K fdN ["value"] [])
    (G_A : FnOk P w K mg base CX0 5 fA fdA ["number"] (spAsRatio C)) (m_A : mg "as_ratio" = some (.ref fA)) (k_A : PySem.W.keepIn K (.ref fA) = true) (b_A : Binds K fdA ["number"] [])
    (O : OwnOp K C fO (PySem.dunder Operator.Sub.info.2)) (G_O : FnOk P w K mg base CX0 6 fO fdO ["self", "other"] (spR_sub C)) (b_O : Binds K fdO ["self", "other"] []) :
    FnOk P w K mg base CX0 7 f fd ["self", "other"] (spR_rsub C) := by
  refine F.ok sc_rrsub (fun vs H Q E h => ?_) (fun cdv A outer s H vs Q E hr h => ?_)
  · obtain ⟨x, i, t, u, rfl, _⟩ := h
    rfl
  · obtain ⟨x, i, t, u, rfl, hx, pu, st, su, si, k⟩ := h
    refine ⟨_, (pss_cons (ps_if (pt_not (pt_val (pe_call G_N (hr.mono (by decide)) rfl m_N k_N b_N .nil pass0 (pa_cons (pv 1) pa_nil)))) (pss_one ps_never) pss_nil)
      (pss_one (ps_ret (pe_op (op_own2 (op := .Sub) hc O G_O hr b_O pass0) (pe_call G_A (hr.mono (by decide)) rfl m_A k_A b_A .nil pass0 (pa_cons (pv 1) pa_nil)) (pv 0))))), ?_⟩
    obtain ⟨q, b, hq, kb, hi, hbi⟩ := num_is (H := H) (y := .int i) (t := i) (u := 1) T Y Z (.inr ⟨rfl, rfl⟩)
    refine ⟨_, rfl, .int i, q, b, rfl, hq, kb, hi, _, rfl, ?_⟩
    rw [hbi]
    refine iteF ?_
    refine ⟨_, rfl, .int i, i, 1, rfl, .inr ⟨rfl, rfl⟩, fit_up si, fun r H1 hr1 s1 => ?_⟩
    obtain ⟨dx, hx0⟩ := id hx
    obtain ⟨dr, hr0⟩ := id hr1
    exact ⟨_, rfl, r, x, dr, dx, _, _, rfl, rfl, hr0, s1 _ _ hx0, r, .ref x, i, 1, t, u, rfl, hr1, .inl ⟨x, rfl, hx.same s1⟩, by decide, pu, si, fit_one, st, su, fun z T U H' L R s2 => k z T U H' L R (s1.trans s2)⟩
def spR_neg (C : Addr) : Sp := fun vs H Q _ => ∃ (x : Addr) (t u : Int), vs = [.ref x] ∧ RatAt C H x t u ∧ 1 ≤ u ∧ Fit u ∧ ∀ z T U H', Low (-t) u T U → RatAt C H' z T U → Same H H' → Q (.ref z) H'
theorem sc_rneg : FnScope ["self"] ["self"] (defScope s_rneg) := ⟨rfl, rfl, rfl, by decide +kernel, rfl, by decide +kernel, by decide +kernel⟩
theorem ok_rneg {f C CN fR : Addr} {fd fdR : FuncData} (F : Fun K "__neg__" "Ratio.__neg__" s_rneg f fd) (T : CTx K C) (Y : ITy K C) (Z : KZx K C) (m_C : mg "Ratio" = some (.ref C)) (M : Mk K C fR)
    (G_R : FnOk P w K mg base (L2.CX P w) 3 fR fdR ["self", "top", "bottom"] (spRatioInit K C CN)) (b_R : Binds K fdR ["self", "top", "bottom"] []) : FnOk P w K mg base CX0 5 f fd ["self"] (spR_neg C) := by
  refine F.ok sc_rneg (fun vs H Q E h => ?_) (fun cdv A outer s H vs Q E hr h => ?_)
  · obtain ⟨x, t, u, rfl, _⟩ := h
    rfl
  · obtain ⟨x, t, u, rfl, hx, pu, su, k⟩ := h
    refine ⟨_, pss_one (ps_ret (pe_make M G_R (hr.mono (by decide)) rfl m_C b_R .nil passL (pa_cons (pe_un un_neg (pe_fld (pv 0) rfl)) (pa_cons (pe_fld (pv 0) rfl) pa_nil)))), ?_⟩
    obtain ⟨dx, hx0⟩ := id hx
    refine ⟨_, rfl, x, C, dx, _, _, rfl, hx0, T.cl, T.nT, rf_top _ _, _, rfl, _, rfl, x, C, dx, _, _, rfl, hx0, T.cl, T.nB, rf_bottom _ _, ?_⟩
    exact fun z dz nz ndz ne => mk_go (by omega) (fit_up su) nz ndz ne fun T U H2 L R s2 => ⟨rfl, k z T U H2 L R s2⟩
def spR_over (C CN : Addr) : Sp := fun vs H Q E => ∃ (x : Addr) (y : V) (t u t' u' : Int), vs = [.ref x, y] ∧ RatAt C H x t u ∧ NumAt C H y t' u' ∧ 1 ≤ u ∧ 1 ≤ u' ∧ Fit t ∧ Fit u ∧ Fit t' ∧ Fit u' ∧
  (t' = 0 → ∀ H1 d, Same H H1 → H1 d = none → E (.ref CN) (some d) (upd H1 d (wordAt "zero"))) ∧
  (t' ≠ 0 → ∀ z T U H', Low (t * u') (u * t') T U → RatAt C H' z T U → Same H H' → Q (.ref z) H')
theorem sc_rover : FnScope ["self", "other", "right"] ["self", "other"] (defScope s_rover) := ⟨rfl, rfl, rfl, by decide +kernel, rfl, by decide +kernel, by decide +kernel⟩
theorem ok_rover {f C CN fR fA : Addr} {fd fdR fdA : FuncData} (F : Fun K "over" "Ratio.over" s_rover f fd) (T : CTx K C) (Y : ITy K C) (Z : KZx K C) (m_C : mg "Ratio" = some (.ref C)) (M : Mk K C fR)
    (G_R : FnOk P w K mg base (L2.CX P w) 3 fR fdR ["self", "top", "bottom"] (spRatioInit K C CN)) (b_R : Binds K fdR ["self", "top", "bottom"] [])
    (G_A : FnOk P w K mg base CX0 5 fA fdA ["number"] (spAsRatio C)) (m_A : mg "as_ratio" = some (.ref fA)) (k_A : PySem.W.keepIn K (.ref fA) = true) (b_A : Binds K fdA ["number"] []) : FnOk P w K mg base (L2.CX P w) 6 f fd ["self", "other"] (spR_over C CN) := by
  refine F.okX sc_rover (fun vs H Q E h => ?_) (fun cdv A outer s H vs Q E hr h => ?_)
  · obtain ⟨x, y, t, u, t', u', rfl, _⟩ := h
    rfl
  · obtain ⟨x, y, t, u, t', u', rfl, hx, hy, pu, pu', st, su, st', su', kE, k⟩ := h
    refine ⟨_, (pss_cons (ps_set (i := 2) sc_rover.nd rfl (Or.inl rfl) (pe_call G_A hr rfl m_A k_A b_A .nil pass0 (pa_cons (pv 1) pa_nil)))
      (pss_one (ps_ret (pe_make (E := E) M G_R (hr.mono (by decide)) rfl m_C b_R .nil (passes_call (takes_of rfl rfl rfl rfl) fun _ _ _ _ h => h) (pa_cons (pe_op op_mulW (pe_fld (pv 0) rfl) (pe_fld (pv 2) rfl)) (pa_cons (pe_op op_mulW (pe_fld (pv 0) rfl) (pe_fld (pv 2) rfl)) pa_nil)))))), ?_⟩
    refine ⟨_, rfl, y, t', u', rfl, hy, fit_up st', fun r H1 hr1 s1 => ?_⟩
    obtain ⟨dx, hx0⟩ := hx
    have hx1 := s1 _ _ hx0
    obtain ⟨dr, hr1⟩ := hr1
    refine ⟨_, rfl, x, C, dx, _, _, rfl, hx1, T.cl, T.nT, rf_top _ _, _, rfl, r, C, dr, _, _, rfl, hr1, T.cl, T.nB, rf_bottom _ _, _, _, rfl, rfl, mul_ok (up st) (up su'), ?_⟩
    refine ⟨_, rfl, x, C, dx, _, _, rfl, hx1, T.cl, T.nB, rf_bottom _ _, _, rfl, r, C, dr, _, _, rfl, hr1, T.cl, T.nT, rf_top _ _, _, _, rfl, rfl, mul_ok (up su) (up st'), ?_⟩
    intro z dz nz ndz ne
    by_cases h0 : t' = 0
    · have e0 : u * t' = 0 := by rw [h0, Int.mul_zero]
      refine ⟨z, dz, _, _, rfl, upd_same, .int _, .int _, fun b e => (by cases e; exact big2 su st'), fun w hw d hd => ?_, fun a b ea eb hb => (by cases eb; exact absurd e0 hb)⟩
      have hw1 : dueW (.int (t * u')) (.int (u * t')) = some w := hw
      rw [e0] at hw1
      have ew : w = "zero" := by
        have : dueW (.int (t * u')) (.int 0) = some ("zero" : Str) := rfl
        rw [this] at hw1
        exact (Option.some.inj hw1).symm
      subst ew
      exact kE h0 _ d (s1.trans (same_pair nz ndz ne)) hd
    · exact mk_go (mul_ne (by omega) h0) (big2 su st') nz ndz ne fun T U H2 L R s2 => ⟨rfl, k h0 z T U H2 L R (s1.trans s2)⟩
/-- self == other, other a number -/
def spR_eq (K : PySem.W.Frag) (C : Addr) : Sp := fun vs H Q _ => ∃ (x : Addr) (y : V) (t u : Int), vs = [.ref x, y] ∧ RatAt C H x t u ∧
  ((∃ r t' u', y = .ref r ∧ RatAt C H r t' u' ∧ Q (.bl (decide (t = t' ∧ u = u'))) H) ∨ (∃ i, y = .int i ∧ Q (.bl (decide (u = 1 ∧ t = i))) H) ∨
    (∃ q, TyX K H y q ∧ PySem.W.kitOne K q (.ref C) = some false ∧ IsTy K H y ∧ isI y = false ∧ Q (.bl false) H))
theorem sc_req : FnScope ["self", "other"] ["self", "other"] (defScope s_req) := ⟨rfl, rfl, rfl, by decide +kernel, rfl, by decide +kernel, by decide +kernel⟩
theorem dec_int2 (a b : Int) : decide (V.int a = V.int b) = decide (a = b) := by
  by_cases h : a = b
  · rw [h, decide_eq_true rfl, decide_eq_true rfl]
  · rw [decide_eq_false h, decide_eq_false fun e => h (V.int.inj e)]
theorem ok_req {f C fI : Addr} {fd fdI : FuncData} (F : Fun K "__eq__" "Ratio.__eq__" s_req f fd) (T : CTx K C) (Y : ITy K C) (Z : KZx K C) (B : ITx mg) (m_C : mg "Ratio" = some (.ref C))
    (G_I : FnOk P w K mg base CX0 1 fI fdI ["value"] (spIsInt K)) (m_I : mg "is_an_integer" = some (.ref fI)) (k_I : PySem.W.keepIn K (.ref fI) = true) (b_I : Binds K fdI ["value"] []) :
    FnOk P w K mg base CX0 2 f fd ["self", "other"] (spR_eq K C) := by
  refine F.ok sc_req (fun vs H Q E h => ?_) (fun cdv A outer s H vs Q E hr h => ?_)
  · obtain ⟨x, y, t, u, rfl, _⟩ := h
    rfl
  · obtain ⟨x, y, t, u, rfl, hx, h⟩ := h
    refine ⟨_, (pss_cons (ps_if (pt_val (pe_callB call_isi (by rfl) B.b_isinstance (by decide +kernel) (pa_cons (pv 1) (pa_cons (pe_glob (v := .ref C) rfl m_C rfl) pa_nil))))
        (pss_one (ps_ret (pe_and (pe_cmpR op_eq (pe_fld (pv 0) rfl) (pe_fld (pv 1) rfl) (nomark _)) (pe_one (pe_cmpR op_eq (pe_fld (pv 0) rfl) (pe_fld (pv 1) rfl) (nomark _)))))) pss_nil)
      (pss_one (ps_ret (pe_and (pe_call G_I hr rfl m_I k_I b_I .nil pass0 (pa_cons (pv 1) pa_nil)) (pe_and (pe_cmpR op_eq (pe_fld (pv 0) rfl) pe_int (nomark _)) (pe_one (pe_cmpR op_eq (pe_fld (pv 0) rfl) (pv 1) (nomark _)))))))), ?_⟩
    obtain ⟨dx, hx0⟩ := id hx
    rcases h with ⟨r, t', u', rfl, hr1, k⟩ | ⟨i, rfl, k⟩ | ⟨q, ty, kb, it, ni, k⟩
    · obtain ⟨dr, hr0⟩ := id hr1
      refine ⟨_, rfl, _, _, _, _, true, rfl, .own C, hr1.ty T Y, kit_self, _, rfl, iteT ?_⟩
      refine ⟨_, rfl, x, C, dx, _, _, rfl, hx0, T.cl, T.nT, rf_top _ _, _, rfl, r, C, dr, _, _, rfl, hr0, T.cl, T.nT, rf_top _ _, rfl, _, rfl, ?_⟩
      rw [dec_int2]
      by_cases e : t = t'
      · rw [decide_eq_true e]
        refine iteT ⟨_, rfl, x, C, dx, _, _, rfl, hx0, T.cl, T.nB, rf_bottom _ _, _, rfl, r, C, dr, _, _, rfl, hr0, T.cl, T.nB, rf_bottom _ _, rfl, ?_⟩
        show Q (.bl (decide (V.int u = V.int u'))) H
        rw [dec_int2]
        simp only [e, true_and] at k
        exact k
      · rw [decide_eq_false e]
        refine iteF ?_
        simp only [e, false_and, decide_false] at k
        exact k
    · refine ⟨_, rfl, _, _, _, _, false, rfl, .own C, .base (.int _), Z.kint, _, rfl, iteF ?_⟩
      refine ⟨_, rfl, _, rfl, .int i, _, rfl, iteT ?_⟩
      refine ⟨_, rfl, x, C, dx, _, _, rfl, hx0, T.cl, T.nB, rf_bottom _ _, rfl, _, rfl, ?_⟩
      rw [dec_int2]
      by_cases e : u = 1
      · rw [decide_eq_true e]
        refine iteT ⟨_, rfl, x, C, dx, _, _, rfl, hx0, T.cl, T.nT, rf_top _ _, _, rfl, rfl, ?_⟩
        show Q (.bl (decide (V.int t = V.int i))) H
        rw [dec_int2]
        simp only [e, true_and] at k
        exact k
      · rw [decide_eq_false e]
        refine iteF ?_
        simp only [e, false_and, decide_false] at k
        exact k
    · refine ⟨_, rfl, _, _, _, _, false, rfl, .own C, ty, kb, _, rfl, iteF ?_⟩
      refine ⟨_, rfl, y, rfl, it, _, rfl, ?_⟩
      rw [ni]
      exact iteF k
end
end Sq

namespace Sq
open PySem L2 PyProof.Rows
abbrev s_isprime : Stmt := top 24
abbrev s_inverse : Stmt := top 26
/-! ### primes -/
/-- no divisor from 2 on whose square is at most n -/
def isP (n : Nat) : Bool := (List.range 100).all fun d => !(decide (2 ≤ d) && decide (d * d ≤ n) && decide (n % d = 0))
def rt (n : Nat) : Bool := let r := Float64.isqrt n; Nat.ble (r * r) n && Nat.blt n ((r + 1) * (r + 1))
def chk : Nat → Nat → Bool
  | 0, _ => true
  | k + 1, b => rt (b + k) && chk k b
theorem chk_at {n : Nat} : ∀ {k b : Nat}, chk k b = true → b ≤ n → n < b + k → rt n = true
  | 0, b, _, h1, h2 => absurd h2 (by omega)
  | k + 1, b, h, h1, h2 => by
    obtain ⟨ha, hb⟩ := Bool.and_eq_true_iff.mp h
    by_cases e : n = b + k
    · rw [e]
      exact ha
    · exact chk_at hb h1 (by omega)
theorem chk0 : chk 100 0 = true := by decide +kernel
theorem chk1 : chk 100 100 = true := by decide +kernel
theorem chk2 : chk 100 200 = true := by decide +kernel
theorem chk3 : chk 100 300 = true := by decide +kernel
theorem chk4 : chk 100 400 = true := by decide +kernel
theorem chk5 : chk 100 500 = true := by decide +kernel
theorem chk6 : chk 100 600 = true := by decide +kernel
theorem chk7 : chk 100 700 = true := by decide +kernel
theorem chk8 : chk 100 800 = true := by decide +kernel
theorem chk9 : chk 100 900 = true := by decide +kernel
theorem chk10 : chk 100 1000 = true := by decide +kernel
theorem chk11 : chk 100 1100 = true := by decide +kernel
theorem chk12 : chk 100 1200 = true := by decide +kernel
theorem chk13 : chk 100 1300 = true := by decide +kernel
theorem chk14 : chk 100 1400 = true := by decide +kernel
theorem chk15 : chk 100 1500 = true := by decide +kernel
theorem chk16 : chk 100 1600 = true := by decide +kernel
theorem chk17 : chk 100 1700 = true := by decide +kernel
theorem chk18 : chk 100 1800 = true := by decide +kernel
theorem chk19 : chk 100 1900 = true := by decide +kernel
theorem chk20 : chk 100 2000 = true := by decide +kernel
theorem chk21 : chk 100 2100 = true := by decide +kernel
theorem chk22 : chk 100 2200 = true := by decide +kernel
theorem chk23 : chk 100 2300 = true := by decide +kernel
theorem chk24 : chk 100 2400 = true := by decide +kernel
theorem chk25 : chk 100 2500 = true := by decide +kernel
theorem chk26 : chk 100 2600 = true := by decide +kernel
theorem chk27 : chk 100 2700 = true := by decide +kernel
theorem chk28 : chk 100 2800 = true := by decide +kernel
theorem chk29 : chk 100 2900 = true := by decide +kernel
theorem chk30 : chk 100 3000 = true := by decide +kernel
theorem chk31 : chk 100 3100 = true := by decide +kernel
theorem chk32 : chk 100 3200 = true := by decide +kernel
theorem chk33 : chk 100 3300 = true := by decide +kernel
theorem chk34 : chk 100 3400 = true := by decide +kernel
theorem chk35 : chk 100 3500 = true := by decide +kernel
theorem chk36 : chk 100 3600 = true := by decide +kernel
theorem chk37 : chk 100 3700 = true := by decide +kernel
theorem chk38 : chk 100 3800 = true := by decide +kernel
theorem chk39 : chk 100 3900 = true := by decide +kernel
theorem chk40 : chk 100 4000 = true := by decide +kernel
theorem chk41 : chk 100 4100 = true := by decide +kernel
theorem chk42 : chk 100 4200 = true := by decide +kernel
theorem chk43 : chk 100 4300 = true := by decide +kernel
theorem chk44 : chk 100 4400 = true := by decide +kernel
theorem chk45 : chk 100 4500 = true := by decide +kernel
theorem chk46 : chk 100 4600 = true := by decide +kernel
theorem chk47 : chk 100 4700 = true := by decide +kernel
theorem chk48 : chk 100 4800 = true := by decide +kernel
theorem chk49 : chk 100 4900 = true := by decide +kernel
theorem chk50 : chk 100 5000 = true := by decide +kernel
theorem chk51 : chk 100 5100 = true := by decide +kernel
theorem chk52 : chk 100 5200 = true := by decide +kernel
theorem chk53 : chk 100 5300 = true := by decide +kernel
theorem chk54 : chk 100 5400 = true := by decide +kernel
theorem chk55 : chk 100 5500 = true := by decide +kernel
theorem chk56 : chk 100 5600 = true := by decide +kernel
theorem chk57 : chk 100 5700 = true := by decide +kernel
theorem chk58 : chk 100 5800 = true := by decide +kernel
theorem chk59 : chk 100 5900 = true := by decide +kernel
theorem chk60 : chk 100 6000 = true := by decide +kernel
theorem chk61 : chk 100 6100 = true := by decide +kernel
theorem chk62 : chk 100 6200 = true := by decide +kernel
theorem chk63 : chk 100 6300 = true := by decide +kernel
theorem chk64 : chk 100 6400 = true := by decide +kernel
theorem chk65 : chk 100 6500 = true := by decide +kernel
theorem chk66 : chk 100 6600 = true := by decide +kernel
theorem chk67 : chk 100 6700 = true := by decide +kernel
theorem chk68 : chk 100 6800 = true := by decide +kernel
theorem chk69 : chk 100 6900 = true := by decide +kernel
theorem chk70 : chk 100 7000 = true := by decide +kernel
theorem chk71 : chk 100 7100 = true := by decide +kernel
theorem chk72 : chk 100 7200 = true := by decide +kernel
theorem chk73 : chk 100 7300 = true := by decide +kernel
theorem chk74 : chk 100 7400 = true := by decide +kernel
theorem chk75 : chk 100 7500 = true := by decide +kernel
theorem chk76 : chk 100 7600 = true := by decide +kernel
theorem chk77 : chk 100 7700 = true := by decide +kernel
theorem chk78 : chk 100 7800 = true := by decide +kernel
theorem chk79 : chk 100 7900 = true := by decide +kernel
theorem chk80 : chk 100 8000 = true := by decide +kernel
theorem chk81 : chk 100 8100 = true := by decide +kernel
theorem chk82 : chk 100 8200 = true := by decide +kernel
theorem chk83 : chk 100 8300 = true := by decide +kernel
theorem chk84 : chk 100 8400 = true := by decide +kernel
theorem chk85 : chk 100 8500 = true := by decide +kernel
theorem chk86 : chk 100 8600 = true := by decide +kernel
theorem chk87 : chk 100 8700 = true := by decide +kernel
theorem chk88 : chk 100 8800 = true := by decide +kernel
theorem chk89 : chk 100 8900 = true := by decide +kernel
theorem chk90 : chk 100 9000 = true := by decide +kernel
theorem chk91 : chk 100 9100 = true := by decide +kernel
theorem chk92 : chk 100 9200 = true := by decide +kernel
theorem chk93 : chk 100 9300 = true := by decide +kernel
theorem chk94 : chk 100 9400 = true := by decide +kernel
theorem chk95 : chk 100 9500 = true := by decide +kernel
theorem chk96 : chk 100 9600 = true := by decide +kernel
theorem chk97 : chk 100 9700 = true := by decide +kernel
theorem chk98 : chk 100 9800 = true := by decide +kernel
theorem chk99 : chk 100 9900 = true := by decide +kernel
theorem chk_all : ∀ c, c < 100 → chk 100 (c * 100) = true := fun c hc => match c, hc with
  | 0, _ => chk0
  | 1, _ => chk1
  | 2, _ => chk2
  | 3, _ => chk3
  | 4, _ => chk4
  | 5, _ => chk5
  | 6, _ => chk6
  | 7, _ => chk7
  | 8, _ => chk8
  | 9, _ => chk9
  | 10, _ => chk10
  | 11, _ => chk11
  | 12, _ => chk12
  | 13, _ => chk13
  | 14, _ => chk14
  | 15, _ => chk15
  | 16, _ => chk16
  | 17, _ => chk17
  | 18, _ => chk18
  | 19, _ => chk19
  | 20, _ => chk20
  | 21, _ => chk21
  | 22, _ => chk22
  | 23, _ => chk23
  | 24, _ => chk24
  | 25, _ => chk25
  | 26, _ => chk26
  | 27, _ => chk27
  | 28, _ => chk28
  | 29, _ => chk29
  | 30, _ => chk30
  | 31, _ => chk31
  | 32, _ => chk32
  | 33, _ => chk33
  | 34, _ => chk34
  | 35, _ => chk35
  | 36, _ => chk36
  | 37, _ => chk37
  | 38, _ => chk38
  | 39, _ => chk39
  | 40, _ => chk40
  | 41, _ => chk41
  | 42, _ => chk42
  | 43, _ => chk43
  | 44, _ => chk44
  | 45, _ => chk45
  | 46, _ => chk46
  | 47, _ => chk47
  | 48, _ => chk48
  | 49, _ => chk49
  | 50, _ => chk50
  | 51, _ => chk51
  | 52, _ => chk52
  | 53, _ => chk53
  | 54, _ => chk54
  | 55, _ => chk55
  | 56, _ => chk56
  | 57, _ => chk57
  | 58, _ => chk58
  | 59, _ => chk59
  | 60, _ => chk60
  | 61, _ => chk61
  | 62, _ => chk62
  | 63, _ => chk63
  | 64, _ => chk64
  | 65, _ => chk65
  | 66, _ => chk66
  | 67, _ => chk67
  | 68, _ => chk68
  | 69, _ => chk69
  | 70, _ => chk70
  | 71, _ => chk71
  | 72, _ => chk72
  | 73, _ => chk73
  | 74, _ => chk74
  | 75, _ => chk75
  | 76, _ => chk76
  | 77, _ => chk77
  | 78, _ => chk78
  | 79, _ => chk79
  | 80, _ => chk80
  | 81, _ => chk81
  | 82, _ => chk82
  | 83, _ => chk83
  | 84, _ => chk84
  | 85, _ => chk85
  | 86, _ => chk86
  | 87, _ => chk87
  | 88, _ => chk88
  | 89, _ => chk89
  | 90, _ => chk90
  | 91, _ => chk91
  | 92, _ => chk92
  | 93, _ => chk93
  | 94, _ => chk94
  | 95, _ => chk95
  | 96, _ => chk96
  | 97, _ => chk97
  | 98, _ => chk98
  | 99, _ => chk99
  | n + 100, h => absurd h (by omega)
theorem root_ok (n : Nat) (h : n < 9974) : Float64.isqrt n * Float64.isqrt n ≤ n ∧ n < (Float64.isqrt n + 1) * (Float64.isqrt n + 1) := by
  have e : rt n = true := chk_at (chk_all (n / 100) (by omega)) (by omega) (by omega)
  obtain ⟨h1, h2⟩ := Bool.and_eq_true_iff.mp e
  exact ⟨Nat.le_of_ble_eq_true h1, by simpa [Nat.blt_eq] using h2⟩
theorem root_le {n d : Nat} (h : n < 9974) : d ≤ Float64.isqrt n ↔ d * d ≤ n := by
  obtain ⟨h1, h2⟩ := root_ok n h
  constructor
  · intro e
    exact Nat.le_trans (Nat.mul_le_mul e e) h1
  · intro e
    refine Nat.le_of_not_lt fun c => ?_
    have := Nat.mul_le_mul (Nat.succ_le_of_lt c) (Nat.succ_le_of_lt c)
    simp only [Nat.succ_eq_add_one] at this
    omega
theorem sq_lt {n d : Nat} (h : n < 9974) (e : d * d ≤ n) : d < 100 := by
  refine Nat.lt_of_not_le fun c => ?_
  have := Nat.mul_le_mul c c
  omega
theorem isP_no {n d : Nat} (h2 : 2 ≤ d) (hn : n < 9974) (hs : d * d ≤ n) (hm : n % d = 0) : isP n = false := by
  cases e : isP n with
  | false => rfl
  | true =>
    have q := List.all_eq_true.mp e d (List.mem_range.mpr (sq_lt hn hs))
    simp [h2, hs, hm] at q
theorem isP_yes {n : Nat} (h : ∀ d, 2 ≤ d → d * d ≤ n → n % d ≠ 0) : isP n = true := by
  refine List.all_eq_true.mpr fun d _ => ?_
  by_cases h2 : 2 ≤ d
  · by_cases hs : d * d ≤ n
    · simp [h2, hs, h d h2 hs]
    · simp [hs]
  · simp [h2]
theorem isP_at {n d : Nat} (h : isP n = true) (h2 : 2 ≤ d) (hn : n < 9974) (hs : d * d ≤ n) : n % d ≠ 0 := fun e => by
  rw [isP_no h2 hn hs e] at h
  cases h
def rRoot : List V → Hp → VK → Prop := fun vs H Q => ∃ a : Nat, vs = [.int (a : Int)] ∧ a < 2 ^ 64 ∧ Q (.int ((Float64.isqrt a : Nat) : Int)) H
theorem cr_root {X : Cx} : CallR X (.builtin "math.isqrt") rRoot := by
  intro pins s σ H vs us Q I r h
  obtain ⟨a, rfl, ha, q⟩ := h
  cases r with
  | @cons _ u _ _ r1 r2 =>
    cases r2
    obtain ⟨t, rfl⟩ := (show ∃ t, u = Value.int (a : Int) t from r1)
    exact PySem.W.mg_isqrt (by omega) (by omega) ⟨.int ((Float64.isqrt a : Nat) : Int), H, I.tok _, ⟨s.toks, by rw [Int.toNat_natCast]⟩, q⟩
structure RTx (mg : Str → Option Value) : Prop where
  g_isqrt : mg "isqrt" = some (.builtin "math.isqrt")
  b_range : mg "range" = none
def spPrime : Sp := fun vs H Q _ => ∃ n : Nat, vs = [.int (n : Int)] ∧ n < 9974 ∧ Q (.bl (isP n)) H
section
variable {P : Program} {w : World} {K : PySem.W.Frag} {mg : Str → Option Value} {base : Heap}
theorem sc_isprime : FnScope ["count", "divisor"] ["count"] (defScope s_isprime) := ⟨rfl, rfl, rfl, by decide +kernel, rfl, by decide +kernel, by decide +kernel⟩
theorem ok_isprime {f : Addr} {fd : FuncData} (F : Fun K "_is_prime" "_is_prime" s_isprime f fd) (T : RTx mg) : FnOk P w K mg base CX0 1 f fd ["count"] spPrime := by
  refine F.ok sc_isprime (fun vs H Q E h => ?_) (fun cdv A outer s H vs Q E hr h => ?_)
  · obtain ⟨x, rfl, _⟩ := h
    rfl
  · obtain ⟨n, rfl, hn, k⟩ := h
    refine ⟨_, pss_cons (ps_for PassesOwn.never rfl (pi_range2 (by rfl) T.b_range (pa_cons pe_int (pa_cons (pe_op op_add (pe_callBfun cr_root (by rfl) T.g_isqrt (pa_cons (pv 0) pa_nil)) pe_int) pa_nil))) (pg_name (i := 1) sc_isprime.nd rfl (Or.inl rfl)) (pss_one (ps_if (pt_cmpR op_eq (pe_op op_mod (pv 0) (pv 1)) pe_int (nomark _)) (pss_one (ps_ret pe_bl)) pss_nil)))
      (pss_one (ps_ret pe_bl)), ?_⟩
    have r99 : Float64.isqrt n < 100 := sq_lt hn (root_ok n hn).1
    refine ⟨_, rfl, n, rfl, by omega, _, _, rfl, rfl, _, _, rfl, by omega, ?_⟩
    refine for_range (lo := 2) (n := (((Float64.isqrt n : Nat) : Int) + 1 - 2).toNat) (fun i σ H' => ∃ z, σ = [some (.int (n : Int)), z] ∧ H' = H ∧ ∀ d, 2 ≤ d → d < 2 + i → n % d ≠ 0) ⟨none, rfl, rfl, fun d h1 h2 => by omega⟩ ?_ ?_
    · rintro i σ H2 hi ⟨z, rfl, rfl, hd⟩
      have hle : 2 + i ≤ Float64.isqrt n := by omega
      have em : ((n : Int) % ((2 : Int) + (i : Int))) = ((n % (2 + i) : Nat) : Int) := by
        rw [Int.natCast_emod]
        rfl
      refine ⟨_, rfl, _, rfl, _, _, rfl, rfl, by omega, rfl, _, rfl, ite2 (fun c => ?_) (fun c => ?_)⟩
      · have e0 : n % (2 + i) = 0 := by
          have q : ((n : Int) % ((2 : Int) + (i : Int))) = 0 := V.int.inj (of_decide_eq_true c)
          rw [em] at q
          omega
        rw [isP_no (by omega) hn ((root_le hn).mp hle) e0] at k
        exact k
      · refine ⟨_, rfl, rfl, fun d h1 h2 => ?_⟩
        by_cases e : d = 2 + i
        · subst e
          intro q
          refine c (decide_eq_true ?_)
          show V.int ((n : Int) % ((2 : Int) + (i : Int))) = V.int 0
          rw [em, q]
          rfl
        · exact hd d h1 (by omega)
    · rintro σ H2 ⟨z, rfl, rfl, hd⟩
      rw [isP_yes fun d h1 h2 => hd d h1 (by have := (root_le hn).mpr h2; omega)] at k
      exact k
def spInv : Sp := fun vs H Q _ => ∃ a p : Int, vs = [.int a, .int p] ∧ 1 ≤ a ∧ a < p ∧ p < 9974 ∧ Int.gcd p a = 1 ∧ ∀ r, 0 ≤ r → r < p → (∃ k, r * a = 1 + k * p) → ∀ H', Same H H' → Q (.int r) H'
theorem sc_inverse : FnScope ["number", "prime", "high", "low", "high_factor", "low_factor", "times"] ["number", "prime"] (defScope s_inverse) := ⟨rfl, rfl, rfl, by decide +kernel, rfl, by decide +kernel, by decide +kernel⟩
theorem ok_inverse {f : Addr} {fd : FuncData} (F : Fun K "_inverse" "_inverse" s_inverse f fd) : FnOk P w K mg base CX0 1 f fd ["number", "prime"] spInv := by
  refine F.ok sc_inverse (fun vs H Q E h => ?_) (fun cdv A outer s H vs Q E hr h => ?_)
  · obtain ⟨x, y, rfl, _⟩ := h
    rfl
  · obtain ⟨a, p, rfl, ha, hap, hp, hg, k⟩ := h
    refine ⟨_, (pss_cons (ps_par (i := 2) (j := 3) (by rfl) sc_inverse.nd rfl rfl (by decide) rfl rfl (pa_cons (pv 1) (pa_cons (pv 0) pa_nil)) (by rfl))
      (pss_cons (ps_asg (pe_tup (pa_cons pe_int (pa_cons pe_int pa_nil))) (pg_tup rfl (pgs_cons (pg_name (i := 4) sc_inverse.nd rfl (Or.inl rfl)) (pgs_cons (pg_name (i := 5) sc_inverse.nd rfl (Or.inl rfl)) pgs_nil))))
      (pss_cons (ps_while PassesOwn.never (pt_cmpR op_gt (pv 3) pe_int (nomark _)) (pss_cons (ps_set (i := 6) sc_inverse.nd rfl (Or.inl rfl) (pe_op op_fdiv (pv 2) (pv 3)))
      (pss_cons (ps_par (i := 2) (j := 3) (by rfl) sc_inverse.nd rfl rfl (by decide) rfl rfl (pa_cons (pv 3) (pa_cons (pe_op op_sub (pv 2) (pe_op op_mul (pv 6) (pv 3))) pa_nil)) (by rfl))
      (pss_one (ps_par (i := 4) (j := 5) (by rfl) sc_inverse.nd rfl rfl (by decide) rfl rfl (pa_cons (pv 5) (pa_cons (pe_op op_sub (pv 4) (pe_op op_mul (pv 6) (pv 5))) pa_nil)) (by rfl))))))
      (pss_one (ps_ret (pe_op op_mod (pv 5) (pv 1))))))), ?_⟩
    refine ⟨_, rfl, _, rfl, _, _, rfl, (by show 2 ≤ sizeLine; decide), fun q hq => ⟨q, _, rfl, .inl (.inl upd_same), rfl, _, _, rfl, _, _, rfl, rfl, ?_⟩⟩
    have s0 : Same H (upd H q (.tup [.int 0, .int 1])) := same_new (Same.refl _) hq
    refine while_by (fun σ H' => ∃ (x l xf lf : Int) (z : Option V) (s u v : Int), σ = [some (.int a), some (.int p), some (.int x), some (.int l), some (.int xf), some (.int lf), z] ∧ Same H H' ∧ 1 ≤ l ∧ l < x ∧ x ≤ p ∧ Int.gcd x l = 1 ∧ (∃ k, xf * a = x + k * p) ∧ (∃ k, lf * a = l + k * p) ∧
      (s = 1 ∨ s = -1) ∧ 0 ≤ u ∧ 0 ≤ v ∧ xf = -s * u ∧ lf = s * v ∧ x * v + l * u = p) (fun σ _ => match σ with | [_, _, _, some (.int l), _, _, _] => l.natAbs | _ => 0) ⟨p, a, 0, 1, none, 1, 0, 1, rfl, s0, ha, hap, Int.le_refl _, hg, ⟨-1, by omega⟩, ⟨0, by omega⟩, .inl rfl, by decide, by decide, rfl, rfl, by omega⟩ ?_ ?_
    · rintro σ H' ⟨x, l, xf, lf, z, s, u, v, rfl, sH, h1, h2, h3, hg2, ⟨k1, e1⟩, ⟨k2, e2⟩, hs, hu, hv, ex, el, id⟩
      have hvp : v ≤ p := by
        have a1 : 1 * v ≤ x * v := Int.mul_le_mul_of_nonneg_right (by omega) hv
        have a2 : 0 ≤ l * u := Int.mul_nonneg (by omega) hu
        omega
      refine ⟨_, rfl, _, _, rfl, rfl, _, rfl, ?_⟩
      refine ite2 (fun c => ?_) (fun c => ?_)
      · have l1 : 1 < l := of_decide_eq_true c
        have d1 : x / l * l ≤ x := Int.ediv_mul_le x (by omega)
        have t0 : 0 ≤ x / l := Int.ediv_nonneg (by omega) (by omega)
        have tx : x / l ≤ x := Int.ediv_le_self _ (by omega)
        have dm := Int.emod_add_mul_ediv x l
        have m0 := Int.emod_nonneg x (b := l) (by omega)
        have m1 := Int.emod_lt_of_pos x (b := l) (by omega)
        have er : x - x / l * l = x % l := by
          have e := Int.emod_def x l
          rw [Int.mul_comm] at e
          exact e.symm
        have gr : Int.gcd l (x % l) = 1 := by
          rw [← Int.fmod_eq_emod_of_nonneg x (by omega), gcd_fmod]
          exact hg2
        have mn : 1 ≤ x % l := by
          rcases (show x % l = 0 ∨ 1 ≤ x % l from by omega) with e | e
          · rw [e] at gr
            simp at gr
            omega
          · exact e
        have lfb : -(2 ^ 64) < lf ∧ lf < 2 ^ 64 := by rcases hs with rfl | rfl <;> omega
        refine ⟨_, rfl, _, rfl, _, _, rfl, rfl, ⟨by omega, by omega⟩, ?_⟩
        refine ⟨_, rfl, _, rfl, _, rfl, _, rfl, _, _, rfl, rfl, .inl ⟨by omega, by omega⟩, _, _, rfl, rfl, _, _, rfl, ?_⟩
        refine ⟨_, rfl, _, rfl, _, rfl, _, rfl, _, _, rfl, rfl, .inl ⟨by omega, by omega⟩, _, _, rfl, rfl, _, _, rfl, ?_⟩
        refine ⟨⟨l, x - x / l * l, lf, xf - x / l * lf, some (.int (x / l)), -s, v, u + x / l * v, rfl, sH, by omega, by omega, by omega, by rw [er]; exact gr, ⟨k2, e2⟩, ⟨k1 - x / l * k2, ?_⟩, by omega, hv, ?_, ?_, ?_, ?_⟩, ?_⟩
        · generalize x / l = t at *
          grind
        · have := Int.mul_nonneg t0 hv
          omega
        · rw [el]
          grind
        · rw [ex, el]
          generalize x / l = t at *
          grind
        · generalize x / l = t at *
          grind
        · show (x - x / l * l).natAbs < l.natAbs
          omega
      · have l1 : l = 1 := by
          have := of_decide_eq_false (by simpa using c : decide (1 < l) = false)
          omega
        refine ⟨_, rfl, _, rfl, _, _, rfl, rfl, (show 0 < p from by omega), ?_⟩
        refine k (lf % p) (Int.emod_nonneg _ (by omega)) (Int.emod_lt_of_pos _ (by omega)) ?_ H' sH
        have dm := Int.emod_def lf p
        refine ⟨k2 - lf / p * a, ?_⟩
        rw [dm]
        subst l1
        generalize lf / p = t at *
        grind
    · rintro σ H' Q1 Q2 hi c
      obtain ⟨v, e, x, y, e2, z, e3, c⟩ := c
      exact ⟨v, e, x, y, e2, z, e3, c.1, hi _ _ c.2⟩
end
end Sq

namespace Sq
open PySem L2 PyProof.Rows
abbrev s_finit : Stmt := inClass (top 27) 0
abbrev s_feq : Stmt := inClass (top 27) 1
abbrev s_fnum : Stmt := inClass (top 27) 2
abbrev s_fover : Stmt := inClass (top 27) 3
def goodP (p : Int) : Bool := decide (p = 0) || (decide (2 ≤ p) && decide (p ≤ 9973) && isP p.toNat)
theorem goodP_pos {p : Int} (h : goodP p = true) (h0 : p ≠ 0) : 2 ≤ p ∧ p ≤ 9973 ∧ isP p.toNat = true := by
  unfold goodP at h
  simp [h0] at h
  exact ⟨h.1.1, h.1.2, h.2⟩
theorem gcd_prime {p a : Int} (h2 : 2 ≤ p) (hp : p ≤ 9973) (h : isP p.toNat = true) (h1 : 1 ≤ a) (ha : a < p) : Int.gcd p a = 1 := by
  have dp : Int.gcd p a ∣ p.natAbs := Int.gcd_dvd_natAbs_left ..
  have da : Int.gcd p a ∣ a.natAbs := Int.gcd_dvd_natAbs_right ..
  generalize Int.gcd p a = g at *
  have pn : p.toNat = p.natAbs := by omega
  rw [pn] at h
  have ga : g ≤ a.natAbs := Nat.le_of_dvd (by omega) da
  obtain ⟨q, hq⟩ := dp
  have g0 : g ≠ 0 := fun e => by
    rw [e, Nat.zero_mul] at hq
    omega
  have q0 : q ≠ 0 := fun e => by
    rw [e, Nat.mul_zero] at hq
    omega
  have q1 : q ≠ 1 := fun e => by
    rw [e, Nat.mul_one] at hq
    omega
  by_cases g1 : g = 1
  · exact g1
  · exfalso
    rcases Nat.le_total g q with l | l
    · have := Nat.mul_le_mul (Nat.le_refl g) l
      exact isP_at h (d := g) (by omega) (by omega) (by omega) (by rw [hq]; exact Nat.mul_mod_right _ _)
    · have := Nat.mul_le_mul l (Nat.le_refl q)
      exact isP_at h (d := q) (by omega) (by omega) (by omega) (by rw [hq]; exact Nat.mul_mod_left _ _)
def pfl (p : Int) : List (Str × V) := putF "prime" (.int p) []
theorem pf_prime (p : Int) : (pfl p).lookup ("prime" : Str) = some (.int p) := by
  unfold pfl
  rw [lookup_putF, if_pos rfl]
theorem pf_no (p : Int) {m : Str} (h1 : ¬ m = "prime") : (pfl p).lookup m = none := by
  unfold pfl
  rw [lookup_putF, if_neg h1]
  rfl
def FldAt (CF : Addr) (H : Hp) (x : Addr) (p : Int) : Prop := ∃ dx, H x = some (.ins CF dx (pfl p))
theorem FldAt.same {C : Addr} {H H' : Hp} {x : Addr} {p : Int} (s : Same H H') (h : FldAt C H x p) : FldAt C H' x p := by
  obtain ⟨dx, h⟩ := h
  exact ⟨dx, s _ _ h⟩
structure FTx (K : PySem.W.Frag) (CF : Addr) : Prop where
  cl : Cls K CF
  nP : NoAttr K CF "prime"
/-- an own error without an __init__ that is raised -/
structure RNx (K : PySem.W.Frag) (mg : Str → Option Value) (x : Str) (CN : Addr) : Prop where
  q : PySem.W.excIn K CN [.type "ValueError", .type "Exception", .type "BaseException", .type "object"] "ValueError.__new__" = true
  m : mg x = some (.ref CN)
  k : PySem.W.keepIn K (.ref CN) = true
  ex : PySem.W.subIn K (.ref CN) (.type "BaseException") = some true
  ty : PySem.W.typeIn K (.ref CN) = some (.type "type")
theorem itD {c : Prop} [Decidable c] {a b : Prop} (h : c) (x : a) : ite c a b := by
  rw [if_pos h]
  exact x
theorem itDn {c : Prop} [Decidable c] {a b : Prop} (h : ¬ c) (x : b) : ite c a b := by
  rw [if_neg h]
  exact x
def spFieldInit (K : PySem.W.Frag) (CF CNF : Addr) : Sp := fun vs H Q E => ∃ (x dx : Addr) (v : V), vs = [.ref x, v] ∧ H x = some (.ins CF dx []) ∧ IsTy K H v ∧ ((∀ p, v = .int p → goodP p = false) → E (.ref CNF) none H) ∧
  (∀ p, v = .int p → goodP p = true → ∀ H', FldAt CF H' x p → But x H H' → Q .non H')
section
variable {P : Program} {w : World} {K : PySem.W.Frag} {mg : Str → Option Value} {base : Heap}
theorem sc_finit : FnScope ["self", "prime"] ["self", "prime"] (defScope s_finit) := ⟨rfl, rfl, rfl, by decide +kernel, rfl, by decide +kernel, by decide +kernel⟩
theorem ok_finit {f CF CNF fI fP : Addr} {fd fdI fdP : FuncData} {tk : Tok} (F : FunD K "__init__" "Field.__init__" (defArgs s_finit) (defBody s_finit) (defScope s_finit) [.int 0] [] f fd) (TF : FTx K CF) (RN : RNx K mg "NoField" CNF) (GP : mg "GREATEST_PRIME" = some (.int 9973 tk))
    (G_I : FnOk P w K mg base CX0 1 fI fdI ["value"] (spIsInt K)) (m_I : mg "is_an_integer" = some (.ref fI)) (k_I : PySem.W.keepIn K (.ref fI) = true) (b_I : Binds K fdI ["value"] [])
    (G_P : FnOk P w K mg base CX0 1 fP fdP ["count"] spPrime) (m_P : mg "_is_prime" = some (.ref fP)) (k_P : PySem.W.keepIn K (.ref fP) = true) (b_P : Binds K fdP ["count"] []) :
    FnOk P w K mg base (L2.CX P w) 2 f fd ["self", "prime"] (spFieldInit K CF CNF) := by
  refine F.ok sc_finit (fun vs H Q E h => ?_) (fun cdv A outer s H vs Q E hr h => ?_)
  · obtain ⟨x, dx, v, rfl, _⟩ := h
    rfl
  · obtain ⟨x, dx, v, rfl, hx, tv, kE, kQ⟩ := h
    refine ⟨_, (pss_cons (ps_if (pt_not (pt_val (pe_call G_I (hr.mono (by decide)) rfl m_I k_I b_I .nil pass0 (pa_cons (pv 1) pa_nil))))
        (pss_one (ps_raise rfl (takes_of rfl rfl rfl rfl) (pmk_own0 PySem.F.excBase_ValueError RN.q RN.m RN.k (raises_own RN.ex RN.ty) rfl)))
        pss_nil)
      (pss_cons (ps_if (PW.pt (pw_and (pt_cmpR op_ne (pv 1) pe_int (nomark _)) (pw_and1 (pt_not (PW.pt (pw_and (pt_chain op_le op_le pe_int (pv 1) (pe_glob (v := .int 9973) rfl GP ⟨_, rfl⟩)) (pw_and1 (pt_val (pe_call G_P (hr.mono (by decide)) rfl m_P k_P b_P .nil pass0 (pa_cons (pv 1) pa_nil))))))))))
        (pss_one (ps_raise rfl (takes_of rfl rfl rfl rfl) (pmk_own0 PySem.F.excBase_ValueError RN.q RN.m RN.k (raises_own RN.ex RN.ty) rfl)))
        pss_nil)
      (pss_one (ps_fld (pv 0) (pv 1) rfl)))), ?_⟩
    refine ⟨_, rfl, v, rfl, tv, _, rfl, ?_⟩
    cases ev : isI v with
    | false => exact iteT (kE fun p e => by rw [e] at ev; cases ev)
    | true =>
      obtain ⟨p, rfl⟩ := isI_int ev
      refine iteF ⟨_, rfl, rfl, _, rfl, ?_⟩
      have fin : goodP p = true → _ := fun hg => kQ p rfl hg (upd H x (.ins CF dx (pfl p))) ⟨dx, upd_same⟩ (But.refl x _).upd
      have sets : ∀ {Q' : Hp → Prop}, Q' (upd H x (.ins CF dx (pfl p))) → Q' (upd H x (.ins CF dx (putF "prime" (.int p) []))) := fun h => h
      by_cases p0 : p = 0
      · subst p0
        refine itDn (by simp) ?_
        exact ⟨_, rfl, _, rfl, x, CF, dx, [], rfl, hx, TF.cl, TF.nP, (by show 0 < 1000; decide), fin (by decide)⟩
      · refine itD (by simpa using p0) ?_
        refine ⟨_, rfl, _, _, rfl, rfl, _, rfl, ?_⟩
        by_cases c2 : 2 ≤ p
        · refine itD (by simpa using c2) ⟨_, _, rfl, rfl, _, rfl, ?_⟩
          by_cases c3 : p ≤ 9973
          · refine itD (by simpa using c3) ?_
            refine ⟨_, rfl, p.toNat, (by rw [Int.toNat_of_nonneg (by omega)]; rfl), by omega, _, rfl, ?_⟩
            cases hp : isP p.toNat with
            | true =>
              refine itDn (by decide) ?_
              exact ⟨_, rfl, _, rfl, x, CF, dx, [], rfl, hx, TF.cl, TF.nP, (by show 0 < 1000; decide), fin (by unfold goodP; simp [c2, c3, hp])⟩
            | false =>
              refine itD rfl ?_
              exact kE fun p2 e => by cases e; unfold goodP; simp [p0, hp]
          · exact itDn (by simpa using c3) (kE fun p' e => by cases e; unfold goodP; simp [p0, c3])
        · exact itDn (by simpa using c2) ⟨_, rfl, itDn (by decide) (kE fun p' e => by cases e; unfold goodP; simp [p0, c2])⟩
end
end Sq

namespace Sq
open PySem L2 PyProof.Rows
/-- whether y is a number -/
def NmTy (K : PySem.W.Frag) (C : Addr) (H : Hp) (y : V) (r : Bool) : Prop := ∃ (t : Value) (b : Bool), TyX K H y t ∧ PySem.W.kitOne K t (.ref C) = some b ∧ IsTy K H y ∧ (b || isI y) = r
def spNumI (C CF : Addr) : Sp := fun vs H Q _ => ∃ (x : Addr) (v p : Int), vs = [.ref x, .int v] ∧ FldAt CF H x p ∧ goodP p = true ∧ v.natAbs < 2 ^ 8000 ∧ (p = 0 → ∀ z H', RatAt C H' z v 1 → Same H H' → Q (.ref z) H') ∧ (p ≠ 0 → Q (.int (v % p)) H)
def spOverI (CF CNN : Addr) : Sp := fun vs H Q E => ∃ (x : Addr) (a b p : Int), vs = [.ref x, .int a, .int b] ∧ FldAt CF H x p ∧ goodP p = true ∧ p ≠ 0 ∧ a.natAbs < 2 ^ 8000 ∧ b.natAbs < 2 ^ 8000 ∧ (b % p = 0 → E (.ref CNN) none H) ∧
  (b % p ≠ 0 → ∀ r H', 0 ≤ r → r < p → (∃ k, r * b = a + k * p) → Same H H' → Q (.int r) H')
/-- the number of the field p that t / u is, or none -/
def spNum (K : PySem.W.Frag) (C CF CNN : Addr) : Sp := fun vs H Q E => ∃ (x : Addr) (y : V) (p : Int), vs = [.ref x, y] ∧ FldAt CF H x p ∧ goodP p = true ∧
  ((NmTy K C H y false ∧ E (.ref CNN) none H) ∨ ∃ t u, NumAt C H y t u ∧ 1 ≤ u ∧ t.natAbs < 2 ^ 8000 ∧ u.natAbs < 2 ^ 8000 ∧
    (p = 0 → ∀ z H', RatAt C H' z t u → Same H H' → Q (.ref z) H') ∧
    (p ≠ 0 → u % p = 0 → E (.ref CNN) none H) ∧
    (p ≠ 0 → u % p ≠ 0 → ∀ r H', 0 ≤ r → r < p → (∃ k, r * u = t + k * p) → Same H H' → Q (.int r) H'))
section
variable {P : Program} {w : World} {K : PySem.W.Frag} {mg : Str → Option Value} {base : Heap}
theorem sc_fnum : FnScope ["self", "value"] ["self", "value"] (defScope s_fnum) := ⟨rfl, rfl, rfl, by decide +kernel, rfl, by decide +kernel, by decide +kernel⟩
theorem ok_numI {f C CF CNN fN fA : Addr} {fd fdN fdA : FuncData} (F : Fun K "number" "Field.number" s_fnum f fd) (T : CTx K C) (TF : FTx K CF) (Z : KZx K C) (B : ITx mg) (m_C : mg "Ratio" = some (.ref C)) (RN : RNx K mg "NoNumber" CNN)
    (G_N : FnOk P w K mg base CX0 2 fN fdN ["value"] (spIsNum K C)) (m_N : mg "is_number" = some (.ref fN)) (k_N : PySem.W.keepIn K (.ref fN) = true) (b_N : Binds K fdN ["value"] [])
    (G_A : FnOk P w K mg base CX0 5 fA fdA ["number"] (spAsRatio C)) (m_A : mg "as_ratio" = some (.ref fA)) (k_A : PySem.W.keepIn K (.ref fA) = true) (b_A : Binds K fdA ["number"] []) :
    FnOk P w K mg base (L2.CX P w) 6 f fd ["self", "value"] (spNumI C CF) := by
  refine F.okX sc_fnum (fun vs H Q E h => ?_) (fun cdv A outer s H vs Q E hr h => ?_)
  · obtain ⟨x, v, p, rfl, _⟩ := h
    rfl
  · obtain ⟨x, v, p, rfl, hx, hg, sv, k0, kp⟩ := h
    refine ⟨_, (pss_cons (ps_if (pt_not (pt_val (pe_call G_N (hr.mono (by decide)) rfl m_N k_N b_N .nil pass0 (pa_cons (pv 1) pa_nil))))
        (pss_one (ps_raise rfl (takes_of rfl rfl rfl rfl) (pmk_own0 PySem.F.excBase_ValueError RN.q RN.m RN.k (raises_own RN.ex RN.ty) rfl)))
        pss_nil)
      (pss_cons (ps_if (pt_cmpR op_eq (pe_fld (pv 0) rfl) pe_int (nomark _))
        (pss_one (ps_ret (pe_call G_A (hr.mono (by decide)) rfl m_A k_A b_A .nil pass0 (pa_cons (pv 1) pa_nil))))
        pss_nil)
      (pss_cons (ps_if (pt_val (pe_callB call_isi (by rfl) B.b_isinstance (by decide +kernel) (pa_cons (pv 1) (pa_cons (pe_glob (v := .ref C) rfl m_C rfl) pa_nil))))
        (pss_one ps_never)
        pss_nil)
      (pss_one (ps_ret (pe_op op_mod (pv 1) (pe_fld (pv 0) rfl))))))), ?_⟩
    obtain ⟨dx, hx0⟩ := id hx
    refine ⟨_, rfl, .int v, .type "int", false, rfl, .base (.int _), Z.kint, .int _, _, rfl, iteF ?_⟩
    refine ⟨_, rfl, x, CF, dx, _, _, rfl, hx0, TF.cl, TF.nP, pf_prime _, rfl, _, rfl, ?_⟩
    by_cases p0 : p = 0
    · refine itD (by simpa using p0) ?_
      exact ⟨_, rfl, .int v, v, 1, rfl, .inr ⟨rfl, rfl⟩, sv, fun r H1 hr1 s1 => k0 p0 r H1 hr1 s1⟩
    · refine itDn (by simpa using p0) ?_
      refine ⟨_, rfl, _, _, _, _, false, rfl, .own C, .base (.int _), Z.kint, _, rfl, iteF ?_⟩
      obtain ⟨p2, _, _⟩ := goodP_pos hg p0
      exact ⟨_, rfl, _, rfl, x, CF, dx, _, _, rfl, hx0, TF.cl, TF.nP, pf_prime _, _, _, rfl, rfl, (show 0 < p from by omega), kp p0⟩
theorem sc_fover : FnScope ["self", "one", "other", "top", "bottom"] ["self", "one", "other"] (defScope s_fover) := ⟨rfl, rfl, rfl, by decide +kernel, rfl, by decide +kernel, by decide +kernel⟩
theorem ok_overI {f C CF CNN fnum finv : Addr} {fd fdnum fdinv : FuncData} (F : Fun K "over" "Field.over" s_fover f fd) (TF : FTx K CF) (RN : RNx K mg "NoNumber" CNN)
    (Me_num : Meth K CF "number" fnum) (G_num : FnOk P w K mg base (L2.CX P w) 6 fnum fdnum ["self", "value"] (spNumI C CF)) (b_num : Binds K fdnum ["self", "value"] [])
    (G_inv : FnOk P w K mg base CX0 1 finv fdinv ["number", "prime"] spInv) (m_inv : mg "_inverse" = some (.ref finv)) (k_inv : PySem.W.keepIn K (.ref finv) = true) (b_inv : Binds K fdinv ["number", "prime"] []) :
    FnOk P w K mg base (L2.CX P w) 7 f fd ["self", "one", "other"] (spOverI CF CNN) := by
  refine F.okX sc_fover (fun vs H Q E h => ?_) (fun cdv A outer s H vs Q E hr h => ?_)
  · obtain ⟨x, a, b, p, rfl, _⟩ := h
    rfl
  · obtain ⟨x, a, b, p, rfl, hx, hg, p0, sa, sb, kE, k⟩ := h
    refine ⟨_, (pss_cons (ps_set (i := 3) sc_fover.nd rfl (Or.inl rfl) (pe_meth (E := E) (pv 0) TF.cl Me_num G_num (hr.mono (by decide)) b_num .nil (passes_call (takes_of rfl rfl rfl rfl) fun _ _ _ _ h => h) (pa_cons (pv 1) pa_nil)))
      (pss_cons (ps_set (i := 4) sc_fover.nd rfl (Or.inl rfl) (pe_meth (E := E) (pv 0) TF.cl Me_num G_num (hr.mono (by decide)) b_num .nil (passes_call (takes_of rfl rfl rfl rfl) fun _ _ _ _ h => h) (pa_cons (pv 2) pa_nil)))
      (pss_cons (ps_if (pt_cmpR op_eq (pv 4) pe_int (nomark _))
        (pss_one (ps_raise rfl (takes_of rfl rfl rfl rfl) (pmk_own0 PySem.F.excBase_ValueError RN.q RN.m RN.k (raises_own RN.ex RN.ty) rfl)))
        pss_nil)
      (pss_cons (ps_if (pt_cmpR op_eq (pe_fld (pv 0) rfl) pe_int (nomark _))
        (pss_one ps_never)
        pss_nil)
      (pss_one (ps_ret (pe_op op_mod (pe_op op_mul (pv 3) (pe_call G_inv (hr.mono (by decide)) rfl m_inv k_inv b_inv .nil pass0 (pa_cons (pv 4) (pa_cons (pe_fld (pv 0) rfl) pa_nil)))) (pe_fld (pv 0) rfl)))))))), ?_⟩
    obtain ⟨dx, hx0⟩ := id hx
    obtain ⟨p2, p3, hp⟩ := goodP_pos hg p0
    have a0 := Int.emod_nonneg a p0
    have a1 := Int.emod_lt_of_pos a (show 0 < p from by omega)
    have b0 := Int.emod_nonneg b p0
    have b1 := Int.emod_lt_of_pos b (show 0 < p from by omega)
    refine ⟨_, rfl, x, dx, _, rfl, hx0, pf_no _ (by decide +kernel), _, rfl, x, a, p, rfl, hx, hg, sa, fun e => absurd e p0, fun _ => ?_⟩
    refine ⟨_, rfl, x, dx, _, rfl, hx0, pf_no _ (by decide +kernel), _, rfl, x, b, p, rfl, hx, hg, sb, fun e => absurd e p0, fun _ => ?_⟩
    refine ⟨_, rfl, rfl, _, rfl, ?_⟩
    by_cases z : b % p = 0
    · refine itD (by simpa using z) ?_
      exact kE z
    · refine itDn (by simpa using z) ?_
      refine ⟨_, rfl, x, CF, dx, _, _, rfl, hx0, TF.cl, TF.nP, pf_prime _, rfl, _, rfl, itDn (by simpa using p0) ?_⟩
      refine ⟨_, rfl, _, rfl, _, rfl, x, CF, dx, _, _, rfl, hx0, TF.cl, TF.nP, pf_prime _, b % p, p, rfl, by omega, b1, by omega, gcd_prime p2 p3 hp (by omega) b1, fun r r0 r1 ⟨q, hq⟩ H1 s1 => ?_⟩
      refine ⟨_, _, rfl, rfl, .inl ⟨by omega, by omega⟩, _, rfl, x, CF, dx, _, _, rfl, s1 _ _ hx0, TF.cl, TF.nP, pf_prime _, _, _, rfl, rfl, (show 0 < p from by omega), ?_⟩
      refine k z _ H1 (Int.emod_nonneg _ p0) (Int.emod_lt_of_pos _ (by omega)) ?_ s1
      have da := Int.emod_def a p
      have db := Int.emod_def b p
      have dm := Int.emod_def (a % p * r) p
      generalize a % p * r / p = e1 at *
      generalize a / p = e2 at *
      generalize b / p = e3 at *
      generalize a % p = a' at *
      generalize b % p = b' at *
      refine ⟨a' * q + a' * r * e3 - e1 * b - e2, ?_⟩
      rw [dm]
      grind
end
end Sq

namespace Sq
open PySem L2 PyProof.Rows
theorem tyX_same {K : PySem.W.Frag} {H H' : Hp} {x : V} {t : Value} (s : Same H H') (ty : TyX K H x t) : TyX K H' x t := by
  cases ty with
  | base b =>
    refine .base ?_
    cases b with
    | non => exact .non
    | bl => exact .bl _
    | int => exact .int _
    | str => exact .str _
    | flt => exact .flt _
    | lst e => exact .lst (s _ _ e)
    | frz e => exact .frz (s _ _ e)
    | tup e => exact .tup (s _ _ e)
    | dK e => exact .dK (s _ _ e)
    | dT e => exact .dT (s _ _ e)
    | ins e c1 c2 c3 c4 c5 => exact .ins (s _ _ e) c1 c2 c3 c4 c5
  | byt => exact .byt _
  | set e => exact .set (s _ _ e)
  | kList e c => exact .kList e c
  | kTuple e c => exact .kTuple e c
  | kDict e c => exact .kDict e c
  | fTuple e => exact .fTuple (s _ _ e)
  | fDict e => exact .fDict (s _ _ e)
theorem NmTy.same {K : PySem.W.Frag} {C : Addr} {H H' : Hp} {y : V} {r : Bool} (s : Same H H') (h : NmTy K C H y r) : NmTy K C H' y r := by
  obtain ⟨t, b, ty, kb, it, e⟩ := h
  exact ⟨t, b, tyX_same s ty, kb, it.same s, e⟩
def spOver (K : PySem.W.Frag) (C CF CNN : Addr) : Sp := fun vs H Q E => ∃ (x : Addr) (y1 y2 : V) (p : Int), vs = [.ref x, y1, y2] ∧ FldAt CF H x p ∧ goodP p = true ∧
  ((NmTy K C H y1 false ∧ E (.ref CNN) none H) ∨ ∃ t u, NumAt C H y1 t u ∧ 1 ≤ u ∧ Fit t ∧ Fit u ∧
    (p ≠ 0 → u % p = 0 → E (.ref CNN) none H) ∧
    (¬ (p ≠ 0 ∧ u % p = 0) → (NmTy K C H y2 false ∧ ∀ H1, Same H H1 → E (.ref CNN) none H1) ∨ ∃ t' u', NumAt C H y2 t' u' ∧ 1 ≤ u' ∧ Int.gcd t' u' = 1 ∧ Fit t' ∧ Fit u' ∧
      (p = 0 → (t' = 0 → ∀ H1, Same H H1 → E (.ref CNN) none H1) ∧ (t' ≠ 0 → ∀ z T U H', Low (t * u') (u * t') T U → RatAt C H' z T U → Same H H' → Q (.ref z) H')) ∧
      (p ≠ 0 → u' % p = 0 → ∀ H1, Same H H1 → E (.ref CNN) none H1) ∧
      (p ≠ 0 → u' % p ≠ 0 → t' % p = 0 → ∀ H1, Same H H1 → E (.ref CNN) none H1) ∧
      (p ≠ 0 → u' % p ≠ 0 → t' % p ≠ 0 → ∀ r H', 0 ≤ r → r < p → (∃ k, r * (u * t') = t * u' + k * p) → Same H H' → Q (.int r) H')))
theorem zero_mod {p r u t k : Int} (h2 : 2 ≤ p) (hp : p ≤ 9973) (hi : isP p.toNat = true) (hu : u % p ≠ 0) (r0 : 0 ≤ r) (r1 : r < p) (e : r * u = t + k * p) : r = 0 ↔ t % p = 0 := by
  constructor
  · intro z
    rw [z, Int.zero_mul] at e
    have : t = -k * p := by
      rw [Int.neg_mul]
      omega
    rw [this]
    exact Int.mul_emod_left ..
  · intro z
    by_cases c : r = 0
    · exact c
    · exfalso
      have g := gcd_prime h2 hp hi (show 1 ≤ r from by omega) r1
      have d : p ∣ r * u := by
        rw [e]
        exact Int.dvd_add (Int.dvd_of_emod_eq_zero z) (Int.dvd_mul_left ..)
      have dn : p.natAbs ∣ r.natAbs * u.natAbs := by
        rw [← Int.natAbs_mul]
        exact Int.natAbs_dvd_natAbs.mpr d
      have du : p.natAbs ∣ u.natAbs := Nat.Coprime.dvd_of_dvd_mul_left (show Nat.Coprime p.natAbs r.natAbs from g) dn
      exact hu (Int.emod_eq_zero_of_dvd (Int.natAbs_dvd_natAbs.mp du))
section
variable {P : Program} {w : World} {K : PySem.W.Frag} {mg : Str → Option Value} {base : Heap}
theorem ok_num {f C CF CNN fN fA fover : Addr} {fd fdN fdA fdover : FuncData} (F : Fun K "number" "Field.number" s_fnum f fd) (T : CTx K C) (TF : FTx K CF) (Y : ITy K C) (Z : KZx K C) (B : ITx mg) (m_C : mg "Ratio" = some (.ref C)) (RN : RNx K mg "NoNumber" CNN)
    (G_N : FnOk P w K mg base CX0 2 fN fdN ["value"] (spIsNum K C)) (m_N : mg "is_number" = some (.ref fN)) (k_N : PySem.W.keepIn K (.ref fN) = true) (b_N : Binds K fdN ["value"] [])
    (G_A : FnOk P w K mg base CX0 5 fA fdA ["number"] (spAsRatio C)) (m_A : mg "as_ratio" = some (.ref fA)) (k_A : PySem.W.keepIn K (.ref fA) = true) (b_A : Binds K fdA ["number"] [])
    (Me_over : Meth K CF "over" fover) (G_over : FnOk P w K mg base (L2.CX P w) 7 fover fdover ["self", "one", "other"] (spOverI CF CNN)) (b_over : Binds K fdover ["self", "one", "other"] []) :
    FnOk P w K mg base (L2.CX P w) 8 f fd ["self", "value"] (spNum K C CF CNN) := by
  refine F.okX sc_fnum (fun vs H Q E h => ?_) (fun cdv A outer s H vs Q E hr h => ?_)
  · obtain ⟨x, v, p, rfl, _⟩ := h
    rfl
  · obtain ⟨x, y, p, rfl, hx, hg, h⟩ := h
    refine ⟨_, (pss_cons (ps_if (pt_not (pt_val (pe_call G_N (hr.mono (by decide)) rfl m_N k_N b_N .nil pass0 (pa_cons (pv 1) pa_nil))))
        (pss_one (ps_raise rfl (takes_of rfl rfl rfl rfl) (pmk_own0 PySem.F.excBase_ValueError RN.q RN.m RN.k (raises_own RN.ex RN.ty) rfl)))
        pss_nil)
      (pss_cons (ps_if (pt_cmpR op_eq (pe_fld (pv 0) rfl) pe_int (nomark _))
        (pss_one (ps_ret (pe_call G_A (hr.mono (by decide)) rfl m_A k_A b_A .nil pass0 (pa_cons (pv 1) pa_nil))))
        pss_nil)
      (pss_cons (ps_if (pt_val (pe_callB call_isi (by rfl) B.b_isinstance (by decide +kernel) (pa_cons (pv 1) (pa_cons (pe_glob (v := .ref C) rfl m_C rfl) pa_nil))))
        (pss_one (ps_ret (pe_meth (E := E) (pv 0) TF.cl Me_over G_over (hr.mono (by decide)) b_over .nil (passes_call (takes_of rfl rfl rfl rfl) fun _ _ _ _ h => h) (pa_cons (pe_fld (pv 1) rfl) (pa_cons (pe_fld (pv 1) rfl) pa_nil)))))
        pss_nil)
      (pss_one (ps_ret (pe_op op_mod (pv 1) (pe_fld (pv 0) rfl))))))), ?_⟩
    obtain ⟨dx, hx0⟩ := id hx
    rcases h with ⟨⟨t, b, ty, kb, it, e⟩, kE⟩ | ⟨t, u, hy, pu, st, su, k0, kE, kp⟩
    · refine ⟨_, rfl, y, t, b, rfl, ty, kb, it, _, rfl, ?_⟩
      rw [e]
      exact iteT kE
    · obtain ⟨q, b, hq, kb, hi, hbi⟩ := num_is T Y Z hy
      refine ⟨_, rfl, y, q, b, rfl, hq, kb, hi, _, rfl, ?_⟩
      rw [hbi]
      refine iteF ?_
      refine ⟨_, rfl, x, CF, dx, _, _, rfl, hx0, TF.cl, TF.nP, pf_prime _, rfl, _, rfl, ?_⟩
      by_cases p0 : p = 0
      · refine itD (by simpa using p0) ?_
        exact ⟨_, rfl, y, t, u, rfl, hy, st, fun r H1 hr1 s1 => k0 p0 r H1 hr1 s1⟩
      · refine itDn (by simpa using p0) ?_
        rcases hy with ⟨r, rfl, hr1⟩ | ⟨rfl, rfl⟩
        · refine ⟨_, rfl, _, _, _, _, true, rfl, .own C, hr1.ty T Y, kit_self, _, rfl, iteT ?_⟩
          obtain ⟨dr, hr0⟩ := id hr1
          exact ⟨_, rfl, x, dx, _, rfl, hx0, pf_no _ (by decide +kernel), _, rfl, r, C, dr, _, _, rfl, hr0, T.cl, T.nT, rf_top _ _, _, rfl, r, C, dr, _, _, rfl, hr0, T.cl, T.nB, rf_bottom _ _, x, t, u, p, rfl, hx, hg, p0, st, su, kE p0, kp p0⟩
        · refine ⟨_, rfl, _, _, _, _, false, rfl, .own C, .base (.int _), Z.kint, _, rfl, iteF ?_⟩
          obtain ⟨p2, _, _⟩ := goodP_pos hg p0
          refine ⟨_, rfl, _, rfl, x, CF, dx, _, _, rfl, hx0, TF.cl, TF.nP, pf_prime _, _, _, rfl, rfl, (show 0 < p from by omega), ?_⟩
          refine kp p0 ?_ _ H (Int.emod_nonneg _ p0) (Int.emod_lt_of_pos _ (by omega)) ?_ (Same.refl H)
          · rw [Int.emod_eq_of_lt (by decide) (by omega)]
            decide
          · have dm := Int.emod_def t p
            refine ⟨-(t / p), ?_⟩
            rw [dm]
            generalize t / p = e1
            grind
theorem ok_fover {f C CF CN CNN fnum finv frover feq : Addr} {fd fdnum fdinv fdrover fdeq : FuncData} (F : Fun K "over" "Field.over" s_fover f fd) (T : CTx K C) (TF : FTx K CF) (Y : ITy K C) (RN : RNx K mg "NoNumber" CNN)
    (Me_num : Meth K CF "number" fnum) (G_num : FnOk P w K mg base (L2.CX P w) 8 fnum fdnum ["self", "value"] (spNum K C CF CNN)) (b_num : Binds K fdnum ["self", "value"] [])
    (G_inv : FnOk P w K mg base CX0 1 finv fdinv ["number", "prime"] spInv) (m_inv : mg "_inverse" = some (.ref finv)) (k_inv : PySem.W.keepIn K (.ref finv) = true) (b_inv : Binds K fdinv ["number", "prime"] [])
    (Me_rover : Meth K C "over" frover) (G_rover : FnOk P w K mg base (L2.CX P w) 6 frover fdrover ["self", "other"] (spR_over C CN)) (b_rover : Binds K fdrover ["self", "other"] [])
    (O_eq : OwnOp K C feq "__eq__") (nf1 : PySem.W.notFirst K C (.type "int") = true) (G_eq : FnOk P w K mg base CX0 2 feq fdeq ["self", "other"] (spR_eq K C)) (b_eq : Binds K fdeq ["self", "other"] []) :
    FnOk P w K mg base (L2.CX P w) 9 f fd ["self", "one", "other"] (spOver K C CF CNN) := by
  refine F.okX sc_fover (fun vs H Q E h => ?_) (fun cdv A outer s H vs Q E hr h => ?_)
  · obtain ⟨x, a, b, p, rfl, _⟩ := h
    rfl
  · obtain ⟨x, y1, y2, p, rfl, hx, hg, h⟩ := h
    refine ⟨_, (pss_cons (ps_set (i := 3) sc_fover.nd rfl (Or.inl rfl) (pe_meth (E := E) (pv 0) TF.cl Me_num G_num (hr.mono (by decide)) b_num .nil (passes_call (takes_of rfl rfl rfl rfl) fun _ _ _ _ h => h) (pa_cons (pv 1) pa_nil)))
      (pss_cons (ps_set (i := 4) sc_fover.nd rfl (Or.inl rfl) (pe_meth (E := E) (pv 0) TF.cl Me_num G_num (hr.mono (by decide)) b_num .nil (passes_call (takes_of rfl rfl rfl rfl) fun _ _ _ _ h => h) (pa_cons (pv 2) pa_nil)))
      (pss_cons (ps_if (pt_cmpR (op_or op_eq (op_ownEq O_eq G_eq (hr.mono (by decide)) b_eq pass0)) (pv 4) pe_int (nomark _))
        (pss_one (ps_raise rfl (takes_of rfl rfl rfl rfl) (pmk_own0 PySem.F.excBase_ValueError RN.q RN.m RN.k (raises_own RN.ex RN.ty) rfl)))
        pss_nil)
      (pss_cons (ps_if (pt_cmpR op_eq (pe_fld (pv 0) rfl) pe_int (nomark _))
        (pss_one (ps_ret (pe_meth (E := fun _ _ _ => False) (pv 3) T.cl Me_rover G_rover (hr.mono (by decide)) b_rover .nil passL (pa_cons (pv 4) pa_nil))))
        pss_nil)
      (pss_one (ps_ret (pe_op op_mod (pe_op op_mul (pv 3) (pe_call G_inv (hr.mono (by decide)) rfl m_inv k_inv b_inv .nil pass0 (pa_cons (pv 4) (pa_cons (pe_fld (pv 0) rfl) pa_nil)))) (pe_fld (pv 0) rfl)))))))), ?_⟩
    obtain ⟨dx, hx0⟩ := id hx
    have up8 : ∀ {z : Int}, Fit z → z.natAbs < 2 ^ 8000 := fun h => fit_up h
    refine ⟨_, rfl, x, dx, _, rfl, hx0, pf_no _ (by decide +kernel), _, rfl, x, y1, p, rfl, hx, hg, ?_⟩
    rcases h with ⟨b1, kE⟩ | ⟨t, u, hy, pu, st, su, kE, k⟩
    · exact .inl ⟨b1, kE⟩
    · refine .inr ⟨t, u, hy, pu, up8 st, up8 su, fun p0 z H1 hz s1 => ?_, kE, fun p0 up r1 H1 r10 r11 ⟨k1, hk1⟩ s1 => ?_⟩
      · subst p0
        obtain ⟨dz, hz0⟩ := id hz
        refine ⟨_, rfl, x, dx, _, rfl, s1 _ _ hx0, pf_no _ (by decide +kernel), _, rfl, x, y2, 0, rfl, hx.same s1, hg, ?_⟩
        rcases k (fun h => h.1 rfl) with ⟨b2, k2⟩ | ⟨t', u', hy2, pu2, cop, st2, su2, kz, _, _, _⟩
        · exact .inl ⟨b2.same s1, k2 H1 s1⟩
        · refine .inr ⟨t', u', hy2.same s1, pu2, up8 st2, up8 su2, fun _ z2 H2 hz2 s2 => ?_, fun h => absurd rfl h, fun h => absurd rfl h⟩
          obtain ⟨dz2, hz20⟩ := id hz2
          refine ⟨_, rfl, .inr ⟨z2, dz2, _, _, rfl, hz20, .base (.int _), nf1, z2, .int 0, t', u', rfl, hz2, .inr (.inl ⟨0, rfl, _, rfl, ?_⟩)⟩⟩
          by_cases c : t' = 0
          · have u1 : u' = 1 := by
              rw [c] at cop
              simp at cop
              omega
            refine itD (by simp [c, u1]) ?_
            exact (kz rfl).1 c H2 (s1.trans s2)
          · refine itDn (by simp [c]) ?_
            refine ⟨_, rfl, x, CF, dx, _, _, rfl, s2 _ _ (s1 _ _ hx0), TF.cl, TF.nP, pf_prime _, rfl, _, rfl, itD (by simp) ?_⟩
            refine ⟨_, rfl, z, dz, _, rfl, s2 _ _ hz0, rf_no _ _ (by decide +kernel) (by decide +kernel), _, rfl, z, .ref z2, t, u, t', u', rfl, hz.same s2, .inl ⟨z2, rfl, hz2⟩, pu, pu2, st, su, st2, su2, fun h => absurd h c, fun _ z3 T3 U3 H3 L R s3 => ?_⟩
            exact (kz rfl).2 c z3 T3 U3 H3 L R ((s1.trans s2).trans s3)
      · obtain ⟨p2, p3, hp⟩ := goodP_pos hg p0
        refine ⟨_, rfl, x, dx, _, rfl, s1 _ _ hx0, pf_no _ (by decide +kernel), _, rfl, x, y2, p, rfl, hx.same s1, hg, ?_⟩
        rcases k (fun h => up h.2) with ⟨b2, k2⟩ | ⟨t', u', hy2, pu2, cop, st2, su2, _, k3, k4, k5⟩
        · exact .inl ⟨b2.same s1, k2 H1 s1⟩
        · refine .inr ⟨t', u', hy2.same s1, pu2, up8 st2, up8 su2, fun h => absurd h p0, fun _ h => k3 p0 h H1 s1, fun _ up2 r2 H2 r20 r21 ⟨k2, hk2⟩ s2 => ?_⟩
          have zm := zero_mod p2 p3 hp up2 r20 r21 hk2
          refine ⟨_, rfl, .inl ⟨rfl, _, rfl, ?_⟩⟩
          by_cases c : r2 = 0
          · refine itD (by simpa using c) ?_
            exact k4 p0 up2 (zm.mp c) H2 (s1.trans s2)
          · refine itDn (by simpa using c) ?_
            refine ⟨_, rfl, x, CF, dx, _, _, rfl, s2 _ _ (s1 _ _ hx0), TF.cl, TF.nP, pf_prime _, rfl, _, rfl, itDn (by simpa using p0) ?_⟩
            refine ⟨_, rfl, _, rfl, _, rfl, x, CF, dx, _, _, rfl, s2 _ _ (s1 _ _ hx0), TF.cl, TF.nP, pf_prime _, r2, p, rfl, by omega, r21, by omega, gcd_prime p2 p3 hp (by omega) r21, fun r r0 rl ⟨q, hq⟩ H3 s3 => ?_⟩
            refine ⟨_, _, rfl, rfl, .inl ⟨by omega, by omega⟩, _, rfl, x, CF, dx, _, _, rfl, s3 _ _ (s2 _ _ (s1 _ _ hx0)), TF.cl, TF.nP, pf_prime _, _, _, rfl, rfl, (show 0 < p from by omega), ?_⟩
            refine k5 p0 up2 (fun h => c (zm.mpr h)) _ H3 (Int.emod_nonneg _ p0) (Int.emod_lt_of_pos _ (by omega)) ?_ ((s1.trans s2).trans s3)
            have dm := Int.emod_def (r1 * r) p
            generalize r1 * r / p = e1 at *
            refine ⟨r1 * u * q * u' - e1 * u * t' - r1 * r * u * k2 + k1 * u', ?_⟩
            rw [dm]
            grind
end
end Sq

namespace Sq
open PySem L2 PyProof.Rows
abbrev s_lip : Stmt := top 68
abbrev s_lpr : Stmt := top 69
def spLip : Sp := fun vs H Q _ => ∃ n : Nat, vs = [.int (n : Int)] ∧ 2 ≤ n ∧ n < 9974 ∧ Q (.bl (isP n)) H
def spLpr : Sp := fun vs H Q _ => ∃ p, vs = [.ref p] ∧ StAt H p ∧ ∀ m H', goodP m = true → StAt H' p → But p H H' → Q (.int m) H'
theorem StAt.same {H H' : Hp} {p : Addr} (S : StAt H p) (s : Same H H') : StAt H' p := by
  obtain ⟨a, ns, i, l, m, c, h1, h2, r⟩ := S
  exact ⟨a, ns, i, l, m, c, s _ _ h1, s _ _ h2, r⟩
theorem StAt.ne {H : Hp} {p q : Addr} (S : StAt H p) (hq : H q = none) : q ≠ p := by
  obtain ⟨a, ns, i, l, m, c, h1, _⟩ := S
  exact (ne_of_none h1 hq).symm
theorem good_int {n : Nat} (h2 : 2 ≤ n) (hn : n < 9974) (h : isP n = true) : goodP (n : Int) = true := by
  unfold goodP
  have : ((n : Int)).toNat = n := Int.toNat_natCast n
  rw [this, h]
  simp
  omega
theorem small_prime {v : Int} (h0 : 0 ≤ v) (h6 : v < 6) : ∃ m, atI [V.int 2, V.int 3, V.int 5, V.int 7, V.int 11, V.int 13] v = some (.int m) ∧ goodP m = true := by
  have c : v = 0 ∨ v = 1 ∨ v = 2 ∨ v = 3 ∨ v = 4 ∨ v = 5 := by omega
  rcases c with rfl | rfl | rfl | rfl | rfl | rfl <;> exact ⟨_, rfl, by decide +kernel⟩
section
variable {P : Program} {w : World} {K : PySem.W.Frag} {mg : Str → Option Value} {base : Heap}
theorem sc_lip : FnScope ["_law_value", "_law_divisor"] ["_law_value"] (defScope s_lip) := ⟨rfl, rfl, rfl, by decide +kernel, rfl, by decide +kernel, by decide +kernel⟩
theorem ok_lip {f : Addr} {fd : FuncData} (F : Fun K "_law_is_prime" "_law_is_prime" s_lip f fd) (T : DTx mg) : FnOk P w K mg base CX0 1 f fd ["_law_value"] spLip := by
  refine F.ok sc_lip (fun vs H Q E h => ?_) (fun cdv A outer s H vs Q E hr h => ?_)
  · obtain ⟨x, rfl, _⟩ := h
    rfl
  · obtain ⟨n, rfl, h2, hn, k⟩ := h
    refine ⟨_, (pss_cons (ps_for PassesOwn.never rfl (pi_range2 (by rfl) T.b_range (pa_cons pe_int (pa_cons pe_int pa_nil))) (pg_name (i := 1) sc_lip.nd rfl (Or.inl rfl)) (pss_one (ps_if (PW.pt (pw_and (pt_cmpR op_le (pe_op op_mul (pv 1) (pv 1)) (pv 0) (nomark _)) (pw_and1 (pt_cmpR op_eq (pe_op op_mod (pe_callTy call_int1 (by rfl) T.b_int (by decide +kernel) (pa_cons (pv 0) pa_nil)) (pv 1)) pe_int (nomark _)))))
        (pss_one (ps_ret pe_bl))
        pss_nil)))
      (pss_one (ps_ret (pe_cmpR op_gt (pv 0) pe_int (nomark _))))), ?_⟩
    refine ⟨_, _, rfl, by omega, ?_⟩
    refine for_range (lo := 2) (n := 98) (fun i σ H' => ∃ z, σ = [some (.int (n : Int)), z] ∧ H' = H ∧ ∀ d, 2 ≤ d → d < 2 + i → d * d ≤ n → n % d ≠ 0) ⟨none, rfl, rfl, fun d h1 h2 => by omega⟩ ?_ ?_
    · rintro i σ H2 hi ⟨z, rfl, rfl, hd⟩
      have em : ((n : Int) % ((2 : Int) + (i : Int))) = ((n % (2 + i) : Nat) : Int) := by
        rw [Int.natCast_emod]
        rfl
      have eq : ((2 : Int) + (i : Int)) * ((2 : Int) + (i : Int)) = (((2 + i) * (2 + i) : Nat) : Int) := by
        push_cast
        rfl
      refine ⟨_, rfl, _, rfl, _, _, rfl, rfl, .inl ⟨by omega, by omega⟩, _, rfl, _, _, rfl, rfl, _, rfl, ?_⟩
      have next : (n % (2 + i) = 0 → ¬ (2 + i) * (2 + i) ≤ n) → ∀ d, 2 ≤ d → d < 2 + (i + 1) → d * d ≤ n → n % d ≠ 0 := fun h d h1 h2 hs => by
        by_cases e : d = 2 + i
        · subst e
          exact fun q => h q hs
        · exact hd d h1 (by omega) hs
      by_cases c : (2 + i) * (2 + i) ≤ n
      · have hle : ((2 : Int) + (i : Int)) * ((2 : Int) + (i : Int)) ≤ (n : Int) := by
          rw [eq]
          exact Int.ofNat_le.mpr c
        refine itD (decide_eq_true hle) ?_
        refine ⟨_, rfl, .inl ⟨_, rfl, _, rfl, _, _, rfl, rfl, by omega, rfl, _, rfl, ?_⟩⟩
        by_cases e0 : n % (2 + i) = 0
        · refine itD (decide_eq_true (by show V.int ((n : Int) % ((2 : Int) + (i : Int))) = V.int 0; rw [em, e0]; rfl)) ?_
          rw [isP_no (by omega) hn c e0] at k
          exact k
        · refine itDn (fun h => e0 (by have q : ((n : Int) % ((2 : Int) + (i : Int))) = 0 := V.int.inj (of_decide_eq_true h); rw [em] at q; omega)) ?_
          exact ⟨_, rfl, rfl, next fun q => absurd q e0⟩
      · have hle : ¬ ((2 : Int) + (i : Int)) * ((2 : Int) + (i : Int)) ≤ (n : Int) := by
          rw [eq]
          exact fun h => c (Int.ofNat_le.mp h)
        refine itDn (fun h => hle (of_decide_eq_true h)) ?_
        exact ⟨_, rfl, rfl, next fun _ => c⟩
    · rintro σ H2 ⟨z, rfl, rfl, hd⟩
      have e : isP n = true := isP_yes fun d h1 hs => hd d h1 (by have := sq_lt hn hs; omega) hs
      rw [e] at k
      refine ⟨_, rfl, _, _, rfl, rfl, ?_⟩
      show Q (.bl (decide ((1 : Int) < (n : Int)))) H2
      rw [decide_eq_true (by omega)]
      exact k
theorem sc_lpr : FnScope ["_law_state_here", "_law_kind", "_law_value", "_law_step"] ["_law_state_here"] (defScope s_lpr) := ⟨rfl, rfl, rfl, by decide +kernel, rfl, by decide +kernel, by decide +kernel⟩
theorem ok_lpr {f fdraw flip : Addr} {fd fddraw fdlip : FuncData} (F : Fun K "_law_prime" "_law_prime" s_lpr f fd) (T : DTx mg) (G_draw : FnOk P w K mg base CX0 1 fdraw fddraw ["_law_state_here", "_law_many"] spDraw) (m_draw : mg "_law_draw" = some (.ref fdraw)) (k_draw : PySem.W.keepIn K (.ref fdraw) = true) (b_draw : Binds K fddraw ["_law_state_here", "_law_many"] []) (G_lip : FnOk P w K mg base CX0 1 flip fdlip ["_law_value"] spLip) (m_lip : mg "_law_is_prime" = some (.ref flip)) (k_lip : PySem.W.keepIn K (.ref flip) = true) (b_lip : Binds K fdlip ["_law_value"] []) : FnOk P w K mg base CX0 2 f fd ["_law_state_here"] spLpr := by
  refine F.ok sc_lpr (fun vs H Q E h => ?_) (fun cdv A outer s H vs Q E hr h => ?_)
  · obtain ⟨x, rfl, _⟩ := h
    rfl
  · obtain ⟨p, rfl, S0, k⟩ := h
    refine ⟨_, (pss_cons (ps_set (i := 1) sc_lpr.nd rfl (Or.inl rfl) (pe_call G_draw (hr.mono (by decide)) rfl m_draw k_draw b_draw .nil pass0 (pa_cons (pv 0) (pa_cons pe_int pa_nil))))
      (pss_cons (ps_if (pt_cmpR op_lt (pv 1) pe_int (nomark _))
        (pss_one (ps_ret pe_int))
        pss_nil)
      (pss_cons (ps_if (pt_cmpR op_lt (pv 1) pe_int (nomark _))
        (pss_one (ps_ret (pe_ix ix_list (pe_lst (pa_cons pe_int (pa_cons pe_int (pa_cons pe_int (pa_cons pe_int (pa_cons pe_int (pa_cons pe_int pa_nil))))))) (pe_call G_draw (hr.mono (by decide)) rfl m_draw k_draw b_draw .nil pass0 (pa_cons (pv 0) (pa_cons pe_int pa_nil))) (fun _ _ => rfl))))
        pss_nil)
      (pss_cons (ps_set (i := 2) sc_lpr.nd rfl (Or.inl rfl) (pe_op op_add pe_int (pe_call G_draw (hr.mono (by decide)) rfl m_draw k_draw b_draw .nil pass0 (pa_cons (pv 0) (pa_cons pe_int pa_nil)))))
      (pss_cons (ps_for PassesOwn.never rfl (pi_range1 (by rfl) T.b_range (pa_cons pe_int pa_nil)) (pg_name (i := 3) sc_lpr.nd rfl (Or.inl rfl)) (pss_cons (ps_if (pt_val (pe_call G_lip (hr.mono (by decide)) rfl m_lip k_lip b_lip .nil pass0 (pa_cons (pv 2) pa_nil)))
        (pss_one (ps_ret (pv 2)))
        pss_nil)
      (pss_one (ps_set (i := 2) sc_lpr.nd rfl (Or.inl rfl) (pe_op op_sub (pv 2) pe_int)))))
      (pss_one (ps_ret pe_int))))))), ?_⟩
    refine ⟨_, rfl, p, 6, rfl, by decide, by decide, S0, fun kd H1 k0 k6 S1 B1 => ?_⟩
    refine ⟨_, rfl, _, _, rfl, rfl, _, rfl, ite2 (fun c => ?_) (fun c => ?_)⟩
    · exact k 0 H1 (by decide) S1 B1
    · refine ⟨_, rfl, _, _, rfl, rfl, _, rfl, ite2 (fun c => ?_) (fun c => ?_)⟩
      · refine ⟨(by show 6 ≤ sizeLine; decide), fun q hq => ⟨_, rfl, p, 6, rfl, by decide, by decide, S1.same (same_new (Same.refl _) hq), fun v H2 v0 v6 S2 B2 => ?_⟩⟩
        obtain ⟨m, hm, gm⟩ := small_prime v0 v6
        exact ⟨q, _, _, _, rfl, rfl, SqL.of (B2 q _ upd_same (S1.ne hq)), hm, k m H2 gm S2 ((B1.new hq).trans B2)⟩
      · refine ⟨_, rfl, p, 9972, rfl, by decide, by decide, S1, fun v H2 v0 v1 S2 B2 => ⟨_, _, rfl, rfl, ?_⟩⟩
        refine ⟨40, rfl, by decide, by decide, ?_⟩
        refine for_range (lo := 0) (n := 40) (fun i σ H' => ∃ (z : Option V) (n : Nat), σ = [some (.ref p), some (.int kd), some (.int (n : Int)), z] ∧ 2 ≤ n ∧ n < 9974 ∧ H' = H2) ⟨none, (2 + v).toNat, by rw [Int.toNat_of_nonneg (by omega)]; rfl, by omega, by omega, rfl⟩ ?_ ?_
        · rintro i σ H3 hi ⟨z, n, rfl, n2, n9, rfl⟩
          refine ⟨_, rfl, n, rfl, n2, n9, _, rfl, ?_⟩
          cases hp : isP n with
          | true => exact iteT ⟨_, rfl, k n _ (good_int n2 n9 hp) S2 (B1.trans B2)⟩
          | false =>
            refine iteF ⟨_, rfl, _, _, rfl, rfl, ⟨some (.int (0 + (i : Int))), n - 1, ?_, ?_, by omega, rfl⟩⟩
            · have e : ((n - 1 : Nat) : Int) = (n : Int) - 1 := by omega
              rw [e]
              rfl
            · by_cases e : n = 2
              · subst e
                exact absurd hp (by decide +kernel)
              · omega
        · rintro σ H3 ⟨z, n, rfl, n2, n9, rfl⟩
          exact k 2 _ (by decide +kernel) S2 (B1.trans B2)
end
end Sq

namespace Sq
open PySem L2 PyProof.Rows Builtin
section
variable {X : Cx} {CX : CXT} {k : Nat} {f C : Addr} {fd : FuncData} {ps : List Str} {sp : Sp} {E : XK}
/-- a def run one C level deeper -/
theorem run_in1 {pins : List (Addr × Obj)} {σ : L2.St} {H : Hp} {s : Shared} {us : List Value} {vs : List V} {Q : VK} (G : FnOk X.prog X.w X.K X.mg X.base CX k f fd ps sp) (hr : Room (k + 1) X.A) (hb : Binds X.K fd ps []) (hx : Passes CX X E)
    (I : Inv X pins σ H s) (r : Vals vs us) (h : sp vs H Q E) : wpAny (model X.prog X.w) X.A.in1 (call (.ref f) us) (EP X pins σ Q) X.xe s := by
  have e0 : Env0 X.prog X.w X.K X.mg X.base X.A.in1 X.stack s H := by
    have e := I.env0
    exact ⟨e.frames, e.mod, e.bs, e.bsz, e.funs, e.frf, e.hok, e.bare⟩
  have hl := G.len _ _ _ _ h
  have bd := hb s us I.kIn (by rw [List.append_nil, ← r.length]; exact hl)
  rw [List.append_nil] at bd
  refine wpAny_call (codeAny_mono (G.run X.A.in1 X.stack s H ⟨us, []⟩ us vs Q E hr.in1 e0 bd r h) fun q s' hq => ?_)
  cases q with
  | error e => exact hx pins σ H s e s' I hq
  | ok fl =>
    cases fl with
    | ret w =>
      obtain ⟨z, H', I', rz, ez⟩ := I.after hq
      exact ⟨z, H', I', rz, ez⟩
    | next => exact False.elim hq
    | brk => exact False.elim hq
    | cont => exact False.elim hq
/-- a != b, a's class has its own == and object's != -/
def rOwnNe (K : PySem.W.Frag) (C : Addr) (sp : Sp) (E : XK) : R2 := fun x y H Q => ∃ a dx fs t, x = .ref a ∧ H a = some (.ins C dx fs) ∧ TyX K H y t ∧ PySem.W.notFirst K C t = true ∧ sp [x, y] H (fun v H' => ∃ b, v = .bl b ∧ Q (.bl (!b)) H') E
theorem op_ownNe (O : NeOp X.K C f) (G : FnOk X.prog X.w X.K X.mg X.base CX k f fd ps sp) (hr : Room (k + 1) X.A) (hb : Binds X.K fd ps []) (hx : Passes CX X E) : OpR X (compareOp .NotEq) (rOwnNe X.K C sp E) := by
  rintro pins s σ H x y v u Q I rx ry ⟨a, dx, fs, t, rfl, ha, hty, hn, hsp⟩
  cases rx
  obtain ⟨od, J⟩ := inst_at I ha
  obtain ⟨m, hF⟩ := I.fr
  obtain ⟨Pt, KX, hp, _⟩ := kit_of I ry hty
  have Y := I.kIn
  have tb := KX.ty (model X.prog X.w) _ Y hp
  have sub : PySem.W.Looks (model X.prog X.w) s.heap (isInstance (.ref a) (.type "object")) true := J.type.andThen (PySem.W.looks_mroIn Y O.ob)
  have hcall := run_in1 (us := [.ref a, u]) (vs := [.ref a, y]) G hr hb hx I (.cons rfl (.cons ry .nil)) hsp
  have one : wpAny (model X.prog X.w) X.A (tryCompare (.ref a) (cmpInfo .NotEq).2.1 u) (fun r s' => ∃ v, r = some v ∧ EP X pins σ Q v s') X.xe s := by
    unfold tryCompare
    refine wpAny_bind (if_bound Y J O.ne (fun self => PySem.F.slot_object_ne.bind self) ?_)
    refine wpAny_call (codeAny_call_builtin PySem.F.slot_object_ne.plain F.cmpEntry_ne (@PySem.W.check_slot (model X.prog X.w) _ _ s "object.__ne__" "object" "__ne__" (.ref a) [u] [] _ F.cmpKind_ne F.cmpSplit_ne sub (F.cmpArgs_ne _ _) ?_))
    unfold Builtin.«object.__ne__»
    refine wpAny_bind (wpAny_of_eq (a := ((Value.ref a : Value), [u])) (by first | rfl | (simp only [slotArgs]; rfl)) ?_)
    refine wpAny_bind (wpAny_cRoomFor hr.in1.units0 ?_)
    refine wpAny_bind (PySem.W.ifBound_K Y J O.eq O.fn (wpAny_mono hcall (fun r s' hr' => ?_) fun _ _ e => e))
    obtain ⟨z, H', I', rz, b, rfl, q⟩ := hr'
    cases rz
    refine wpAny_bind (wpAny_truthy_bool ?_)
    refine wpAny_pure ?_
    exact wpAny_pure ⟨_, rfl, .bl (!b), H', I', rfl, q⟩
  show wpAny (model X.prog X.w) X.A (richCompare .NotEq (.ref a) u) (EP X pins σ Q) X.xe s
  unfold richCompare
  simp only [oneThing_ref]
  refine wpAny_holding (wpAny_bind (wpAny_cRoomFor hr.units0 ?_))
  refine wpAny_bind (J.type.here (wpAny_bind (tb.here ?_)))
  split
  · rename_i q
    have e : PySem.W.subIn X.K t (.ref C) = some false := by
      rcases Bool.or_eq_true_iff.mp hn with e | e
      · rw [beq_iff_eq.mp e] at q
        simp at q
      · exact beq_iff_eq.mp e
    refine wpAny_bind ((PySem.W.looks_subIn Y e).here ?_)
    simp only [Bool.false_eq_true, if_false]
    refine wpAny_bind (wpAny_mono one (fun r s' z => ?_) fun _ _ e => e)
    obtain ⟨v, rfl, hq⟩ := z
    exact wpAny_pure hq
  · refine wpAny_bind (wpAny_pure ?_)
    simp only [Bool.false_eq_true, if_false]
    refine wpAny_bind (wpAny_mono one (fun r s' z => ?_) fun _ _ e => e)
    obtain ⟨v, rfl, hq⟩ := z
    exact wpAny_pure hq
end
end Sq
namespace Sq
open PySem L2 PyProof.Rows
/-- isinstance(x, Field) of other things -/
def spF_eq (K : PySem.W.Frag) (CF : Addr) : Sp := fun vs H Q _ => ∃ (x : Addr) (y : V) (p : Int), vs = [.ref x, y] ∧ FldAt CF H x p ∧
  ((∃ r p', y = .ref r ∧ FldAt CF H r p' ∧ Q (.bl (decide (p = p'))) H) ∨ (∃ i, y = .int i ∧ Q (.bl false) H))
/-- what the class Field must say for isinstance -/
structure IFy (K : PySem.W.Frag) (C : Addr) : Prop where
  ha : PySem.W.findIn K (.ref C) "__class__" = some (some (.builtin "object.__class__"))
  hn : PySem.W.specialIn K (.builtin "object.__class__") "__get__" = some (some (.builtin "getset_descriptor.__get__"))
  htk : PySem.W.takesIn K (.builtin "object.__class__") = some true
  hm : PySem.W.mroIn K C (.type "object") = some true
  kint : PySem.W.kitOne K (.type "int") (.ref C) = some false
theorem FldAt.ty {K : PySem.W.Frag} {C : Addr} {H : Hp} {x : Addr} {p : Int} (T : FTx K C) (Y : IFy K C) (h : FldAt C H x p) : TyX K H (.ref x) (.ref C) := by
  obtain ⟨dx, h⟩ := h
  exact .base (.ins h T.cl Y.ha Y.hn Y.htk Y.hm)
section
variable {P : Program} {w : World} {K : PySem.W.Frag} {mg : Str → Option Value} {base : Heap}
theorem sc_feq : FnScope ["self", "other"] ["self", "other"] (defScope s_feq) := ⟨rfl, rfl, rfl, by decide +kernel, rfl, by decide +kernel, by decide +kernel⟩
theorem ok_feq {f CF : Addr} {fd : FuncData} (F : Fun K "__eq__" "Field.__eq__" s_feq f fd) (TF : FTx K CF) (Y : IFy K CF) (B : ITx mg) (m_CF : mg "Field" = some (.ref CF)) : FnOk P w K mg base CX0 1 f fd ["self", "other"] (spF_eq K CF) := by
  refine F.ok sc_feq (fun vs H Q E h => ?_) (fun cdv A outer s H vs Q E hr h => ?_)
  · obtain ⟨x, y, p, rfl, _⟩ := h
    rfl
  · obtain ⟨x, y, p, rfl, hx, h⟩ := h
    refine ⟨_, pss_one (ps_ret (pe_and (pe_callB call_isi (by rfl) B.b_isinstance (by decide +kernel) (pa_cons (pv 1) (pa_cons (pe_glob (v := .ref CF) rfl m_CF rfl) pa_nil))) (pe_one (pe_cmpR op_eq (pe_fld (pv 0) rfl) (pe_fld (pv 1) rfl) (nomark _))))), ?_⟩
    obtain ⟨dx, hx0⟩ := id hx
    rcases h with ⟨r, p', rfl, hr1, k⟩ | ⟨i, rfl, k⟩
    · obtain ⟨dr, hr0⟩ := id hr1
      refine ⟨_, rfl, _, _, _, _, true, rfl, .own CF, hr1.ty TF Y, kit_self, _, rfl, iteT ?_⟩
      refine ⟨_, rfl, x, CF, dx, _, _, rfl, hx0, TF.cl, TF.nP, pf_prime _, _, rfl, r, CF, dr, _, _, rfl, hr0, TF.cl, TF.nP, pf_prime _, rfl, ?_⟩
      show Q (.bl (decide (V.int p = V.int p'))) H
      rw [dec_int2]
      exact k
    · exact ⟨_, rfl, _, _, _, _, false, rfl, .own CF, .base (.int _), Y.kint, _, rfl, iteF k⟩
end
end Sq

namespace Sq
open PySem L2 PyProof.Rows
/-! ### an own error that keeps one field of any name -/
def fldAt (F : Str) (y : V) : HO := .xd [(F, y)]
def spFInit (F : Str) (CN : Addr) : Sp := fun vs H Q _ => ∃ (a : Addr) (y : V), vs = [.ref a, y] ∧ H a = some (exo a CN none) ∧ ∀ dx, H dx = none → dx ≠ a → Q .non (upd (upd H dx (exd dx [(F, y)])) a (exo a CN (some dx)))
structure NTxF (K : PySem.W.Frag) (F : Str) (CN fN : Addr) : Prop where
  oex : OexC K CN
  nw : PySem.W.findIn K (.ref CN) F = some none
  iC : PySem.W.findIn K (.ref CN) "__init__" = some (some (.ref fN))
  tI : PySem.W.typeIn K (.ref fN) = some (.type "function")
theorem xd_eqF {F : Str} {H : Hp} {a d CN : Addr} {y : V} (ha : H a = none) (n : d ≠ a) : upd (L2.del (upd (upd (upd H a (exo a CN none)) d (exd d [(F, y)])) a (exo a CN (some d))) a) d (.xd [(F, y)]) = upd H d (.xd [(F, y)]) := by
  funext b
  by_cases h1 : b = d
  · subst h1
    rw [upd_same, upd_same]
  · rw [upd_ne h1, upd_ne h1]
    by_cases h2 : b = a
    · subst h2
      rw [del_same, ha]
    · rw [del_ne h2, upd_ne h2, upd_ne h1, upd_ne h2]
theorem mkO_readF {F : Str} {CN : Addr} {z : V} {H : Hp} {E : XK} (h : ∀ d, H d = none → E (.ref CN) (some d) (upd H d (fldAt F z))) : ∀ a, H a = none → spFInit F CN (.ref a :: ([z] ++ [])) (upd H a (exo a CN none))
    (fun v H2 => v = .non ∧ ∃ (d : Addr) (fs : List (Str × V)), H2 a = some (exo a CN (some d)) ∧ H2 d = some (exd d fs) ∧ H d = none ∧ E (.ref CN) (some d) (upd (L2.del H2 a) d (.xd fs))) (fun _ _ _ => False) := fun a ha => by
  refine ⟨a, _, rfl, upd_same, fun dx h1 h2 => ⟨rfl, dx, [(F, z)], upd_same, ?_, ?_, ?_⟩⟩
  · exact (upd_ne h2).trans upd_same
  · rw [upd_ne h2] at h1
    exact h1
  · rw [upd_ne h2] at h1
    rw [xd_eqF ha h2]
    exact h dx h1
section
variable {P : Program} {w : World} {K : PySem.W.Frag} {mg : Str → Option Value} {base : Heap}
abbrev s_placeInit : Stmt := inClass (top 9) 0
theorem sc_placeInit : FnScope ["self", "place"] ["self", "place"] (defScope s_placeInit) := ⟨rfl, rfl, rfl, by decide +kernel, rfl, by decide +kernel, by decide +kernel⟩
theorem ok_placeInit {f CN fN : Addr} {fd : FuncData} (F : Fun K "__init__" "NoPoly.__init__" s_placeInit f fd) (T : NTxF K "place" CN fN) : FnOk P w K mg base CX0 1 f fd ["self", "place"] (spFInit "place" CN) := by
  refine F.ok sc_placeInit (fun vs H Q E h => ?_) (fun cdv A outer s H vs Q E hr h => ?_)
  · obtain ⟨x, y, rfl, _⟩ := h
    rfl
  · obtain ⟨a, y, rfl, ha, k⟩ := h
    refine ⟨_, pss_one (ps_ost (pv 0) (pv 1)), ?_⟩
    exact ⟨_, rfl, _, rfl, a, CN, rfl, T.oex, T.nw, .inl ⟨ha, fun dx h1 h2 => k dx h1 h2⟩⟩
end
/-! ### numbers of a field -/
/-- v is the number of the field p that is told by the pair (t, u) -/
def FN (C : Addr) (H : Hp) (p : Int) (v : V) (t u : Int) : Prop := (p = 0 ∧ (∃ r, v = .ref r ∧ RatAt C H r t u) ∧ 1 ≤ u ∧ Int.gcd t u = 1) ∨ (p ≠ 0 ∧ v = .int t ∧ u = 1 ∧ 0 ≤ t ∧ t < p)
theorem FN.same {C : Addr} {H H' : Hp} {p t u : Int} {v : V} (s : Same H H') (h : FN C H p v t u) : FN C H' p v t u := by
  rcases h with ⟨p0, ⟨r, e, R⟩, a, b⟩ | h
  · exact .inl ⟨p0, ⟨r, e, R.same s⟩, a, b⟩
  · exact .inr h
theorem FN.num {C : Addr} {H : Hp} {p t u : Int} {v : V} (h : FN C H p v t u) : NumAt C H v t u := by
  rcases h with ⟨p0, ⟨r, e, R⟩, a, b⟩ | ⟨_, e, u1, _⟩
  · exact .inl ⟨r, e, R⟩
  · exact .inr ⟨e, u1⟩
theorem FN.pos {C : Addr} {H : Hp} {p t u : Int} {v : V} (h : FN C H p v t u) : 1 ≤ u := by
  rcases h with ⟨_, _, a, _⟩ | ⟨_, _, u1, _⟩
  · exact a
  · omega
theorem FN.upd {C : Addr} {H : Hp} {p t u : Int} {v : V} {q : Addr} {xs : List V} {o : HO} (hq : H q = some (.lst xs)) (h : FN C H p v t u) : FN C (L2.upd H q o) p v t u := by
  rcases h with ⟨p0, ⟨r, e, dx, R⟩, a, b⟩ | h
  · have n : r ≠ q := fun z => by
      rw [z, hq] at R
      cases R
    exact .inl ⟨p0, ⟨r, e, dx, (upd_ne n).trans R⟩, a, b⟩
  · exact .inr h
structure FNs (C : Addr) (H : Hp) (p : Int) (ys : List V) (prs : List (Int × Int)) : Prop where
  len : ys.length = prs.length
  at_ : ∀ (i : Nat) (y : V) (pr : Int × Int), ys[i]? = some y → prs[i]? = some pr → FN C H p y pr.1 pr.2
theorem FNs.same {C : Addr} {H H' : Hp} {p : Int} {ys : List V} {prs : List (Int × Int)} (s : Same H H') (h : FNs C H p ys prs) : FNs C H' p ys prs := ⟨h.len, fun i y pr a b => (h.at_ i y pr a b).same s⟩
theorem FNs.nil {C : Addr} {H : Hp} {p : Int} : FNs C H p [] [] := ⟨rfl, fun i y pr a _ => by simp at a⟩
theorem get_snoc {α : Type} {l : List α} {x y : α} {i : Nat} (h : (l ++ [x])[i]? = some y) : l[i]? = some y ∨ (i = l.length ∧ y = x) := by
  rw [List.getElem?_append] at h
  split at h
  · exact .inl h
  · by_cases e : i = l.length
    · refine .inr ⟨e, ?_⟩
      rw [e] at h
      simpa using h.symm
    · rw [List.getElem?_eq_none (by simp; omega)] at h
      cases h
theorem get_len {α : Type} {l : List α} {y : α} {i : Nat} (h : l[i]? = some y) : i < l.length := (List.getElem?_eq_some_iff.mp h).1
theorem FNs.snoc {C : Addr} {H : Hp} {p : Int} {ys : List V} {prs : List (Int × Int)} {y : V} {pr : Int × Int} (h : FNs C H p ys prs) (a : FN C H p y pr.1 pr.2) : FNs C H p (ys ++ [y]) (prs ++ [pr]) := by
  refine ⟨by rw [List.length_append, List.length_append, h.len]; rfl, fun i z qr e1 e2 => ?_⟩
  rcases get_snoc e1 with e1 | ⟨i1, rfl⟩
  · rcases get_snoc e2 with e2 | ⟨i2, rfl⟩
    · exact h.at_ i z qr e1 e2
    · have := get_len e1
      have := h.len
      omega
  · rcases get_snoc e2 with e2 | ⟨i2, rfl⟩
    · have := get_len e2
      have := h.len
      omega
    · exact a
theorem FNs.upd {C : Addr} {H : Hp} {p : Int} {ys : List V} {prs : List (Int × Int)} {q : Addr} {xs : List V} {o : HO} (hq : H q = some (.lst xs)) (h : FNs C H p ys prs) : FNs C (L2.upd H q o) p ys prs := ⟨h.len, fun i y pr a b => (h.at_ i y pr a b).upd hq⟩
theorem FNs.take {C : Addr} {H : Hp} {p : Int} {ys : List V} {prs : List (Int × Int)} (h : FNs C H p ys prs) (n : Nat) : FNs C H p (ys.take n) (prs.take n) := by
  refine ⟨by rw [List.length_take, List.length_take, h.len], fun i y pr a b => ?_⟩
  rw [List.getElem?_take] at a b
  split at a
  · rename_i c
    rw [if_pos c] at b
    exact h.at_ i y pr a b
  · cases a
/-- what is given for a number of the field: its pair, or none if it is refused -/
def Giv (K : PySem.W.Frag) (C : Addr) (H : Hp) (p : Int) (v : V) : Option (Int × Int) → Prop
  | none => NmTy K C H v false ∨ ∃ t u, NumAt C H v t u ∧ 1 ≤ u ∧ Fit t ∧ Fit u ∧ p ≠ 0 ∧ u % p = 0
  | some a => ∃ t u, NumAt C H v t u ∧ 1 ≤ u ∧ Fit t ∧ Fit u ∧ (p = 0 → a = (t, u) ∧ Int.gcd t u = 1) ∧ (p ≠ 0 → u % p ≠ 0 ∧ a.2 = 1 ∧ 0 ≤ a.1 ∧ a.1 < p ∧ ∃ k, a.1 * u = t + k * p)
theorem Giv.same {K : PySem.W.Frag} {C : Addr} {H H' : Hp} {p : Int} {v : V} {o : Option (Int × Int)} (s : Same H H') (h : Giv K C H p v o) : Giv K C H' p v o := by
  cases o with
  | none =>
    rcases h with h | ⟨t, u, n, r⟩
    · exact .inl (h.same s)
    · exact .inr ⟨t, u, n.same s, r⟩
  | some a =>
    obtain ⟨t, u, n, r⟩ := h
    exact ⟨t, u, n.same s, r⟩
theorem num_uniq {p r r' t u k k' : Int} (hg : goodP p = true) (p0 : p ≠ 0) (up : u % p ≠ 0) (a0 : 0 ≤ r) (a1 : r < p) (b0 : 0 ≤ r') (b1 : r' < p) (e : r * u = t + k * p) (e' : r' * u = t + k' * p) : r = r' := by
  obtain ⟨p2, p3, hp⟩ := goodP_pos hg p0
  by_cases c : r = r'
  · exact c
  exfalso
  have key : ∀ x y kx ky : Int, 0 ≤ x → x < p → 0 ≤ y → y < p → y < x → x * u = t + kx * p → y * u = t + ky * p → False := by
    intro x y kx ky x0 x1 y0 y1 h ex ey
    have d : p ∣ (x - y) * u := ⟨kx - ky, by rw [Int.sub_mul, ex, ey, Int.mul_sub, Int.mul_comm p kx, Int.mul_comm p ky]; omega⟩
    have g := gcd_prime p2 p3 hp (show 1 ≤ x - y by omega) (by omega)
    have dn : p.natAbs ∣ (x - y).natAbs * u.natAbs := by
      rw [← Int.natAbs_mul]
      exact Int.natAbs_dvd_natAbs.mpr d
    have du : p.natAbs ∣ u.natAbs := Nat.Coprime.dvd_of_dvd_mul_left (show Nat.Coprime p.natAbs (x - y).natAbs from g) dn
    exact up (Int.emod_eq_zero_of_dvd (Int.natAbs_dvd_natAbs.mp du))
  rcases Int.lt_or_gt_of_ne c with h | h
  · exact key r' r k' k b0 b1 a0 a1 h e' e
  · exact key r r' k k' a0 a1 b0 b1 h e e'
def pre : List (Option (Int × Int)) → List (Int × Int)
  | some a :: r => a :: pre r
  | _ => []
theorem pre_app (prs : List (Int × Int)) (r : List (Option (Int × Int))) : pre (prs.map some ++ r) = prs ++ pre r := by
  induction prs with
  | nil => rfl
  | cons a l ih =>
    show a :: pre (l.map some ++ r) = _
    rw [ih]
    rfl
theorem pre_stop {os : List (Option (Int × Int))} {prs : List (Int × Int)} {i : Nat} (h : os.take i = prs.map some) (e : os[i]? = some none) : pre os = prs := by
  have s : os = os.take i ++ os.drop i := (List.take_append_drop i os).symm
  have d : os.drop i = none :: os.drop (i + 1) := by
    have hi := get_len e
    rw [List.drop_eq_getElem_cons hi]
    congr 1
    exact Option.some.inj ((List.getElem?_eq_getElem hi).symm.trans e)
  rw [s, h, d, pre_app]
  show prs ++ [] = prs
  rw [List.append_nil]
theorem pre_all {os : List (Option (Int × Int))} {prs : List (Int × Int)} (h : os = prs.map some) : pre os = prs := by
  have := pre_app prs []
  rw [List.append_nil] at this
  rw [h, this]
  show prs ++ [] = prs
  rw [List.append_nil]
structure Givs (K : PySem.W.Frag) (C : Addr) (H : Hp) (p : Int) (xs : List V) (os : List (Option (Int × Int))) : Prop where
  len : xs.length = os.length
  at_ : ∀ (i : Nat) (x : V) (o : Option (Int × Int)), xs[i]? = some x → os[i]? = some o → Giv K C H p x o
theorem Givs.same {K : PySem.W.Frag} {C : Addr} {H H' : Hp} {p : Int} {xs : List V} {os : List (Option (Int × Int))} (s : Same H H') (h : Givs K C H p xs os) : Givs K C H' p xs os := ⟨h.len, fun i x o a b => (h.at_ i x o a b).same s⟩
end Sq

-- needs HandS.ClsMeth
-- needs HandS.Conv
namespace Sq
open PySem L2 PyProof.Rows
abbrev s_isseq : Stmt := top 16
abbrev s_taken : Stmt := top 29
/-- is it a list or a tuple -/
def IsQ (K : PySem.W.Frag) (H : Hp) (v : V) (b : Bool) : Prop := ∃ t, TyX K H v t ∧ PySem.W.kitAny K t [.type "list", .type "tuple"] = some b
theorem IsQ.same {K : PySem.W.Frag} {H H' : Hp} {v : V} {b : Bool} (s : Same H H') (h : IsQ K H v b) : IsQ K H' v b := by
  obtain ⟨t, ty, k⟩ := h
  exact ⟨t, tyX_same s ty, k⟩
theorem kitQ {K : PySem.W.Frag} {t : Value} {a b : Bool} (h1 : PySem.W.kitOne K t (.type "list") = some a) (h2 : PySem.W.kitOne K t (.type "tuple") = some b) : PySem.W.kitAny K t [.type "list", .type "tuple"] = some (a || b) := by
  unfold PySem.W.kitAny
  rw [h1]
  cases a with
  | true => rfl
  | false =>
    show PySem.W.kitAny K t [.type "tuple"] = _
    unfold PySem.W.kitAny
    rw [h2]
    cases b with
    | true => rfl
    | false => rfl
def LT (H : Hp) (l : Addr) (xs : List V) : Prop := H l = some (.lst xs) ∨ H l = some (.tup xs)
theorem LT.same {H H' : Hp} {l : Addr} {xs : List V} (s : Same H H') (h : LT H l xs) : LT H' l xs := h.imp (s _ _) (s _ _)
theorem LT.isQ {K : PySem.W.Frag} {H : Hp} {l : Addr} {xs : List V} (h : LT H l xs) : IsQ K H (.ref l) true := by
  rcases h with h | h
  · exact ⟨.type "list", .base (.lst h), kitQ (a := true) (b := false) (kit_ty (by decide +kernel)) (kit_ty (by decide +kernel))⟩
  · exact ⟨.type "tuple", .base (.tup h), kitQ (a := false) (b := true) (kit_ty (by decide +kernel)) (kit_ty (by decide +kernel))⟩
theorem IsQ.ty {K : PySem.W.Frag} {H : Hp} {v : V} {T : String} (h : TyX K H v (.type T)) (h1 : PySem.W.kitOne K (.type T) (.type "list") = some false) (h2 : PySem.W.kitOne K (.type T) (.type "tuple") = some false) : IsQ K H v false := ⟨_, h, kitQ (a := false) (b := false) h1 h2⟩
def spSeq (K : PySem.W.Frag) : Sp := fun vs H Q _ => ∃ (v : V) (b : Bool), vs = [v] ∧ IsQ K H v b ∧ ∀ H', Same H H' → Q (.bl b) H'
def spTaken (K : PySem.W.Frag) (C CF : Addr) : Sp := fun vs H Q _ => ∃ (x l : Addr) (p : Int) (xs : List V) (os : List (Option (Int × Int))), vs = [.ref x, .ref l] ∧ FldAt CF H x p ∧ goodP p = true ∧ LT H l xs ∧ xs.length ≤ 200 ∧ Givs K C H p xs os ∧
  ∀ q ys H', Same H H' → H' q = some (.lst ys) → FNs C H' p ys (pre os) → Q (.ref q) H'
structure QTx (mg : Str → Option Value) : Prop where
  b_isinstance : mg "isinstance" = none
  b_list : mg "list" = none
  b_tuple : mg "tuple" = none
  b_len : mg "len" = none
section
variable {P : Program} {w : World} {K : PySem.W.Frag} {mg : Str → Option Value} {base : Heap}
theorem sc_isseq : FnScope ["value"] ["value"] (defScope s_isseq) := ⟨rfl, rfl, rfl, by decide +kernel, rfl, by decide +kernel, by decide +kernel⟩
theorem ok_isseq {f : Addr} {fd : FuncData} (F : Fun K "is_a_sequence" "is_a_sequence" s_isseq f fd) (B : QTx mg) : FnOk P w K mg base CX0 1 f fd ["value"] (spSeq K) := by
  refine F.ok sc_isseq (fun vs H Q E h => ?_) (fun cdv A outer s H vs Q E hr h => ?_)
  · obtain ⟨x, b, rfl, _⟩ := h
    rfl
  · obtain ⟨v, b, rfl, ⟨t, ty, kk⟩, k⟩ := h
    refine ⟨_, pss_one (ps_ret (pe_callB call_isiT (by rfl) B.b_isinstance (by decide +kernel) (pa_cons (pv 0) (pa_cons (pe_tup (pa_cons (pe_bltn (v := .ty "list") (by rfl) B.b_list (by decide +kernel) rfl) (pa_cons (pe_bltn (v := .ty "tuple") (by rfl) B.b_tuple (by decide +kernel) rfl) pa_nil))) pa_nil)))), ?_⟩
    refine ⟨_, rfl, (by show 2 ≤ sizeLine; decide), fun tp htp => ?_⟩
    have s1 : Same H (upd H tp (.tup [.ty "list", .ty "tuple"])) := same_new (Same.refl H) htp
    exact ⟨_, tp, _, t, _, b, rfl, upd_same, .cons (.ty _) (.cons (.ty _) .nil), tyX_same s1 ty, kk, k _ s1⟩
theorem sc_taken : FnScope ["field", "values", "numbers", "value"] ["field", "values"] (defScope s_taken) := ⟨rfl, rfl, rfl, by decide +kernel, rfl, by decide +kernel, by decide +kernel⟩
theorem ok_taken {f C CF CNN fnum : Addr} {fd fdnum : FuncData} (F : Fun K "taken" "taken" s_taken f fd) (TF : FTx K CF) (m_NN : mg "NoNumber" = some (.ref CNN)) (te : PySem.W.exmOne K (.ref CNN) (.ref CNN) = some true)
    (Me_num : Meth K CF "number" fnum) (G_num : FnOk P w K mg base (L2.CX P w) 8 fnum fdnum ["self", "value"] (spNum K C CF CNN)) (b_num : Binds K fdnum ["self", "value"] []) :
    FnOk P w K mg base CX0 9 f fd ["field", "values"] (spTaken K C CF) := by
  refine F.ok sc_taken (fun vs H Q E h => ?_) (fun cdv A outer s H vs Q E hr h => ?_)
  · obtain ⟨x, l, p, xs, os, rfl, _⟩ := h
    rfl
  · obtain ⟨x, l, p, xs, os, rfl, hx, hg, hl, hn, gv, k⟩ := h
    rcases hl with hl | hl
    · refine ⟨_, (pss_cons (ps_set (i := 2) sc_taken.nd rfl (Or.inl rfl) (pe_lst pa_nil))
        (pss_cons (ps_for PassesOwn.never rfl (pi_list (pv 1)) (pg_name (i := 3) sc_taken.nd rfl (Or.inl rfl))
          (pss_one (ps_try_only (tb := fun W => tDrop (tBM K "list" rAppend (tVar 2) (tCons (tMtS CF "number" (spNum K C CF CNN) (WE W) (tVar 0) (tCons (tVar 3) tNil)) tNil))) (Wout := fun _ _ _ _ => False) rfl rfl ⟨rfl, by decide, Or.inl m_NN⟩ takes0
            (fun W pn xe tk _ => pss_one (ps_expr (pe_bm PySem.F.plainAttrs_list PySem.F.slot_list_append PySem.F.type_list_append mt_append (pv 2) (pa_cons (pe_mtS (pv 0) TF.cl Me_num G_num (hr.mono (by decide)) b_num (fun σ => passAt tk σ) (pa_cons (pv 3) pa_nil)) pa_nil))))
            (fun a oe cls d pn hz hf => pss_one (ps_ret (pv 2))))))
        (pss_one (ps_ret (pv 2))))), ?_⟩
      refine ⟨(by show 0 ≤ sizeLine; decide), fun q hq => ?_⟩
      have sq := same_new (o := .lst []) (Same.refl H) hq
      refine ⟨_, rfl, l, rfl, ⟨xs, SqL.of (sq _ _ hl)⟩, ?_⟩
      refine for_list (xs := xs) (tb := fun D => (fun W => tDrop (tBM K "list" rAppend (tVar 2) (tCons (tMtS CF "number" (spNum K C CF CNN) (WE W) (tVar 0) (tCons (tVar 3) tNil)) tNil))) (wOnly K (.ref CNN) (fun a cls d => tRet (tVar 2)) (fun _ _ _ _ => False) D) D) (fun i σ H' => ∃ (v : Option V) (ys : List V) (prs : List (Int × Int)), σ = [some (.ref x), some (.ref l), some (.ref q), v] ∧ Same H H' ∧ H' q = some (.lst ys) ∧ os.take i = prs.map some ∧ FNs C H' p ys prs)
        ⟨none, [], [], rfl, sq, upd_same, rfl, FNs.nil⟩ (fun i σ H' _ h => ?_) ?_ ?_
      · obtain ⟨_, _, _, _, s1, _⟩ := h
        exact SqL.of (s1 _ _ hl)
      · rintro i z σ H2 hi ⟨v, ys, prs, rfl, s2, hq2, ho, fn⟩
        obtain ⟨dx, hx0⟩ := id hx
        have li : i < xs.length := get_len hi
        have lo : i < os.length := by rw [← gv.len]; exact li
        have ly : ys.length = i := by
          have h1 := congrArg List.length ho
          rw [List.length_take, List.length_map] at h1
          rw [fn.len]
          omega
        have ei : os[i]? = some os[i] := List.getElem?_eq_getElem lo
        have g0 := gv.at_ i z _ hi ei
        generalize os[i] = o at *
        refine ⟨_, rfl, .inl ⟨rfl, _, SqL.of hq2⟩, _, rfl, x, dx, _, rfl, s2 _ _ hx0, pf_no _ (by decide +kernel), _, rfl, x, z, p, rfl, hx.same s2, hg, ?_⟩
        have stop : o = none → WE (wOnly K (.ref CNN) (fun a cls d => tRet (tVar 2)) (fun _ _ _ _ => False) { nx := fun σ H' => ∃ (v : Option V) (ys : List V) (prs : List (Int × Int)), σ = [some (.ref x), some (.ref l), some (.ref q), v] ∧ Same H H' ∧ H' q = some (.lst ys) ∧ os.take (i + 1) = prs.map some ∧ FNs C H' p ys prs, rt := Q }) [some (.ref x), some (.ref l), some (.ref q), some z] (.ref CNN) none H2 := fun e => by
          subst e
          refine ⟨true, te, fun _ a ha => ⟨_, rfl, ?_⟩, fun q => Bool.noConfusion q⟩
          exact k q ys _ s2 hq2 (by rw [pre_stop ho ei]; exact fn)
        cases o with
        | none =>
          rcases g0 with g0 | ⟨t, u, n, pu, st, su, p0, um⟩
          · exact .inl ⟨g0.same s2, stop rfl⟩
          · exact .inr ⟨t, u, n.same s2, pu, fit_up st, fit_up su, fun h => absurd h p0, fun _ _ => stop rfl, fun _ h => absurd um h⟩
        | some a =>
          obtain ⟨t, u, n, pu, st, su, h0, hp⟩ := g0
          have ot : os.take (i + 1) = (prs ++ [a]).map some := by
            rw [take_more ei, ho, List.map_append]
            rfl
          have go : ∀ y H3, Same H2 H3 → FN C H3 p y a.1 a.2 → ∃ l' xs' y', V.ref q = .ref l' ∧ [y] = [y'] ∧ H3 l' = some (.lst xs') ∧ xs'.length < sizeLine ∧ (∃ (v : Option V) (ys : List V) (prs : List (Int × Int)), [some (V.ref x), some (.ref l), some (.ref q), some z] = [some (.ref x), some (.ref l), some (.ref q), v] ∧ Same H (upd H3 l' (.lst (xs' ++ [y']))) ∧ (upd H3 l' (.lst (xs' ++ [y']))) q = some (.lst ys) ∧ os.take (i + 1) = prs.map some ∧ FNs C (upd H3 l' (.lst (xs' ++ [y']))) p ys prs) := fun y H3 s3 f => by
            have hq3 := s3 _ _ hq2
            refine ⟨q, ys, y, rfl, rfl, hq3, ?_, some z, ys ++ [y], prs ++ [a], rfl, same_at (s2.trans s3) hq, upd_same, ot, ((fn.same s3).snoc f).upd hq3⟩
            have e : (sizeLine : Nat) = 16777216 := sizeLine_eq
            omega
          refine .inr ⟨t, u, n.same s2, pu, fit_up st, fit_up su, fun p0 r H3 R s3 => ?_, fun p0 up => absurd up (hp p0).1, fun p0 up r H3 r0 r1 ⟨kk, hk⟩ s3 => ?_⟩
          · obtain ⟨rfl, cop⟩ := h0 p0
            exact go (.ref r) H3 s3 (.inl ⟨p0, ⟨r, rfl, R⟩, pu, cop⟩)
          · obtain ⟨_, a2, a0, a1, k2, hk2⟩ := hp p0
            have e := num_uniq hg p0 up r0 r1 a0 a1 hk hk2
            exact go (.int r) H3 s3 (.inr ⟨p0, by rw [e], a2, a0, a1⟩)
      · rintro σ H2 ⟨v, ys, prs, rfl, s2, hq2, ho, fn⟩
        refine ⟨_, rfl, k q ys _ s2 hq2 ?_⟩
        rw [gv.len, List.take_length] at ho
        rw [pre_all ho]
        exact fn
    · refine ⟨_, (pss_cons (ps_set (i := 2) sc_taken.nd rfl (Or.inl rfl) (pe_lst pa_nil))
        (pss_cons (ps_for PassesOwn.never rfl (pi_tup (pv 1)) (pg_name (i := 3) sc_taken.nd rfl (Or.inl rfl))
          (pss_one (ps_try_only (tb := fun W => tDrop (tBM K "list" rAppend (tVar 2) (tCons (tMtS CF "number" (spNum K C CF CNN) (WE W) (tVar 0) (tCons (tVar 3) tNil)) tNil))) (Wout := fun _ _ _ _ => False) rfl rfl ⟨rfl, by decide, Or.inl m_NN⟩ takes0
            (fun W pn xe tk _ => pss_one (ps_expr (pe_bm PySem.F.plainAttrs_list PySem.F.slot_list_append PySem.F.type_list_append mt_append (pv 2) (pa_cons (pe_mtS (pv 0) TF.cl Me_num G_num (hr.mono (by decide)) b_num (fun σ => passAt tk σ) (pa_cons (pv 3) pa_nil)) pa_nil))))
            (fun a oe cls d pn hz hf => pss_one (ps_ret (pv 2))))))
        (pss_one (ps_ret (pv 2))))), ?_⟩
      refine ⟨(by show 0 ≤ sizeLine; decide), fun q hq => ?_⟩
      have sq := same_new (o := .lst []) (Same.refl H) hq
      refine ⟨_, rfl, l, rfl, ⟨xs, SqT.of (sq _ _ hl)⟩, ?_⟩
      refine for_tup (xs := xs) (tb := fun D => (fun W => tDrop (tBM K "list" rAppend (tVar 2) (tCons (tMtS CF "number" (spNum K C CF CNN) (WE W) (tVar 0) (tCons (tVar 3) tNil)) tNil))) (wOnly K (.ref CNN) (fun a cls d => tRet (tVar 2)) (fun _ _ _ _ => False) D) D) (fun i σ H' => ∃ (v : Option V) (ys : List V) (prs : List (Int × Int)), σ = [some (.ref x), some (.ref l), some (.ref q), v] ∧ Same H H' ∧ H' q = some (.lst ys) ∧ os.take i = prs.map some ∧ FNs C H' p ys prs)
        ⟨none, [], [], rfl, sq, upd_same, rfl, FNs.nil⟩ (fun i σ H' _ h => ?_) ?_ ?_
      · obtain ⟨_, _, _, _, s1, _⟩ := h
        exact SqT.of (s1 _ _ hl)
      · rintro i z σ H2 hi ⟨v, ys, prs, rfl, s2, hq2, ho, fn⟩
        obtain ⟨dx, hx0⟩ := id hx
        have li : i < xs.length := get_len hi
        have lo : i < os.length := by rw [← gv.len]; exact li
        have ly : ys.length = i := by
          have h1 := congrArg List.length ho
          rw [List.length_take, List.length_map] at h1
          rw [fn.len]
          omega
        have ei : os[i]? = some os[i] := List.getElem?_eq_getElem lo
        have g0 := gv.at_ i z _ hi ei
        generalize os[i] = o at *
        refine ⟨_, rfl, .inl ⟨rfl, _, SqL.of hq2⟩, _, rfl, x, dx, _, rfl, s2 _ _ hx0, pf_no _ (by decide +kernel), _, rfl, x, z, p, rfl, hx.same s2, hg, ?_⟩
        have stop : o = none → WE (wOnly K (.ref CNN) (fun a cls d => tRet (tVar 2)) (fun _ _ _ _ => False) { nx := fun σ H' => ∃ (v : Option V) (ys : List V) (prs : List (Int × Int)), σ = [some (.ref x), some (.ref l), some (.ref q), v] ∧ Same H H' ∧ H' q = some (.lst ys) ∧ os.take (i + 1) = prs.map some ∧ FNs C H' p ys prs, rt := Q }) [some (.ref x), some (.ref l), some (.ref q), some z] (.ref CNN) none H2 := fun e => by
          subst e
          refine ⟨true, te, fun _ a ha => ⟨_, rfl, ?_⟩, fun q => Bool.noConfusion q⟩
          exact k q ys _ s2 hq2 (by rw [pre_stop ho ei]; exact fn)
        cases o with
        | none =>
          rcases g0 with g0 | ⟨t, u, n, pu, st, su, p0, um⟩
          · exact .inl ⟨g0.same s2, stop rfl⟩
          · exact .inr ⟨t, u, n.same s2, pu, fit_up st, fit_up su, fun h => absurd h p0, fun _ _ => stop rfl, fun _ h => absurd um h⟩
        | some a =>
          obtain ⟨t, u, n, pu, st, su, h0, hp⟩ := g0
          have ot : os.take (i + 1) = (prs ++ [a]).map some := by
            rw [take_more ei, ho, List.map_append]
            rfl
          have go : ∀ y H3, Same H2 H3 → FN C H3 p y a.1 a.2 → ∃ l' xs' y', V.ref q = .ref l' ∧ [y] = [y'] ∧ H3 l' = some (.lst xs') ∧ xs'.length < sizeLine ∧ (∃ (v : Option V) (ys : List V) (prs : List (Int × Int)), [some (V.ref x), some (.ref l), some (.ref q), some z] = [some (.ref x), some (.ref l), some (.ref q), v] ∧ Same H (upd H3 l' (.lst (xs' ++ [y']))) ∧ (upd H3 l' (.lst (xs' ++ [y']))) q = some (.lst ys) ∧ os.take (i + 1) = prs.map some ∧ FNs C (upd H3 l' (.lst (xs' ++ [y']))) p ys prs) := fun y H3 s3 f => by
            have hq3 := s3 _ _ hq2
            refine ⟨q, ys, y, rfl, rfl, hq3, ?_, some z, ys ++ [y], prs ++ [a], rfl, same_at (s2.trans s3) hq, upd_same, ot, ((fn.same s3).snoc f).upd hq3⟩
            have e : (sizeLine : Nat) = 16777216 := sizeLine_eq
            omega
          refine .inr ⟨t, u, n.same s2, pu, fit_up st, fit_up su, fun p0 r H3 R s3 => ?_, fun p0 up => absurd up (hp p0).1, fun p0 up r H3 r0 r1 ⟨kk, hk⟩ s3 => ?_⟩
          · obtain ⟨rfl, cop⟩ := h0 p0
            exact go (.ref r) H3 s3 (.inl ⟨p0, ⟨r, rfl, R⟩, pu, cop⟩)
          · obtain ⟨_, a2, a0, a1, k2, hk2⟩ := hp p0
            have e := num_uniq hg p0 up r0 r1 a0 a1 hk hk2
            exact go (.int r) H3 s3 (.inr ⟨p0, by rw [e], a2, a0, a1⟩)
      · rintro σ H2 ⟨v, ys, prs, rfl, s2, hq2, ho, fn⟩
        refine ⟨_, rfl, k q ys _ s2 hq2 ?_⟩
        rw [gv.len, List.take_length] at ho
        rw [pre_all ho]
        exact fn
end
end Sq

namespace Sq
open PySem L2 PyProof.Rows ClX
abbrev s_row : Stmt := top 46
abbrev s_pinit : Stmt := inClass (top 53) 1
theorem while_go {c : TT} {tb : TS} {D : Ends} {σ : L2.St} {H : Hp} (Pv : L2.St → Hp → Prop) (μ : L2.St → Hp → Nat) (h0 : Pv σ H)
    (hs : ∀ σ H, Pv σ H → c σ H fun b H1 => if b = true then ∃ N : L2.St → Hp → Prop, (∀ σ' H', N σ' H' → ∃ m', m' < μ σ H ∧ m' = μ σ' H' ∧ Pv σ' H') ∧ tb { D with nx := N, ct := N, bk := D.nx } σ H1 else D.nx σ H1) : tWhile c tb D σ H :=
  ⟨fun m σ H => m = μ σ H ∧ Pv σ H, ⟨_, rfl, h0⟩, fun m σ H ⟨e, p⟩ => by
    subst e
    exact hs σ H p⟩
def NotC (K : PySem.W.Frag) (H : Hp) (v : V) (D : Addr) : Prop := ∃ t, TyX K H v t ∧ PySem.W.kitOne K t (.ref D) = some false
theorem NotC.same {K : PySem.W.Frag} {H H' : Hp} {v : V} {D : Addr} (s : Same H H') (h : NotC K H v D) : NotC K H' v D := by
  obtain ⟨t, ty, k⟩ := h
  exact ⟨t, tyX_same s ty, k⟩
/-- what is passed as a row: no sequence, a sequence that is too long, or a row of things -/
inductive RowIn (K : PySem.W.Frag) (C : Addr) (H : Hp) (p : Int) (most : Nat) : V → Option (List (Option (Int × Int))) → Prop where
  | no {v : V} (h : IsQ K H v false) : RowIn K C H p most v none
  | long {l : Addr} {xs : List V} (h : LT H l xs) (n : most < xs.length) : RowIn K C H p most (.ref l) none
  | row {l : Addr} {xs : List V} {os : List (Option (Int × Int))} (h : LT H l xs) (n : xs.length ≤ most) (g : Givs K C H p xs os) : RowIn K C H p most (.ref l) (some os)
def spRow (K : PySem.W.Frag) (C CF CRd CNP : Addr) : Sp := fun vs H Q E => ∃ (x : Addr) (p : Int) (v : V) (o : Option (List (Option (Int × Int)))), vs = [.ref x, v] ∧ FldAt CF H x p ∧ goodP p = true ∧ NotC K H v CRd ∧ RowIn K C H p 100 v o ∧
  (o = none → ∀ H', Same H H' → ∀ d, H' d = none → E (.ref CNP) (some d) (upd H' d (fldAt "place" (.int (-1))))) ∧
  (∀ os, o = some os → (pre os).length < os.length → ∀ H', Same H H' → ∀ d, H' d = none → E (.ref CNP) (some d) (upd H' d (fldAt "place" (.int ((pre os).length : Nat))))) ∧
  (∀ os, o = some os → (pre os).length = os.length → ∀ q ys H', Same H H' → H' q = some (.lst ys) → FNs C H' p ys (pre os) → Q (.ref q) H')
theorem pre_le : ∀ os : List (Option (Int × Int)), (pre os).length ≤ os.length
  | [] => Nat.le_refl _
  | none :: r => Nat.zero_le _
  | some a :: r => Nat.succ_le_succ (pre_le r)
/-- without the zeros at the end -/
def trimP (l : List (Int × Int)) : List (Int × Int) := (l.reverse.dropWhile fun a => a.1 == 0).reverse
theorem trimP_nil : trimP [] = [] := rfl
theorem trimP_zero {l : List (Int × Int)} {a : Int × Int} (h : a.1 = 0) : trimP (l ++ [a]) = trimP l := by
  unfold trimP
  rw [List.reverse_append, List.reverse_cons, List.reverse_nil, List.nil_append, List.singleton_append, List.dropWhile_cons, if_pos (by rw [h]; rfl)]
theorem trimP_keep {l : List (Int × Int)} {a : Int × Int} (h : a.1 ≠ 0) : trimP (l ++ [a]) = l ++ [a] := by
  unfold trimP
  rw [List.reverse_append, List.reverse_cons, List.reverse_nil, List.nil_append, List.singleton_append, List.dropWhile_cons, if_neg (by simpa using h), List.reverse_cons, List.reverse_reverse]
def plf (fx ct : Addr) (n : Int) : List (Str × V) := putF "degree" (.int n) (putF "coefficients" (.ref ct) (putF "field" (.ref fx) []))
theorem plf_field (fx ct : Addr) (n : Int) : (plf fx ct n).lookup ("field" : Str) = some (.ref fx) := by
  unfold plf
  rw [lookup_putF, if_neg (by decide +kernel), lookup_putF, if_neg (by decide +kernel), lookup_putF, if_pos rfl]
theorem plf_coef (fx ct : Addr) (n : Int) : (plf fx ct n).lookup ("coefficients" : Str) = some (.ref ct) := by
  unfold plf
  rw [lookup_putF, if_neg (by decide +kernel), lookup_putF, if_pos rfl]
theorem plf_deg (fx ct : Addr) (n : Int) : (plf fx ct n).lookup ("degree" : Str) = some (.int n) := by
  unfold plf
  rw [lookup_putF, if_pos rfl]
theorem plf_no (fx ct : Addr) (n : Int) {m : Str} (h1 : ¬ m = "degree") (h2 : ¬ m = "coefficients") (h3 : ¬ m = "field") : (plf fx ct n).lookup m = none := by
  unfold plf
  rw [lookup_putF, if_neg h1, lookup_putF, if_neg h2, lookup_putF, if_neg h3]
  rfl
structure PolAt (C CP CF : Addr) (H : Hp) (x : Addr) (p : Int) (prs : List (Int × Int)) (dx fx ct : Addr) (ys : List V) : Prop where
  ob : H x = some (.ins CP dx (plf fx ct ((prs.length : Int) - 1)))
  fl : FldAt CF H fx p
  co : H ct = some (.tup ys)
  nu : FNs C H p ys prs
def Pol (C CP CF : Addr) (H : Hp) (x : Addr) (p : Int) (prs : List (Int × Int)) : Prop := ∃ dx fx ct ys, PolAt C CP CF H x p prs dx fx ct ys
theorem PolAt.same {C CP CF : Addr} {H H' : Hp} {x : Addr} {p : Int} {prs : List (Int × Int)} {dx fx ct : Addr} {ys : List V} (s : Same H H') (h : PolAt C CP CF H x p prs dx fx ct ys) : PolAt C CP CF H' x p prs dx fx ct ys := ⟨s _ _ h.ob, h.fl.same s, s _ _ h.co, h.nu.same s⟩
theorem Pol.same {C CP CF : Addr} {H H' : Hp} {x : Addr} {p : Int} {prs : List (Int × Int)} (s : Same H H') (h : Pol C CP CF H x p prs) : Pol C CP CF H' x p prs := by
  obtain ⟨dx, fx, ct, ys, h⟩ := h
  exact ⟨dx, fx, ct, ys, h.same s⟩
structure PTx (K : PySem.W.Frag) (CP : Addr) : Prop where
  cl : Cls K CP
  nF : NoAttr K CP "field"
  nC : NoAttr K CP "coefficients"
  nD : NoAttr K CP "degree"
/-- y == 0, y a number of the field -/
theorem fn_eq0 {K : PySem.W.Frag} {C : Addr} {H : Hp} {p t u : Int} {y : V} {Q : VK} {E : XK} (nf1 : PySem.W.notFirst K C (.type "int") = true) (h : FN C H p y t u) (k : Q (.bl (decide (t = 0))) H) : rEq y (.int 0) H Q ∨ rOwnEq K C (spR_eq K C) E y (.int 0) H Q := by
  rcases h with ⟨_, ⟨r, rfl, R⟩, pu, cop⟩ | ⟨_, rfl, _, _⟩
  · obtain ⟨dr, hr⟩ := id R
    refine .inr ⟨r, dr, _, _, rfl, hr, .base (.int _), nf1, r, .int 0, t, u, rfl, R, .inr (.inl ⟨0, rfl, ?_⟩)⟩
    have e : decide (u = 1 ∧ t = 0) = decide (t = 0) := by
      by_cases c : t = 0
      · have u1 : u = 1 := by
          rw [c] at cop
          simp at cop
          omega
        rw [decide_eq_true c, decide_eq_true ⟨u1, c⟩]
      · rw [decide_eq_false c, decide_eq_false fun e => c e.2]
    rw [e]
    exact k
  · refine .inl ⟨rfl, ?_⟩
    have e : decide (V.int t = V.int 0) = decide (t = 0) := by
      by_cases c : t = 0
      · rw [decide_eq_true c, c, decide_eq_true rfl]
      · rw [decide_eq_false c, decide_eq_false fun e => c (V.int.inj e)]
    rw [e]
    exact k
theorem take_cut (ys : List V) (n : Nat) : cutV ys none (some ((n : Nat) : Int)) = ys.take n := by
  unfold cutV
  rw [HT.sIx_none, HT.sIx_nat, List.drop_zero, Nat.sub_zero]
  by_cases h : n ≤ ys.length
  · rw [Nat.min_eq_left h]
  · rw [Nat.min_eq_right (by omega), List.take_of_length_le (by simp), List.take_of_length_le (by omega)]
theorem RatAt.but {C D : Addr} {H H' : Hp} {x y dy : Addr} {t u : Int} (hy : H y = some (.ins D dy [])) (b : But y H H') (h : RatAt C H x t u) : RatAt C H' x t u := by
  obtain ⟨dx, h⟩ := h
  refine ⟨dx, b _ _ h fun e => ?_⟩
  rw [e, hy] at h
  have e2 : rfl_ t u = [] := by
    injection (Option.some.inj h) with _ _ e3
    exact e3.symm
  have := rf_top t u
  rw [e2] at this
  cases this
theorem FldAt.but {C D : Addr} {H H' : Hp} {x y dy : Addr} {p : Int} (hy : H y = some (.ins D dy [])) (b : But y H H') (h : FldAt C H x p) : FldAt C H' x p := by
  obtain ⟨dx, h⟩ := h
  refine ⟨dx, b _ _ h fun e => ?_⟩
  rw [e, hy] at h
  have e2 : pfl p = [] := by
    injection (Option.some.inj h) with _ _ e3
    exact e3.symm
  have := pf_prime p
  rw [e2] at this
  cases this
theorem FN.but {C D : Addr} {H H' : Hp} {y dy : Addr} {p t u : Int} {v : V} (hy : H y = some (.ins D dy [])) (b : But y H H') (h : FN C H p v t u) : FN C H' p v t u := by
  rcases h with ⟨p0, ⟨r, e, R⟩, a, c⟩ | h
  · exact .inl ⟨p0, ⟨r, e, R.but hy b⟩, a, c⟩
  · exact .inr h
theorem FNs.but {C D : Addr} {H H' : Hp} {y dy : Addr} {p : Int} {ys : List V} {prs : List (Int × Int)} (hy : H y = some (.ins D dy [])) (b : But y H H') (h : FNs C H p ys prs) : FNs C H' p ys prs := ⟨h.len, fun i z pr e1 e2 => (h.at_ i z pr e1 e2).but hy b⟩
def spPolyInit (K : PySem.W.Frag) (C CP CF CRd CNP : Addr) : Sp := fun vs H Q E => ∃ (y dy x : Addr) (p : Int) (v : V) (o : Option (List (Option (Int × Int)))), vs = [.ref y, .ref x, v] ∧ H y = some (.ins CP dy []) ∧ FldAt CF H x p ∧ goodP p = true ∧ NotC K H v CRd ∧ RowIn K C H p 100 v o ∧
  (o = none → ∀ H', Same H H' → ∀ d, H' d = none → E (.ref CNP) (some d) (upd H' d (fldAt "place" (.int (-1))))) ∧
  (∀ os, o = some os → (pre os).length < os.length → ∀ H', Same H H' → ∀ d, H' d = none → E (.ref CNP) (some d) (upd H' d (fldAt "place" (.int ((pre os).length : Nat))))) ∧
  (∀ os, o = some os → (pre os).length = os.length → ∀ H', But y H H' → Pol C CP CF H' y p (trimP (pre os)) → Q .non H')
section
variable {P : Program} {w : World} {K : PySem.W.Frag} {mg : Str → Option Value} {base : Heap}
theorem sc_row : FnScope ["field", "coefficients", "numbers"] ["field", "coefficients"] (defScope s_row) := ⟨rfl, rfl, rfl, by decide +kernel, rfl, by decide +kernel, by decide +kernel⟩
theorem ok_row {f C CF CP CRd CNP fNP fseq ftaken : Addr} {fd fdNP fdseq fdtaken : FuncData} {mc v100 : Value} (F : Fun K "_row" "_row" s_row f fd) (B : QTx mg) (m_Rd : mg "Ready" = some (.ref CRd)) (m_P : mg "Poly" = some (.ref CP)) (m_NP : mg "NoPoly" = some (.ref CNP))
    (NP : NTxF K "place" CNP fNP) (G_NP : FnOk P w K mg base CX0 1 fNP fdNP ["self", "place"] (spFInit "place" CNP)) (b_NP : Binds K fdNP ["self", "place"] []) (rd : CRead K CP mc) (cv : CVal K CP mc "MOST" (.int 100) v100)
    (G_seq : FnOk P w K mg base CX0 1 fseq fdseq ["value"] (spSeq K)) (m_seq : mg "is_a_sequence" = some (.ref fseq)) (k_seq : PySem.W.keepIn K (.ref fseq) = true) (b_seq : Binds K fdseq ["value"] [])
    (G_taken : FnOk P w K mg base CX0 9 ftaken fdtaken ["field", "values"] (spTaken K C CF)) (m_taken : mg "taken" = some (.ref ftaken)) (k_taken : PySem.W.keepIn K (.ref ftaken) = true) (b_taken : Binds K fdtaken ["field", "values"] []) : FnOk P w K mg base (L2.CX P w) 10 f fd ["field", "coefficients"] (spRow K C CF CRd CNP) := by
  refine F.okX sc_row (fun vs H Q E h => ?_) (fun cdv A outer s H vs Q E hr h => ?_)
  · obtain ⟨x, p, v, o, rfl, _⟩ := h
    rfl
  · obtain ⟨x, p, v, o, rfl, hx, hg, ⟨t, ty, kt⟩, hv, kN, kS, kY⟩ := h
    refine ⟨_, (pss_cons (ps_if (pt_val (pe_callB call_isi (by rfl) B.b_isinstance (by decide +kernel) (pa_cons (pv 1) (pa_cons (pe_glob (v := .ref CRd) rfl m_Rd rfl) pa_nil)))) (pss_one ps_never) pss_nil)
      (pss_cons (ps_if (PW.pt (pw_or (pt_not (pt_val (pe_call G_seq (hr.mono (by decide)) rfl m_seq k_seq b_seq .nil pass0 (pa_cons (pv 1) pa_nil)))) (pw_or1 (pt_cmpR op_gt (pe_callB call_len_seq (by rfl) B.b_len (by decide +kernel) (pa_cons (pv 1) pa_nil)) (pe_cval (pe_glob (v := .ref CP) rfl m_P rfl)) (nomark _))))) (pss_one (ps_raise rfl (takes_of rfl rfl rfl rfl) (pmk_oex NP.oex NP.iC NP.tI G_NP (hr.mono (by decide)) b_NP .nil pass0 rfl m_NP (pa_cons (pe_un un_neg pe_int) pa_nil)))) pss_nil)
      (pss_cons (ps_set (i := 2) sc_row.nd rfl (Or.inl rfl) (pe_call G_taken (hr.mono (by decide)) rfl m_taken k_taken b_taken .nil pass0 (pa_cons (pv 0) (pa_cons (pv 1) pa_nil))))
      (pss_cons (ps_if (pt_cmpR op_lt (pe_callB call_len_seq (by rfl) B.b_len (by decide +kernel) (pa_cons (pv 2) pa_nil)) (pe_callB call_len_seq (by rfl) B.b_len (by decide +kernel) (pa_cons (pv 1) pa_nil)) (nomark _)) (pss_one (ps_raise rfl (takes_of rfl rfl rfl rfl) (pmk_oex NP.oex NP.iC NP.tI G_NP (hr.mono (by decide)) b_NP .nil pass0 rfl m_NP (pa_cons (pe_callB call_len_seq (by rfl) B.b_len (by decide +kernel) (pa_cons (pv 2) pa_nil)) pa_nil)))) pss_nil)
      (pss_one (ps_ret (pv 2))))))), ?_⟩
    refine ⟨_, rfl, _, _, _, _, false, rfl, .own CRd, ty, kt, _, rfl, iteF ?_⟩
    cases hv with
    | no h =>
      refine ⟨_, rfl, v, false, rfl, h, fun H1 s1 => ⟨_, rfl, iteT ?_⟩⟩
      exact ⟨_, rfl, by decide, mkO_readF (kN rfl H1 s1)⟩
    | @long l xs h n =>
      refine ⟨_, rfl, _, true, rfl, h.isQ, fun H1 s1 => ⟨_, rfl, iteF ?_⟩⟩
      have h1 := h.same s1
      refine ⟨_, rfl, l, xs, rfl, h1.imp SqL.of SqT.of, CP, mc, _, _, rfl, rd, cv, _, _, rfl, rfl, _, rfl, ?_⟩
      refine itD (decide_eq_true (by omega)) ?_
      exact ⟨_, rfl, by decide, mkO_readF (kN rfl H1 s1)⟩
    | @row l xs os h n g =>
      refine ⟨_, rfl, _, true, rfl, h.isQ, fun H1 s1 => ⟨_, rfl, iteF ?_⟩⟩
      have h1 := h.same s1
      refine ⟨_, rfl, l, xs, rfl, h1.imp SqL.of SqT.of, CP, mc, _, _, rfl, rd, cv, _, _, rfl, rfl, _, rfl, ?_⟩
      refine itDn (by simp; omega) ?_
      refine ⟨_, rfl, _, rfl, x, l, p, xs, os, rfl, hx.same s1, hg, h1, by omega, g.same s1, fun q ys H2 s2 hq fn => ?_⟩
      have h2 := h1.same s2
      refine ⟨_, rfl, q, ys, rfl, .inl (SqL.of hq), _, rfl, l, xs, rfl, h2.imp SqL.of SqT.of, _, _, rfl, rfl, _, rfl, ?_⟩
      have e1 : ys.length = (pre os).length := fn.len
      have e2 := g.len
      have e3 := pre_le os
      by_cases c : (pre os).length = os.length
      · refine itDn (by simp; omega) ⟨_, rfl, kY os rfl c q ys H2 (s1.trans s2) hq fn⟩
      · refine itD (decide_eq_true (by omega)) ?_
        refine ⟨_, rfl, q, ys, rfl, .inl (SqL.of hq), (by show 1 ≤ 1000; decide), mkO_readF ?_⟩
        rw [e1]
        exact kS os rfl (by omega) H2 (s1.trans s2)
theorem sc_pinit : FnScope ["self", "field", "coefficients", "row", "many"] ["self", "field", "coefficients"] (defScope s_pinit) := ⟨rfl, rfl, rfl, by decide +kernel, rfl, by decide +kernel, by decide +kernel⟩
theorem ok_pinit {f C CF CP CRd CNP frow feq : Addr} {fd fdrow fdeq : FuncData} (F : Fun K "__init__" "Poly.__init__" s_pinit f fd) (B : QTx mg) (TP : PTx K CP)
    (O_eq : OwnOp K C feq "__eq__") (nf1 : PySem.W.notFirst K C (.type "int") = true) (G_eq : FnOk P w K mg base CX0 2 feq fdeq ["self", "other"] (spR_eq K C)) (b_eq : Binds K fdeq ["self", "other"] [])
    (G_row : FnOk P w K mg base (L2.CX P w) 10 frow fdrow ["field", "coefficients"] (spRow K C CF CRd CNP)) (m_row : mg "_row" = some (.ref frow)) (k_row : PySem.W.keepIn K (.ref frow) = true) (b_row : Binds K fdrow ["field", "coefficients"] []) : FnOk P w K mg base (L2.CX P w) 11 f fd ["self", "field", "coefficients"] (spPolyInit K C CP CF CRd CNP) := by
  refine F.okX sc_pinit (fun vs H Q E h => ?_) (fun cdv A outer s H vs Q E hr h => ?_)
  · obtain ⟨y, dy, x, p, v, o, rfl, _⟩ := h
    rfl
  · obtain ⟨y, dy, x, p, v, o, rfl, hy0, hx, hg, hv, ri, kN, kS, kY⟩ := h
    refine ⟨_, (pss_cons (ps_set (i := 3) sc_pinit.nd rfl (Or.inl rfl) (pe_call (E := E) G_row (hr.mono (by decide)) rfl m_row k_row b_row .nil (passes_call (takes_of rfl rfl rfl rfl) fun _ _ _ _ h => h) (pa_cons (pv 1) (pa_cons (pv 2) pa_nil))))
      (pss_cons (ps_set (i := 4) sc_pinit.nd rfl (Or.inl rfl) (pe_callB call_len_seq (by rfl) B.b_len (by decide +kernel) (pa_cons (pv 3) pa_nil)))
      (C8.pss_cut (ps_while (passes_of rfl) (PW.pt (pw_and (pt_cmpR op_gt (pv 4) pe_int (nomark _)) (pw_and1 (pt_cmpR (op_or op_eq (op_ownEq O_eq G_eq (hr.mono (by decide)) b_eq pass0)) (pe_ix ix_list (pv 3) (pe_op op_sub (pv 4) pe_int) (fun _ _ => rfl)) pe_int (nomark _)))))
          (pss_one (ps_set (i := 4) sc_pinit.nd rfl (Or.inl rfl) (pe_op op_sub (pv 4) pe_int))))
      (pss_cons (ps_fld (pv 0) (pv 1) rfl)
      (pss_cons (ps_fld (pv 0) (pe_callTy call_tuple_of (by rfl) B.b_tuple (by decide +kernel) (pa_cons (pe_slice sl_list (pv 3) po_none (po_some (pv 4))) pa_nil)) rfl)
      (pss_one (ps_fld (pv 0) (pe_op op_sub (pv 4) pe_int) rfl))))))), ?_⟩
    refine ⟨_, rfl, _, rfl, x, p, v, o, rfl, hx, hg, hv, ri, kN, kS, fun os eo ec q ys H1 s1 hq fn => ?_⟩
    have hy1 := s1 _ _ hy0
    refine ⟨_, rfl, q, ys, rfl, .inl (SqL.of hq), ?_⟩
    refine ⟨fun σ H' => H' = H1 ∧ ∃ n : Nat, σ = [some (.ref y), some (.ref x), some v, some (.ref q), some (.int (n : Int))] ∧ n ≤ ys.length ∧ (pre os).take n = trimP (pre os), ?_, ?_⟩
    · refine while_go (fun σ H' => H' = H1 ∧ ∃ n : Nat, σ = [some (.ref y), some (.ref x), some v, some (.ref q), some (.int (n : Int))] ∧ n ≤ ys.length ∧ trimP ((pre os).take n) = trimP (pre os)) (fun σ _ => match σ with | [_, _, _, _, some (.int n)] => n.natAbs | _ => 0) ⟨rfl, ys.length, rfl, Nat.le_refl _, by rw [fn.len, List.take_length]⟩ ?_
      · rintro σ H' ⟨rfl, n, rfl, hn, ht⟩
        refine ⟨_, rfl, _, _, rfl, rfl, _, rfl, ?_⟩
        refine ite2 (fun c => ?_) (fun c => ?_)
        · have n0 : 0 < n := by
            have := of_decide_eq_true c
            omega
          have li : n - 1 < ys.length := by omega
          have lp : n - 1 < (pre os).length := by rw [← fn.len]; exact li
          have f := fn.at_ (n - 1) _ _ (List.getElem?_eq_getElem li) (List.getElem?_eq_getElem lp)
          have tk : (pre os).take n = (pre os).take (n - 1) ++ [(pre os)[n - 1]] := by
            have := take_more (List.getElem?_eq_getElem lp)
            rw [show n - 1 + 1 = n by omega] at this
            exact this
          refine ⟨_, rfl, _, rfl, _, _, rfl, rfl, q, ys, _, _, rfl, rfl, SqL.of hq, at_of (j := n - 1) (by omega) (List.getElem?_eq_getElem li), fn_eq0 nf1 f ⟨_, rfl, ?_⟩⟩
          generalize (pre os)[n - 1] = a at *
          by_cases z : a.1 = 0
          · refine itD (decide_eq_true z) ?_
            refine ⟨fun σ' H'' => H'' = H' ∧ σ' = [some (.ref y), some (.ref x), some v, some (.ref q), some (.int (((n - 1 : Nat)) : Int))], fun σ' H'' ⟨e1, e2⟩ => ⟨n - 1, ?_, ?_, e1, n - 1, e2, by omega, ?_⟩, ?_⟩
            · show n - 1 < ((n : Int)).natAbs
              omega
            · rw [e2]
              show n - 1 = (((n - 1 : Nat)) : Int).natAbs
              omega
            · rw [← ht, tk, trimP_zero z]
            · have : ((n : Int) - 1) = ((n - 1 : Nat) : Int) := by omega
              refine ⟨_, rfl, _, _, rfl, rfl, rfl, ?_⟩
              rw [← this]
              rfl
          · refine itDn (by simpa using z) ?_
            exact ⟨rfl, n, rfl, hn, by rw [← ht, tk, trimP_keep z]⟩
        · have n0 : n = 0 := by
            have : ¬ ((n : Int) > 0) := fun e => c (decide_eq_true e)
            omega
          subst n0
          exact ⟨rfl, 0, rfl, hn, by rw [← ht]; rfl⟩
    · rintro σ H' ⟨rfl, n, rfl, hn, ht⟩
      refine ⟨_, rfl, _, rfl, y, CP, dy, [], rfl, hy1, TP.cl, TP.nF, (by show 0 < 1000; decide), ?_⟩
      have bt : But y H (upd H' y (.ins CP dy (putF "field" (.ref x) []))) := (Same.but s1).upd
      have hqy : q ≠ y := fun e => by
        rw [e, hy1] at hq
        cases hq
      refine ⟨_, rfl, _, rfl, _, rfl, q, ys, rfl, SqL.of ((upd_ne hqy).trans hq), fun sl hsl => ?_⟩
      rw [take_cut] at *
      have hy2 : upd H' y (.ins CP dy (putF "field" (.ref x) [])) y = some (.ins CP dy (putF "field" (.ref x) [])) := upd_same
      have b2 : But y H' (upd H' y (.ins CP dy (putF "field" (.ref x) []))) := (But.refl y H').upd
      generalize upd H' y (.ins CP dy (putF "field" (.ref x) [])) = H2 at *
      have n1 : y ≠ sl := ne_of_none hy2 hsl
      have hy3 : upd H2 sl (.lst (ys.take n)) y = some (.ins CP dy (putF "field" (.ref x) [])) := (upd_ne n1).trans hy2
      have b3 : But y H' (upd H2 sl (.lst (ys.take n))) := b2.new hsl
      have hs3 : upd H2 sl (.lst (ys.take n)) sl = some (.lst (ys.take n)) := upd_same
      generalize upd H2 sl (.lst (ys.take n)) = H3 at *
      refine ⟨sl, _, rfl, .inl ⟨SqL.of hs3, fun tp htp => ?_⟩⟩
      have n2 : y ≠ tp := ne_of_none hy3 htp
      have hy4 : upd H3 tp (.tup (ys.take n)) y = some (.ins CP dy (putF "field" (.ref x) [])) := (upd_ne n2).trans hy3
      have b4 : But y H' (upd H3 tp (.tup (ys.take n))) := b3.new htp
      have ht4 : upd H3 tp (.tup (ys.take n)) tp = some (.tup (ys.take n)) := upd_same
      generalize upd H3 tp (.tup (ys.take n)) = H4 at *
      refine ⟨_, rfl, y, CP, dy, _, rfl, hy4, TP.cl, TP.nC, (by show 1 < 1000; decide), ?_⟩
      refine ⟨_, rfl, _, _, rfl, rfl, _, rfl, y, CP, dy, _, rfl, upd_same, TP.cl, TP.nD, (by show 2 < 1000; decide), ?_⟩
      have ln : (trimP (pre os)).length = n := by
        rw [← ht, List.length_take, ← fn.len]
        omega
      have bF := (b4.upd (o := .ins CP dy (putF "coefficients" (.ref tp) (putF "field" (.ref x) [])))).upd (o := .ins CP dy (putF "degree" (.int ((n : Int) - 1)) (putF "coefficients" (.ref tp) (putF "field" (.ref x) []))))
      refine kY os eo ec _ ((Same.but s1).trans bF) ⟨dy, x, tp, ys.take n, ?_, ?_, ?_, ?_⟩
      · rw [ln]
        exact upd_same
      · exact (hx.same s1).but hy1 bF
      · exact (upd_ne n2.symm).trans ((upd_ne n2.symm).trans ht4)
      · rw [← ht]
        exact (fn.take n).but hy1 bF
end
end Sq

namespace Sq
open PySem L2 PyProof.Rows
/-! ### arithmetic of pairs -/
def shr (t u : Int) : Int := if u < 0 then -((Int.gcd t u : Nat) : Int) else ((Int.gcd t u : Nat) : Int)
def lowp (t u : Int) : Int × Int := (t.fdiv (shr t u), u.fdiv (shr t u))
theorem low_lowp (t : Int) {u : Int} (h : u ≠ 0) : Low t u (lowp t u).1 (lowp t u).2 := by
  unfold lowp shr
  by_cases c : u < 0
  · rw [if_pos c]
    exact low_of h (.inr ⟨rfl, c⟩)
  · rw [if_neg c]
    exact low_of h (.inl ⟨rfl, by omega⟩)
theorem low_is {a b t u : Int} (hb : b ≠ 0) (L : Low a b t u) : (t, u) = lowp a b := by
  have := (low_eq hb hb L (low_lowp a hb)).mpr rfl
  rw [this.1, this.2]
def npair (p t u : Int) : Int × Int := if p = 0 then lowp t u else (t % p, 1)
def timesP (p : Int) (a b : Int × Int) : Int × Int := npair p (a.1 * b.1) (a.2 * b.2)
def plusP (p : Int) (a b : Int × Int) : Int × Int := npair p (a.1 * b.2 + b.1 * a.2) (a.2 * b.2)
def horner (p : Int) (x : Int × Int) (prs : List (Int × Int)) : Int × Int := prs.foldr (fun c acc => plusP p (timesP p acc x) c) (0, 1)
def Bd (n : Nat) (a : Int × Int) : Prop := a.1.natAbs < 2 ^ n ∧ a.2.natAbs < 2 ^ n
theorem Bd.le {n m : Nat} {a : Int × Int} (h : Bd n a) (l : n ≤ m) : Bd m a := ⟨Nat.lt_of_lt_of_le h.1 (Nat.pow_le_pow_right (by decide) l), Nat.lt_of_lt_of_le h.2 (Nat.pow_le_pow_right (by decide) l)⟩
theorem Bd.fit {n : Nat} {a : Int × Int} (h : Bd n a) (l : n ≤ 1500) : Fit a.1 ∧ Fit a.2 := h.le l
theorem npair_bd {n : Nat} {t u : Int} (hu : u ≠ 0) (ht : t.natAbs < 2 ^ n) (hv : u.natAbs < 2 ^ n) : Bd n (npair 0 t u) := by
  unfold npair
  rw [if_pos rfl]
  have L := low_lowp t hu
  exact ⟨Nat.lt_of_le_of_lt L.lt ht, Nat.lt_of_le_of_lt L.lu hv⟩
theorem npair_pos {t u : Int} (hu : u ≠ 0) : 1 ≤ (npair 0 t u).2 := by
  unfold npair
  rw [if_pos rfl]
  exact (low_lowp t hu).pos
theorem times_bd {n m : Nat} {a b : Int × Int} (ha : Bd n a) (hb : Bd m b) (pa : 1 ≤ a.2) (pb : 1 ≤ b.2) : Bd (n + m) (timesP 0 a b) := npair_bd (mul_ne (by omega) (by omega)) (wide_lt ha.1 hb.1) (wide_lt ha.2 hb.2)
theorem plus_bd {n m : Nat} {a b : Int × Int} (ha : Bd n a) (hb : Bd m b) (pa : 1 ≤ a.2) (pb : 1 ≤ b.2) : Bd (n + m + 1) (plusP 0 a b) := by
  have h1 : (a.1 * b.2).natAbs < 2 ^ (n + m) := wide_lt ha.1 hb.2
  have h2 : (b.1 * a.2).natAbs < 2 ^ (n + m) := by
    rw [Nat.add_comm]
    exact wide_lt hb.1 ha.2
  refine npair_bd (mul_ne (by omega) (by omega)) ?_ (Nat.lt_of_lt_of_le (wide_lt ha.2 hb.2) (Nat.pow_le_pow_right (by decide) (by omega)))
  rw [Nat.pow_succ]
  omega
/-- a number before it is taken into the field -/
def Raw (C : Addr) (H : Hp) (p : Int) (v : V) (s : Int × Int) : Prop := (p = 0 ∧ FN C H p v s.1 s.2) ∨ (p ≠ 0 ∧ ∃ n, v = .int n ∧ n % p = s.1 ∧ s.2 = 1 ∧ n.natAbs < 2 ^ 60)
theorem Raw.same {C : Addr} {H H' : Hp} {p : Int} {v : V} {a : Int × Int} (s : Same H H') (h : Raw C H p v a) : Raw C H' p v a := h.imp (fun ⟨a, b⟩ => ⟨a, b.same s⟩) id
theorem fit60 {n : Int} (h : n.natAbs < 2 ^ 60) : Fit n := Nat.lt_of_lt_of_le h (Nat.pow_le_pow_right (by decide) (by decide))
def nrm (p i : Int) : Int := if p = 0 then i else i % p
theorem giv_int {K : PySem.W.Frag} {C : Addr} {H : Hp} {p i : Int} (hg : goodP p = true) (h : Fit i) : Giv K C H p (.int i) (some (nrm p i, 1)) := by
  refine ⟨i, 1, .inr ⟨rfl, rfl⟩, by decide, h, fit_one, fun p0 => ⟨by unfold nrm; rw [if_pos p0], Int.gcd_one_right _⟩, fun p0 => ?_⟩
  obtain ⟨p2, _, _⟩ := goodP_pos hg p0
  have e : nrm p i = i % p := if_neg p0
  refine ⟨by rw [Int.emod_eq_of_lt (by decide) (by omega)]; decide, rfl, ?_, ?_, ?_⟩
  · show 0 ≤ nrm p i
    rw [e]
    exact Int.emod_nonneg _ p0
  · show nrm p i < p
    rw [e]
    exact Int.emod_lt_of_pos _ (by omega)
  · show ∃ k, nrm p i * 1 = i + k * p
    rw [e, Int.mul_one]
    refine ⟨-(i / p), ?_⟩
    have := Int.emod_def i p
    rw [this, Int.neg_mul, Int.mul_comm p]
    omega
theorem giv_fn {K : PySem.W.Frag} {C : Addr} {H : Hp} {p t u : Int} {v : V} (hg : goodP p = true) (h : FN C H p v t u) (ht : Fit t) (hu : Fit u) : Giv K C H p v (some (t, u)) := by
  refine ⟨t, u, h.num, h.pos, ht, hu, fun p0 => ?_, fun p0 => ?_⟩
  · rcases h with ⟨_, _, _, c⟩ | ⟨q, _⟩
    · exact ⟨rfl, c⟩
    · exact absurd p0 q
  · rcases h with ⟨q, _⟩ | ⟨_, _, u1, a, b⟩
    · exact absurd q p0
    · obtain ⟨p2, _, _⟩ := goodP_pos hg p0
      refine ⟨by rw [u1, Int.emod_eq_of_lt (by decide) (by omega)]; decide, u1, a, b, 0, ?_⟩
      rw [u1]
      omega
theorem giv_raw {K : PySem.W.Frag} {C : Addr} {H : Hp} {p : Int} {v : V} {a : Int × Int} (hg : goodP p = true) (h : Raw C H p v a) (f : p = 0 → Fit a.1 ∧ Fit a.2) : Giv K C H p v (some a) := by
  rcases h with ⟨p0, h⟩ | ⟨p0, n, rfl, e, e1, b⟩
  · exact giv_fn hg h (f p0).1 (f p0).2
  · have := giv_int (K := K) (C := C) (H := H) hg (fit60 b)
    have e2 : nrm p n = a.1 := by
      unfold nrm
      rw [if_neg p0]
      exact e
    rw [e2] at this
    have e3 : a = (a.1, 1) := by rw [← e1]
    rw [e3]
    exact this
theorem num_go {K : PySem.W.Frag} {C CF CNN x : Addr} {H : Hp} {p : Int} {v : V} {a : Int × Int} {Q : VK} {E : XK} (hx : FldAt CF H x p) (hg : goodP p = true) (gv : Giv K C H p v (some a)) (k : ∀ y H', Same H H' → FN C H' p y a.1 a.2 → Q y H') : spNum K C CF CNN [.ref x, v] H Q E := by
  obtain ⟨t, u, n, pu, st, su, h0, hp⟩ := gv
  refine ⟨x, v, p, rfl, hx, hg, .inr ⟨t, u, n, pu, fit_up st, fit_up su, fun p0 r H3 R s3 => ?_, fun p0 up => absurd up (hp p0).1, fun p0 up r H3 r0 r1 ⟨kk, hk⟩ s3 => ?_⟩⟩
  · obtain ⟨rfl, cop⟩ := h0 p0
    exact k (.ref r) H3 s3 (.inl ⟨p0, ⟨r, rfl, R⟩, pu, cop⟩)
  · obtain ⟨_, a2, a0, a1, k2, hk2⟩ := hp p0
    have e := num_uniq hg p0 up r0 r1 a0 a1 hk hk2
    exact k (.int r) H3 s3 (.inr ⟨p0, by rw [e], a2, a0, a1⟩)
theorem num_no {K : PySem.W.Frag} {C CF CNN x : Addr} {H : Hp} {p : Int} {v : V} {Q : VK} {E : XK} (hx : FldAt CF H x p) (hg : goodP p = true) (gv : Giv K C H p v none) (k : E (.ref CNN) none H) : spNum K C CF CNN [.ref x, v] H Q E := by
  rcases gv with g | ⟨t, u, n, pu, st, su, p0, um⟩
  · exact ⟨x, v, p, rfl, hx, hg, .inl ⟨g, k⟩⟩
  · exact ⟨x, v, p, rfl, hx, hg, .inr ⟨t, u, n, pu, fit_up st, fit_up su, fun h => absurd h p0, fun _ _ => k, fun _ h => absurd um h⟩⟩
theorem prime_lt {p : Int} (hg : goodP p = true) (p0 : p ≠ 0) : 2 ≤ p ∧ p ≤ 9973 := ⟨(goodP_pos hg p0).1, (goodP_pos hg p0).2.1⟩
theorem mul_lt60 {p a b : Int} (hg : goodP p = true) (p0 : p ≠ 0) (a0 : 0 ≤ a) (a1 : a < p) (b0 : 0 ≤ b) (b1 : b < p) : 0 ≤ a * b ∧ a * b < 100000000 := by
  have := prime_lt hg p0
  refine ⟨Int.mul_nonneg a0 b0, ?_⟩
  have h1 : a * b ≤ 9973 * b := Int.mul_le_mul_of_nonneg_right (by omega) b0
  omega
/-- a * b of two numbers of the field -/
theorem mul_fn {C : Addr} {H : Hp} {p : Int} {v w : V} {a b : Int × Int} {Q : VK} {E : XK} (hg : goodP p = true) (ha : FN C H p v a.1 a.2) (hb : FN C H p w b.1 b.2) (f : p = 0 → (Fit a.1 ∧ Fit a.2) ∧ (Fit b.1 ∧ Fit b.2))
    (k : ∀ y H', Same H H' → Raw C H' p y (timesP p a b) → (p ≠ 0 → ∀ n, y = .int n → n.natAbs < 2 ^ 50) → Q y H') : (rI CMul fun i j => .int (i * j)) v w H Q ∨ rOwn2 C (spR_mul C) E v w H Q := by
  rcases ha with ⟨p0, ⟨r, rfl, R⟩, pu, cop⟩ | ⟨p0, rfl, a2, a0, a1⟩
  · rcases hb with ⟨_, ⟨r', rfl, R'⟩, pu', cop'⟩ | ⟨q, _⟩
    · obtain ⟨d, hr⟩ := id R
      obtain ⟨d', hr'⟩ := id R'
      obtain ⟨⟨f1, f2⟩, f3, f4⟩ := f p0
      refine .inr ⟨r, r', d, d', _, _, rfl, rfl, hr, hr', r, .ref r', a.1, a.2, b.1, b.2, rfl, R, .inl ⟨r', rfl, R'⟩, pu, pu', f1, f2, f3, f4, fun z T U H' L Rz s => ?_⟩
      have e : (T, U) = timesP p a b := by
        unfold timesP npair
        rw [if_pos p0]
        exact low_is (mul_ne (by omega) (by omega)) L
      refine k _ _ s (.inl ⟨p0, ?_⟩) (fun h => absurd p0 h)
      rw [← e]
      exact .inl ⟨p0, ⟨z, rfl, Rz⟩, L.pos, L.cop⟩
    · exact absurd p0 q
  · rcases hb with ⟨q, _⟩ | ⟨_, rfl, b2, b0, b1⟩
    · exact absurd q p0
    · have m := mul_lt60 hg p0 a0 a1 b0 b1
      have := prime_lt hg p0
      refine .inl ⟨_, _, rfl, rfl, .inl ⟨by omega, by omega⟩, k _ _ (Same.refl H) (.inr ⟨p0, _, rfl, ?_, ?_, by omega⟩) (fun _ n e => by rw [← V.int.inj e]; omega)⟩
      · unfold timesP npair
        rw [if_neg p0]
      · unfold timesP npair
        rw [if_neg p0]
/-- a raw number + a number of the field -/
theorem add_fn {C : Addr} {H : Hp} {p : Int} {v w : V} {a b : Int × Int} {Q : VK} {E : XK} (hg : goodP p = true) (hv : Raw C H p v a) (hb : FN C H p w b.1 b.2) (sm : p ≠ 0 → ∀ n, v = .int n → n.natAbs < 2 ^ 50) (f : p = 0 → (Fit a.1 ∧ Fit a.2) ∧ (Fit b.1 ∧ Fit b.2))
    (k : ∀ y H', Same H H' → Raw C H' p y (plusP p a b) → Q y H') : (rI0 fun i j => .int (i + j)) v w H Q ∨ rOwn2 C (spR_add C) E v w H Q := by
  rcases hv with ⟨p0, ha⟩ | ⟨p0, n, rfl, e, e1, sb⟩
  · rcases ha with ⟨_, ⟨r, rfl, R⟩, pu, cop⟩ | ⟨q, _⟩
    · rcases hb with ⟨_, ⟨r', rfl, R'⟩, pu', cop'⟩ | ⟨q, _⟩
      · obtain ⟨d, hr⟩ := id R
        obtain ⟨d', hr'⟩ := id R'
        obtain ⟨⟨f1, f2⟩, f3, f4⟩ := f p0
        refine .inr ⟨r, r', d, d', _, _, rfl, rfl, hr, hr', r, .ref r', a.1, a.2, b.1, b.2, rfl, R, .inl ⟨r', rfl, R'⟩, pu, pu', f1, f2, f3, f4, fun z T U H' L Rz s => ?_⟩
        have e : (T, U) = plusP p a b := by
          unfold plusP npair
          rw [if_pos p0]
          exact low_is (mul_ne (by omega) (by omega)) L
        refine k _ _ s (.inl ⟨p0, ?_⟩)
        rw [← e]
        exact .inl ⟨p0, ⟨z, rfl, Rz⟩, L.pos, L.cop⟩
      · exact absurd p0 q
    · exact absurd p0 q
  · rcases hb with ⟨q, _⟩ | ⟨_, rfl, b2, b0, b1⟩
    · exact absurd q p0
    · have := prime_lt hg p0
      have s50 := sm p0 n rfl
      refine .inl ⟨_, _, rfl, rfl, k _ _ (Same.refl H) (.inr ⟨p0, _, rfl, ?_, ?_, ?_⟩)⟩
      · unfold plusP npair
        rw [if_neg p0, e1, b2, Int.mul_one, Int.mul_one]
        show (n + b.1) % p = (a.1 + b.1) % p
        rw [← e, Int.emod_add_emod]
      · unfold plusP npair
        rw [if_neg p0]
      · omega
end Sq

namespace Sq
open PySem L2 PyProof.Rows
abbrev s_pair : Stmt := top 65
/-- the law's pairs and rows of pairs -/
def PairAt (H : Hp) (q : Addr) (a : Int × Int) : Prop := H q = some (.tup [.int a.1, .int a.2])
theorem PairAt.same {H H' : Hp} {q : Addr} {a : Int × Int} (s : Same H H') (h : PairAt H q a) : PairAt H' q a := s _ _ h
def spPair : Sp := fun vs H Q _ => ∃ p t u : Int, vs = [.int p, .int t, .int u] ∧ goodP p = true ∧ (p ≠ 0 → u = 1) ∧ u ≠ 0 ∧ u.natAbs < 2 ^ 8000 ∧ ∀ q H', Same H H' → PairAt H' q (npair p t u) → Q (.ref q) H'
/-- what a pair of the law keeps -/
def PB (p : Int) (a : Int × Int) : Prop := 1 ≤ a.2 ∧ (p ≠ 0 → a.2 = 1) ∧ Bd 1450 a
def spPlus : Sp := fun vs H Q _ => ∃ (p : Int) (q1 q2 : Addr) (a b : Int × Int), vs = [.int p, .ref q1, .ref q2] ∧ goodP p = true ∧ PairAt H q1 a ∧ PairAt H q2 b ∧ PB p a ∧ PB p b ∧ ∀ q H', Same H H' → PairAt H' q (plusP p a b) → Q (.ref q) H'
def spTimes : Sp := fun vs H Q _ => ∃ (p : Int) (q1 q2 : Addr) (a b : Int × Int), vs = [.int p, .ref q1, .ref q2] ∧ goodP p = true ∧ PairAt H q1 a ∧ PairAt H q2 b ∧ PB p a ∧ PB p b ∧ ∀ q H', Same H H' → PairAt H' q (timesP p a b) → Q (.ref q) H'
theorem pm {x y : Int} (h : x.natAbs < 2 ^ 1450) (h' : y.natAbs < 2 ^ 1450) : CMulW x y := mul_ok (Nat.lt_of_lt_of_le h (Nat.pow_le_pow_right (by decide) (by decide))) (Nat.lt_of_lt_of_le h' (Nat.pow_le_pow_right (by decide) (by decide)))
theorem pm8 {x y : Int} (h : x.natAbs < 2 ^ 1450) (h' : y.natAbs < 2 ^ 1450) : (x * y).natAbs < 2 ^ 8000 := Nat.lt_of_lt_of_le (wide_lt h h') (Nat.pow_le_pow_right (by decide) (by decide))
section
variable {P : Program} {w : World} {K : PySem.W.Frag} {mg : Str → Option Value} {base : Heap}
theorem sc_pair : FnScope ["_law_prime_here", "_law_top", "_law_bottom", "_law_shared"] ["_law_prime_here", "_law_top", "_law_bottom"] (defScope s_pair) := ⟨rfl, rfl, rfl, by decide +kernel, rfl, by decide +kernel, by decide +kernel⟩
theorem ok_pair {f fgcd : Addr} {fd fdgcd : FuncData} (F : Fun K "_law_pair" "_law_pair" s_pair f fd) (D : DTx mg) (G_gcd : FnOk P w K mg base CX0 1 fgcd fdgcd ["_law_one", "_law_other"] spGcd) (m_gcd : mg "_law_gcd" = some (.ref fgcd)) (k_gcd : PySem.W.keepIn K (.ref fgcd) = true) (b_gcd : Binds K fdgcd ["_law_one", "_law_other"] []) : FnOk P w K mg base CX0 2 f fd ["_law_prime_here", "_law_top", "_law_bottom"] spPair := by
  refine F.ok sc_pair (fun vs H Q E h => ?_) (fun cdv A outer s H vs Q E hr h => ?_)
  · obtain ⟨p, t, u, rfl, _⟩ := h
    rfl
  · obtain ⟨p, t, u, rfl, hg, h1, u0, su, k⟩ := h
    refine ⟨_, (pss_cons (ps_if (pt_cmpR op_gt (pv 0) pe_int (nomark _))
        (pss_cons (ps_if (pt_cmpR op_eq (pv 2) pe_int (nomark _)) (pss_one (ps_ret (pe_tup (pa_cons (pe_op op_mod (pe_callTy call_int1 (by rfl) D.b_int (by decide +kernel) (pa_cons (pv 1) pa_nil)) (pv 0)) (pa_cons pe_int pa_nil))))) pss_nil)
        (pss_one ps_never)) pss_nil)
      (pss_cons (ps_set (i := 3) sc_pair.nd rfl (Or.inl rfl) (pe_call G_gcd (hr.mono (by decide)) rfl m_gcd k_gcd b_gcd .nil pass0 (pa_cons (pv 1) (pa_cons (pv 2) pa_nil))))
      (C8.pss_cut (ps_if (pt_cmpR op_lt (pv 2) pe_int (nomark _)) (pss_one (ps_set (i := 3) sc_pair.nd rfl (Or.inl rfl) (pe_un un_neg (pv 3)))) pss_nil)
      (pss_one (ps_ret (pe_tup (pa_cons (pe_op op_fdivZ (pv 1) (pv 3)) (pa_cons (pe_op op_fdivZ (pv 2) (pv 3)) pa_nil)))))))), ?_⟩
    refine ⟨_, rfl, _, _, rfl, rfl, _, rfl, ?_⟩
    by_cases p0 : p = 0
    · refine itDn (by simp [p0]) ?_
      refine ⟨_, rfl, _, rfl, t, u, rfl, ?_⟩
      refine ⟨fun σ H' => σ = [some (.int p), some (.int t), some (.int u), some (.int (shr t u))] ∧ H' = H, ?_, ?_⟩
      · refine ⟨_, rfl, _, _, rfl, rfl, _, rfl, ?_⟩
        unfold shr
        by_cases c : u < 0
        · rw [if_pos c]
          exact itD (decide_eq_true c) ⟨_, rfl, _, rfl, rfl, rfl⟩
        · rw [if_neg c]
          exact itDn (by simpa using c) ⟨rfl, rfl⟩
      · rintro σ H' ⟨rfl, rfl⟩
        have gp : 0 < Int.gcd t u := Int.gcd_pos_of_ne_zero_right t u0
        have gl : Int.gcd t u ≤ u.natAbs := Nat.le_of_dvd (by omega) (Int.gcd_dvd_natAbs_right ..)
        have cz : ∀ i, CDivZ i (shr t u) := fun i => by
          unfold shr
          split
          · exact ⟨by omega, by omega⟩
          · exact ⟨by omega, by omega⟩
        refine ⟨_, rfl, _, rfl, _, _, rfl, rfl, cz _, _, rfl, _, rfl, _, _, rfl, rfl, cz _, (by show 2 ≤ sizeLine; decide), fun q hq => ?_⟩
        refine k q _ (same_new (Same.refl _) hq) ?_
        unfold npair
        rw [if_pos p0]
        exact upd_same
    · have p2 := prime_lt hg p0
      have e1 := h1 p0
      subst e1
      refine itD (by simp; omega) ⟨_, rfl, rfl, _, rfl, iteT ?_⟩
      refine ⟨_, rfl, .inl ⟨_, rfl, _, rfl, _, _, rfl, rfl, (show 0 < p by omega), (by show 2 ≤ sizeLine; decide), fun q hq => ?_⟩⟩
      refine k q _ (same_new (Same.refl _) hq) ?_
      unfold npair
      rw [if_neg p0]
      exact upd_same
end
end Sq

namespace Sq
open PySem L2 PyProof.Rows
theorem ix_ok {n : Nat} {i : Int} (h0 : 0 ≤ i) (h1 : i < n) : ixN n i = some i.toNat := by
  unfold ixN
  rw [if_pos h0, if_pos h1]
end Sq

-- needs HandS.Gcd
namespace Sq
open PySem L2 PyProof.Rows
abbrev s_whole : Stmt := top 30
/-- math.lcm -/
def rLcm : List V → Hp → VK → Prop := fun vs H Q => ∃ a b : Int, vs = [.int a, .int b] ∧ a.natAbs < 2 ^ 6000 ∧ b.natAbs < 2 ^ 6000 ∧ Q (.int ((Nat.lcm a.natAbs b.natAbs : Nat) : Int)) H
theorem log_le {n k : Nat} (h : n < 2 ^ (k + 1)) : n.log2 ≤ k := PySem.W.mg_log h
theorem lcm_lt {a b : Nat} (ha : a < 2 ^ 6000) (hb : b < 2 ^ 6000) : Nat.lcm a b < 2 ^ 12001 := by
  have h1 : Nat.lcm a b ≤ a * b := Nat.div_le_self _ _
  have h2 : a * b ≤ 2 ^ 6000 * 2 ^ 6000 := Nat.mul_le_mul (Nat.le_of_lt ha) (Nat.le_of_lt hb)
  rw [← Nat.pow_add] at h2
  exact Nat.lt_of_le_of_lt (Nat.le_trans h1 h2) (Nat.pow_lt_pow_right (by decide) (by decide))
theorem cr_lcm {X : Cx} : CallR X (.builtin "math.lcm") rLcm := by
  intro pins s σ H vs us Q I r h
  obtain ⟨a, b, rfl, ha, hb, q⟩ := h
  obtain ⟨t, u, rfl⟩ := Vals.int2 r
  have one : Nat.lcm 1 a.natAbs = a.natAbs := Nat.lcm_one_left _
  have e1 : max 1 a.natAbs < 2 ^ (5999 + 1) := by
    have : 1 < 2 ^ 6000 := Nat.one_lt_two_pow (by decide)
    omega
  have e2 : max a.natAbs b.natAbs < 2 ^ (5999 + 1) := by omega
  have l1 := log_le e1
  have l2 := log_le e2
  have sz : ((((Nat.lcm 1 a.natAbs).lcm b.natAbs : Nat) : Int)).natAbs.log2 < bitsLine := by
    rw [one, Int.natAbs_natCast]
    have := log_le (k := 12000) (lcm_lt ha hb)
    exact Nat.lt_of_le_of_lt this (by decide +kernel)
  have g := PySem.W.mg_run_lcm a t b u (by omega) (by omega) sz
  rw [one] at g
  exact PySem.call_function_meets PySem.W.MGF.kind_lcm PySem.W.MGF.plain_lcm PySem.W.MGF.entry_lcm (PySem.W.MGF.args_lcm _ _) g.meets ⟨.int _, H, I.tok _, ⟨_, rfl⟩, q⟩

/-- integers and a bottom that stand for a row of numbers -/
structure WholeAt (p : Int) (prs : List (Int × Int)) (ns : List Int) (b : Int) : Prop where
  pos : 1 ≤ b
  len : ns.length = prs.length
  at_ : ∀ (i : Nat) n a, ns[i]? = some n → prs[i]? = some a → n * a.2 = a.1 * b
  mod : p ≠ 0 → b = 1
def spWhole (C CF : Addr) : Sp := fun vs H Q _ => ∃ (x t : Addr) (p : Int) (ys : List V) (prs : List (Int × Int)) (D : Nat), vs = [.ref x, .ref t] ∧ FldAt CF H x p ∧ goodP p = true ∧ H t = some (.tup ys) ∧ FNs C H p ys prs ∧ ys.length ≤ 1000 ∧ 1 ≤ D ∧ D < 2 ^ 5000 ∧ (p = 0 → ∀ a ∈ prs, a.2 ∣ (D : Int) ∧ a.1.natAbs < 2 ^ 6000) ∧
  ∀ q l ns b H', Same H H' → H' q = some (.tup [.ref l, .int b]) → H' l = some (.lst (ns.map V.int)) → WholeAt p prs ns b → b ∣ (D : Int) → Q (.ref q) H'
theorem fns_ints {C : Addr} {H : Hp} {p : Int} {ys : List V} {prs : List (Int × Int)} (p0 : p ≠ 0) (f : FNs C H p ys prs) : ys = (prs.map (·.1)).map V.int := by
  refine List.ext_getElem? fun i => ?_
  rw [List.getElem?_map, List.getElem?_map]
  by_cases k : i < prs.length
  · have k2 : i < ys.length := by rw [f.len]; exact k
    rw [List.getElem?_eq_getElem k, List.getElem?_eq_getElem k2]
    rcases f.at_ i _ _ (List.getElem?_eq_getElem k2) (List.getElem?_eq_getElem k) with ⟨z, _⟩ | ⟨_, e, _⟩
    · exact absurd z p0
    · rw [e]
      rfl
  · rw [List.getElem?_eq_none (by rw [f.len]; omega), List.getElem?_eq_none (by omega)]
    rfl
section
variable {P : Program} {w : World} {K : PySem.W.Frag} {mg : Str → Option Value} {base : Heap}
theorem sc_whole : FnScope ["field", "numbers", "bottom", "number"] ["field", "numbers"] (defScope s_whole) := ⟨rfl, rfl, rfl, by decide +kernel, rfl, by decide +kernel, by decide +kernel⟩
theorem ok_whole {f C CF : Addr} {fd : FuncData} (F : Fun K "whole" "whole" s_whole f fd) (B : QTx mg) (T : CTx K C) (TF : FTx K CF) (g_lcm : mg "lcm" = some (.builtin "math.lcm")) : FnOk P w K mg base CX0 1 f fd ["field", "numbers"] (spWhole C CF) := by
  refine F.ok sc_whole (fun vs H Q E h => ?_) (fun cdv A outer s H vs Q E hr h => ?_)
  · obtain ⟨x, t, p, ys, prs, D, rfl, _⟩ := h
    rfl
  · obtain ⟨x, t, p, ys, prs, D, rfl, hx, hg, ht, fn, n1000, D1, D2, bd, k⟩ := h
    refine ⟨_, (pss_cons (ps_if (pt_cmpR op_ne (pe_fld (pv 0) rfl) pe_int (nomark _))
        (pss_one (ps_ret (pe_tup (pa_cons (pe_callTy call_list_of (by rfl) B.b_list (by decide +kernel) (pa_cons (pv 1) pa_nil)) (pa_cons pe_int pa_nil)))))
        pss_nil)
      (pss_cons (ps_set (i := 2) sc_whole.nd rfl (Or.inr rfl) pe_int)
      (pss_cons (ps_for PassesOwn.never rfl (pi_tup (pv 1)) (pg_name (i := 3) sc_whole.nd rfl (Or.inl rfl)) (pss_one (ps_set (i := 2) sc_whole.nd rfl (Or.inr rfl) (pe_callBfun cr_lcm (by rfl) g_lcm (pa_cons (pv 2) (pa_cons (show PE _ _ (tFld K (tVar 3) "bottom") from pe_fld (pv 3) (by rfl)) pa_nil))))))
      (pss_one (ps_ret (pe_tup (pa_cons (pe_lc (own := [("number", 3)]) (g := gName 3) (tt := tYes) rfl sc_whole.nd (pi_tup (pv 1)) (blkOk_by (N := ["field", "numbers", "bottom", "number"]) (sc := defScope s_whole) (by decide +kernel)) (fun _ _ _ _ _ => pg_name (i := 3) sc_whole.nd rfl (Or.inl rfl)) (fun _ _ _ _ _ => pts_nil) (fun _ _ _ _ _ => (pe_op op_mulW (show PE _ _ (tFld K (tVar 3) "top") from pe_fld (pv 3) (by rfl)) (pe_op op_fdivZ (pv 2) (show PE _ _ (tFld K (tVar 3) "bottom") from pe_fld (pv 3) (by rfl)))))) (pa_cons (pv 2) pa_nil)))))))), ?_⟩
    have e24 : (sizeLine : Nat) = 16777216 := sizeLine_eq
    have ly := fn.len
    obtain ⟨dfx, hfx⟩ := id hx
    refine ⟨_, rfl, x, CF, dfx, _, _, rfl, hfx, TF.cl, TF.nP, pf_prime _, rfl, _, rfl, ?_⟩
    by_cases p0 : p = 0
    · refine itDn (by simp [p0]) ?_
      have B := bd p0
      have Dp : ((D : Nat) : Int).natAbs < 2 ^ 6000 := Nat.lt_of_lt_of_le (show ((D : Nat) : Int).natAbs < 2 ^ 5000 from D2) (Nat.pow_le_pow_right (by decide) (by decide))
      have small : ∀ b : Int, b ∣ (D : Int) → b.natAbs < 2 ^ 6000 := fun b h => Nat.lt_of_le_of_lt (Nat.le_of_dvd (show 0 < ((D : Nat) : Int).natAbs by omega) (Int.natAbs_dvd_natAbs.mpr h)) Dp
      refine ⟨_, rfl, t, rfl, ⟨ys, SqT.of ht⟩, ?_⟩
      refine for_tup (xs := ys) (fun i σ H' => ∃ (b : Int) (z : Option V), σ = [some (.ref x), some (.ref t), some (.int b), z] ∧ H' = H ∧ 1 ≤ b ∧ b ∣ (D : Int) ∧ ∀ (j : Nat) (a : Int × Int), j < i → prs[j]? = some a → a.2 ∣ b) ?_ ?_ ?_ ?_
      · exact ⟨1, none, rfl, rfl, Int.le_refl 1, Int.one_dvd _, fun j a h => absurd h (Nat.not_lt_zero _)⟩
      · rintro i σ H' _ ⟨_, _, _, rfl, _⟩
        exact SqT.of ht
      · rintro i v σ H' hi ⟨b, z, rfl, rfl, b1, bD, hb⟩
        have l1 := get_len hi
        have l2 : i < prs.length := by rw [← ly]; exact l1
        have f := fn.at_ i v _ hi (List.getElem?_eq_getElem l2)
        have aD := (B _ (List.getElem_mem l2)).1
        rcases f with ⟨_, ⟨r, rfl, dr, hr1⟩, pu, cop⟩ | ⟨q, _⟩
        · refine ⟨_, rfl, _, rfl, r, C, dr, _, _, rfl, hr1, T.cl, T.nB, rf_bottom _ _, b, _, rfl, small b bD, small _ aD, ?_⟩
          refine ⟨_, _, rfl, rfl, ?_, ?_, fun j a hj ej => ?_⟩
          · have : 0 < Nat.lcm b.natAbs (prs[i]).2.natAbs := Nat.lcm_pos (by omega) (by omega)
            omega
          · have h1 : b.natAbs ∣ D := Int.natAbs_dvd_natAbs.mpr bD
            have h2 : (prs[i]).2.natAbs ∣ D := Int.natAbs_dvd_natAbs.mpr aD
            exact Int.ofNat_dvd.mpr (Nat.lcm_dvd h1 h2)
          · have d : a.2 ∣ b ∨ a.2 = (prs[i]).2 := by
              by_cases c : j < i
              · exact .inl (hb j a c ej)
              · have : j = i := by omega
                subst this
                rw [List.getElem?_eq_getElem l2] at ej
                exact .inr (by rw [← Option.some.inj ej])
            rcases d with d | d
            · exact Int.dvd_trans d (Int.natAbs_dvd.mp (Int.ofNat_dvd.mpr (Nat.dvd_lcm_left _ _)))
            · rw [d]
              exact Int.natAbs_dvd.mp (Int.ofNat_dvd.mpr (Nat.dvd_lcm_right _ _))
        · exact absurd p0 q
      · rintro σ H' ⟨b, z, rfl, rfl, b1, bD, hb⟩
        refine ⟨_, rfl, t, rfl, ⟨ys, SqT.of ht⟩, fun L hL => ?_⟩
        refine lc_tup (xs := ys) (fun i H2 => ∃ ns : List Int, Same H' H2 ∧ H2 L = some (.lst (ns.map V.int)) ∧ ns.length = i ∧ ∀ (j : Nat) (n : Int) (a : Int × Int), ns[j]? = some n → prs[j]? = some a → n * a.2 = a.1 * b) ?_ ?_ ?_ ?_
        · exact ⟨[], same_new (Same.refl _) hL, upd_same, rfl, fun j n a e => by simp at e⟩
        · rintro i H2 _ ⟨_, s2, _⟩
          exact SqT.of (s2 _ _ ht)
        · rintro i v H2 hi ⟨ns, s2, h2, ln, hn⟩
          have l1 := get_len hi
          have l2 : i < prs.length := by rw [← ly]; exact l1
          have f := fn.at_ i v _ hi (List.getElem?_eq_getElem l2)
          have dv := hb i _ l1 (List.getElem?_eq_getElem l2)
          have ab := B _ (List.getElem_mem l2)
          rcases f with ⟨_, ⟨r, rfl, dr, hr1⟩, pu, cop⟩ | ⟨q, _⟩
          · have hr2 := s2 _ _ hr1
            obtain ⟨kq, hk⟩ := dv
            have fd1 : b.fdiv (prs[i]).2 = kq := by
              rw [hk]
              exact Int.mul_fdiv_cancel_left _ (by omega)
            have kD : kq ∣ (D : Int) := Int.dvd_trans ⟨(prs[i]).2, by rw [hk, Int.mul_comm]⟩ bD
            refine ⟨rfl, _, rfl, r, C, dr, _, _, rfl, hr2, T.cl, T.nT, rf_top _ _, _, rfl, _, rfl, r, C, dr, _, _, rfl, hr2, T.cl, T.nB, rf_bottom _ _, _, _, rfl, rfl, ⟨by omega, Nat.lt_of_lt_of_le (small _ ab.1) (Nat.pow_le_pow_right (by decide) (by decide))⟩, _, _, rfl, rfl, ?_⟩
            rw [fd1]
            refine ⟨mulB (n := 6000) (m := 6000) ab.2 (small _ kD) (by decide), _, h2, by rw [List.length_map]; omega, ns ++ [(prs[i]).1 * kq], same_at s2 hL, ?_, by rw [List.length_append, ln]; rfl, fun j n a e1 e2 => ?_⟩
            · rw [List.map_append]
              exact upd_same
            · rcases get_snoc e1 with e1 | ⟨ej, rfl⟩
              · exact hn j n a e1 e2
              · rw [ej, ln, List.getElem?_eq_getElem l2] at e2
                rw [← Option.some.inj e2, hk, Int.mul_assoc, Int.mul_comm kq]
          · exact absurd p0 q
        · rintro H2 ⟨ns, s2, h2, ln, hn⟩
          refine ⟨_, rfl, (by show 2 ≤ sizeLine; decide), fun q hq => ?_⟩
          have s3 := same_new (o := .tup [.ref L, .int b]) (Same.refl H2) hq
          exact k q L ns b _ (s2.trans s3) upd_same (s3 _ _ h2) ⟨b1, by omega, hn, fun z => absurd p0 z⟩ bD
    · refine itD (by simp [p0]) ?_
      refine ⟨_, rfl, t, ys, rfl, .inr (SqT.of ht), fun l hl => ⟨(by show 2 ≤ sizeLine; decide), fun q hq => ?_⟩⟩
      have s1 := same_new (o := .lst ys) (Same.refl H) hl
      have s2 := same_new (o := .tup [.ref l, .int 1]) (Same.refl _) hq
      have e := fns_ints p0 fn
      refine k q l (prs.map (·.1)) 1 _ (s1.trans s2) upd_same ?_ ⟨Int.le_refl 1, List.length_map _, fun i n a e1 e2 => ?_, fun _ => rfl⟩ (Int.one_dvd _)
      · rw [← e]
        exact s2 _ _ upd_same
      · rw [List.getElem?_map, e2] at e1
        have l2 := get_len e2
        have l1 : i < ys.length := by rw [ly]; exact l2
        rcases fn.at_ i _ a (List.getElem?_eq_getElem l1) e2 with ⟨z, _⟩ | ⟨_, _, u1, _⟩
        · exact absurd z p0
        · have : a.1 = n := Option.some.inj e1
          rw [← this, u1]
end
end Sq

-- needs HandS.Walk
namespace Sq
open PySem L2 PyProof.Rows
abbrev s_mult : Stmt := top 34
/-- the sum of the products of the first i of ns that make the index k -/
def cv (ns ms : List Int) (k : Nat) : Nat → Int
  | 0 => 0
  | i + 1 => cv ns ms k i + (if i ≤ k then ns.getD i 0 * ms.getD (k - i) 0 else 0)
def mid (ns ms : List Int) (i j k : Nat) : Int := cv ns ms k i + (if i ≤ k ∧ k - i < j then ns.getD i 0 * ms.getD (k - i) 0 else 0)
theorem mid_zero (ns ms : List Int) (i k : Nat) : mid ns ms i 0 k = cv ns ms k i := by
  unfold mid
  rw [if_neg (by omega), Int.add_zero]
theorem mid_all (ns ms : List Int) (i k : Nat) : mid ns ms i ms.length k = cv ns ms k (i + 1) := by
  unfold mid
  show _ = cv ns ms k i + _
  congr 1
  by_cases c : i ≤ k
  · by_cases d : k - i < ms.length
    · rw [if_pos ⟨c, d⟩, if_pos c]
    · rw [if_neg (by omega), if_pos c, List.getD_eq_getElem?_getD (l := ms), List.getElem?_eq_none (by omega)]
      simp
  · rw [if_neg (by omega), if_neg c]
theorem mid_step (ns ms : List Int) (i j k : Nat) : mid ns ms i (j + 1) k = if k = i + j then mid ns ms i j k + ns.getD i 0 * ms.getD j 0 else mid ns ms i j k := by
  unfold mid
  by_cases c : k = i + j
  · subst c
    rw [if_pos (by omega), if_pos rfl, if_neg (by omega), Int.add_zero, show i + j - i = j by omega]
  · rw [if_neg c]
    congr 1
    by_cases d : i ≤ k ∧ k - i < j
    · rw [if_pos d, if_pos (by omega)]
    · rw [if_neg d, if_neg (by omega)]
def vts (n : Nat) (f : Nat → Int) : List V := (List.range n).map fun k => V.int (f k)
theorem vts_len (n : Nat) (f : Nat → Int) : (vts n f).length = n := by
  unfold vts
  rw [List.length_map, List.length_range]
theorem vts_at {n k : Nat} {f : Nat → Int} (h : k < n) : (vts n f)[k]? = some (V.int (f k)) := by
  unfold vts
  rw [List.getElem?_map, List.getElem?_range h]
  rfl
theorem vts_congr {n : Nat} {f g : Nat → Int} (h : ∀ k, k < n → f k = g k) : vts n f = vts n g := by
  refine List.ext_getElem? fun k => ?_
  by_cases c : k < n
  · rw [vts_at c, vts_at c, h k c]
  · rw [List.getElem?_eq_none (by rw [vts_len]; omega), List.getElem?_eq_none (by rw [vts_len]; omega)]
theorem vts_set {n i : Nat} {f : Nat → Int} {x : Int} (h : i < n) : (vts n f).set i (V.int x) = vts n fun k => if k = i then x else f k := by
  refine List.ext_getElem? fun k => ?_
  by_cases c : k < n
  · rw [vts_at c, List.getElem?_set]
    by_cases d : i = k
    · subst d
      rw [if_pos rfl, if_pos (by rw [vts_len]; exact c), if_pos rfl]
    · rw [if_neg d, vts_at c, if_neg fun e => d e.symm]
  · rw [List.getElem?_eq_none (by rw [List.length_set, vts_len]; omega), List.getElem?_eq_none (by rw [vts_len]; omega)]
theorem vts_succ (n : Nat) (f : Nat → Int) : vts (n + 1) f = vts n f ++ [V.int (f n)] := by
  unfold vts
  rw [List.range_succ, List.map_append]
  rfl
def spMult : Sp := fun vs H Q _ => ∃ (l1 l2 : Addr) (ns ms : List Int), vs = [.ref l1, .ref l2] ∧ H l1 = some (.lst (ns.map V.int)) ∧ H l2 = some (.lst (ms.map V.int)) ∧ 1 ≤ ns.length + ms.length ∧ ns.length + ms.length ≤ 1000 ∧ (∀ n ∈ ns, n.natAbs < 2 ^ 400000) ∧ (∀ m ∈ ms, m.natAbs < 2 ^ 400000) ∧
  ∀ l H', Same H H' → H' l = some (.lst (vts (ns.length + ms.length - 1) fun k => cv ns ms k ns.length)) → Q (.ref l) H'
theorem ixn {n : Nat} {i : Int} {j : Nat} (e : i = (j : Int)) (h : j < n) : ixN n i = some j := by
  subst e
  rw [ix_ok (by omega) (by omega)]
  rfl
section
variable {P : Program} {w : World} {K : PySem.W.Frag} {mg : Str → Option Value} {base : Heap}
theorem sc_mult : FnScope ["ones", "others", "found", "i", "one", "j", "other", "_"] ["ones", "others"] (defScope s_mult) := ⟨rfl, rfl, rfl, by decide +kernel, rfl, by decide +kernel, by decide +kernel⟩
theorem ok_mult {f : Addr} {fd : FuncData} (F : Fun K "multiplied" "multiplied" s_mult f fd) (D : DTx mg) (B : QTx mg) (b_enum : mg "enumerate" = none) : FnOk P w K mg base CX0 1 f fd ["ones", "others"] spMult := by
  refine F.ok sc_mult (fun vs H Q E h => ?_) (fun cdv A outer s H vs Q E hr h => ?_)
  · obtain ⟨l1, l2, ns, ms, rfl, _⟩ := h
    rfl
  · obtain ⟨l1, l2, ns, ms, rfl, h1, h2, n1, n1000, b1, b2, k⟩ := h
    refine ⟨_, (pss_cons (ps_setLc (i := 2) (own := [("_", 7)]) (g := gName 7) (tt := tYes) rfl sc_mult.nd rfl rfl (sw_true rfl rfl rfl (by decide +kernel))
        (pi_range1 (by rfl) D.b_range (pa_cons (pe_op op_sub (pe_op op_add (pe_callB call_len_seq (by rfl) B.b_len (by decide +kernel) (pa_cons (pv 0) pa_nil)) (pe_callB call_len_seq (by rfl) B.b_len (by decide +kernel) (pa_cons (pv 1) pa_nil))) pe_int) pa_nil)) (blkOk_by (N := ["ones", "others", "found", "i", "one", "j", "other", "_"]) (sc := defScope s_mult) (by decide +kernel)) (fun _ _ _ _ _ => pg_name (i := 7) sc_mult.nd rfl (Or.inl rfl)) (fun _ _ _ _ _ => pts_nil)
        (fun _ _ _ _ _ => pe_int))
      (pss_cons (ps_for PassesOwn.never rfl (pi_enum (by rfl) b_enum (pa_cons (pv 0) pa_nil)) (pg_tup (by rfl) (pgs_cons (pg_name (i := 3) sc_mult.nd rfl (Or.inl rfl)) (pgs_cons (pg_name (i := 4) sc_mult.nd rfl (Or.inl rfl)) pgs_nil)))
        (pss_one (ps_for PassesOwn.never rfl (pi_enum (by rfl) b_enum (pa_cons (pv 1) pa_nil)) (pg_tup (by rfl) (pgs_cons (pg_name (i := 5) sc_mult.nd rfl (Or.inl rfl)) (pgs_cons (pg_name (i := 6) sc_mult.nd rfl (Or.inl rfl)) pgs_nil)))
          (pss_one (ps_asg (pe_op op_add (pe_ix ix_list (pv 2) (pe_op op_add (pv 3) (pv 5)) (fun _ _ => rfl)) (pe_op op_mulW (pv 4) (pv 6))) (pg_sub (pv 2) (pe_op op_add (pv 3) (pv 5)) set_list))))))
      (pss_one (ps_ret (pv 2))))), ?_⟩
    have e24 : (sizeLine : Nat) = 16777216 := sizeLine_eq
    obtain ⟨N, eN⟩ : ∃ N : Nat, N = ns.length + ms.length - 1 := ⟨_, rfl⟩
    rw [← eN] at k
    refine ⟨_, rfl, l1, _, rfl, .inl (SqL.of h1), _, rfl, l2, _, rfl, .inl (SqL.of h2), _, _, rfl, rfl, _, _, rfl, rfl, (N : Int), ?_, by omega, by omega, fun L hL => ?_⟩
    · rw [List.length_map, List.length_map]
      show [V.int ((ns.length : Int) + (ms.length : Int) - 1)] = [V.int (N : Int)]
      rw [show (ns.length : Int) + (ms.length : Int) - 1 = (N : Int) by omega]
    refine lc_range (lo := 0) (n := N) (fun i H' => Same H H' ∧ H' L = some (.lst (vts i fun _ => 0))) ?_ ?_ ?_
    · exact ⟨same_new (Same.refl _) hL, upd_same⟩
    · rintro i H' hi ⟨s1, h3⟩
      refine ⟨rfl, _, h3, by rw [vts_len]; omega, same_at s1 hL, ?_⟩
      rw [vts_succ]
      exact upd_same
    rintro H3 ⟨s3, h3⟩
    refine ⟨_, rfl, l1, ns.map V.int, rfl, SqL.of (s3 _ _ h1), ?_⟩
    refine L2.for_it (L2.walk_enum (xs := ns.map V.int)) (fun i σ H' => ∃ z3 z4 z5 z6, σ = [some (.ref l1), some (.ref l2), some (.ref L), z3, z4, z5, z6, none] ∧ Same H H' ∧ H' L = some (.lst (vts N fun k => cv ns ms k i))) ?_ ?_ ?_ ?_
    · exact ⟨none, none, none, none, rfl, s3, h3⟩
    · rintro i σ H' _ ⟨_, _, _, _, _, s4, _⟩
      exact SqL.of (s4 _ _ h1)
    · rintro i x σ H4 H4' hi ⟨z3, z4, z5, z6, rfl, s4, h4⟩ ⟨T, x1, x2, rfl, hT, rfl, e1, e2⟩
      rw [List.length_map] at hi
      have ei : (ns.map V.int)[i]? = some (V.int ns[i]) := by rw [List.getElem?_map, List.getElem?_eq_getElem hi]; rfl
      have ex1 : x1 = V.int ((i : Nat) : Int) := (Option.some.inj e1).symm
      have ex2 : x2 = V.int ns[i] := (Option.some.inj (ei.symm.trans e2)).symm
      subst ex1
      subst ex2
      have s5 := s4.trans (same_new (o := .tup [V.int ((i : Nat) : Int), V.int ns[i]]) (Same.refl H4) hT)
      have h5 := (same_new (o := .tup [V.int ((i : Nat) : Int), V.int ns[i]]) (Same.refl H4) hT) _ _ h4
      have hT5 := upd_same (H := H4) (a := T) (o := .tup [V.int ((i : Nat) : Int), V.int ns[i]])
      generalize upd H4 T (.tup [V.int ((i : Nat) : Int), V.int ns[i]]) = H5 at *
      refine ⟨T, _, rfl, SqT.of hT5, rfl, _, _, rfl, _, _, rfl, rfl, ?_⟩
      refine ⟨_, rfl, l2, ms.map V.int, rfl, SqL.of (s5 _ _ h2), ?_⟩
      refine L2.for_it (L2.walk_enum (xs := ms.map V.int)) (fun j σ H' => ∃ z5 z6, σ = [some (.ref l1), some (.ref l2), some (.ref L), some (.int ((i : Nat) : Int)), some (.int ns[i]), z5, z6, none] ∧ Same H H' ∧ H' L = some (.lst (vts N fun k => mid ns ms i j k))) ?_ ?_ ?_ ?_
      · refine ⟨z5, z6, rfl, s5, ?_⟩
        rw [h5, vts_congr fun k _ => (mid_zero ns ms i k).symm]
      · rintro j σ H' _ ⟨_, _, _, s6, _⟩
        exact SqL.of (s6 _ _ h2)
      · rintro j x σ H6 H6' hj ⟨z5, z6, rfl, s6, h6⟩ ⟨T2, y1, y2, rfl, hT2, rfl, f1, f2⟩
        rw [List.length_map] at hj
        have ej : (ms.map V.int)[j]? = some (V.int ms[j]) := by rw [List.getElem?_map, List.getElem?_eq_getElem hj]; rfl
        have ey1 : y1 = V.int ((j : Nat) : Int) := (Option.some.inj f1).symm
        have ey2 : y2 = V.int ms[j] := (Option.some.inj (ej.symm.trans f2)).symm
        subst ey1
        subst ey2
        have s7 := s6.trans (same_new (o := .tup [V.int ((j : Nat) : Int), V.int ms[j]]) (Same.refl H6) hT2)
        have h7 := (same_new (o := .tup [V.int ((j : Nat) : Int), V.int ms[j]]) (Same.refl H6) hT2) _ _ h6
        have hT7 := upd_same (H := H6) (a := T2) (o := .tup [V.int ((j : Nat) : Int), V.int ms[j]])
        generalize upd H6 T2 (.tup [V.int ((j : Nat) : Int), V.int ms[j]]) = H7 at *
        have lN : i + j < N := by omega
        refine ⟨T2, _, rfl, SqT.of hT7, rfl, _, _, rfl, _, _, rfl, rfl, ?_⟩
        refine ⟨_, rfl, _, rfl, _, rfl, _, _, rfl, rfl, _, _, _, _, rfl, rfl, SqL.of h7, at_of (j := i + j) (by omega) (vts_at lN), _, rfl, _, rfl, _, _, rfl, rfl, mulB (n := 400000) (m := 400000) (b1 _ (List.getElem_mem hi)) (b2 _ (List.getElem_mem hj)) (by decide), _, _, rfl, rfl, ?_⟩
        refine ⟨_, rfl, _, rfl, _, rfl, _, _, rfl, rfl, L, _, _, i + j, rfl, rfl, h7, ixn (by omega) (by rw [vts_len]; exact lN), ?_⟩
        refine ⟨_, _, rfl, same_at s7 hL, ?_⟩
        rw [vts_set lN]
        have gi : ns.getD i 0 = ns[i] := by
          rw [List.getD_eq_getElem?_getD, List.getElem?_eq_getElem hi]
          rfl
        have gj : ms.getD j 0 = ms[j] := by
          rw [List.getD_eq_getElem?_getD, List.getElem?_eq_getElem hj]
          rfl
        rw [vts_congr (g := fun k => mid ns ms i (j + 1) k) fun k hk => by
          rw [mid_step, gi, gj]
          by_cases c : k = i + j
          · rw [if_pos c, if_pos c, c]
          · rw [if_neg c, if_neg c]]
        exact upd_same
      · rintro σ H6 ⟨z5, z6, rfl, s6, h6⟩
        rw [List.length_map] at h6
        refine ⟨_, _, _, _, rfl, s6, ?_⟩
        rw [h6, vts_congr fun k _ => mid_all ns ms i k]
    · rintro σ H4 ⟨z3, z4, z5, z6, rfl, s4, h4⟩
      rw [List.length_map] at h4
      exact ⟨_, rfl, k L H4 s4 h4⟩
end
end Sq

namespace Sq
open PySem L2 PyProof.Rows
abbrev s_nums : Stmt := top 31
/-- the number of the field that the integer over the bottom is -/
def ND (p n b : Int) (a : Int × Int) : Prop := (p = 0 → a = lowp n b) ∧ (p ≠ 0 → a.2 = 1 ∧ 0 ≤ a.1 ∧ a.1 < p ∧ ∃ k, a.1 * b = n + k * p)
structure NDs (p b : Int) (ns : List Int) (prs : List (Int × Int)) : Prop where
  len : prs.length = ns.length
  at_ : ∀ (i : Nat) n a, ns[i]? = some n → prs[i]? = some a → ND p n b a
theorem NDs.snoc {p b : Int} {ns : List Int} {prs : List (Int × Int)} {i : Nat} {n : Int} {a : Int × Int} (h : NDs p b (ns.take i) prs) (e : ns[i]? = some n) (d : ND p n b a) : NDs p b (ns.take (i + 1)) (prs ++ [a]) := by
  have t := take_more e
  refine ⟨by rw [t, List.length_append, List.length_append, h.len]; rfl, fun j m c e1 e2 => ?_⟩
  rw [t] at e1
  rcases get_snoc e1 with e1 | ⟨i1, rfl⟩
  · rcases get_snoc e2 with e2 | ⟨i2, rfl⟩
    · exact h.at_ j m c e1 e2
    · have := get_len e1
      have := h.len
      omega
  · rcases get_snoc e2 with e2 | ⟨i2, rfl⟩
    · have := get_len e2
      have := h.len
      omega
    · exact d
def spNums (C CF : Addr) : Sp := fun vs H Q _ => ∃ (x l : Addr) (p b : Int) (ns : List Int), vs = [.ref x, .ref l, .int b] ∧ FldAt CF H x p ∧ goodP p = true ∧ H l = some (.lst (ns.map V.int)) ∧ ns.length ≤ 1000 ∧ (p = 0 → b ≠ 0 ∧ b.natAbs < 2 ^ 8000) ∧ (p ≠ 0 → b % p ≠ 0 ∧ Fit b) ∧ (p ≠ 0 → ∀ n ∈ ns, n.natAbs < 2 ^ 400000) ∧
  ∀ q ys prs H', Same H H' → H' q = some (.lst ys) → FNs C H' p ys prs → NDs p b ns prs → Q (.ref q) H'
section
variable {P : Program} {w : World} {K : PySem.W.Frag} {mg : Str → Option Value} {base : Heap}
theorem sc_nums : FnScope ["field", "row", "bottom", "factor", "each"] ["field", "row", "bottom"] (defScope s_nums) := ⟨rfl, rfl, rfl, by decide +kernel, rfl, by decide +kernel, by decide +kernel⟩
theorem ok_nums {f C CF CN CNN fR fover : Addr} {fd fdR fdover : FuncData} (F : Fun K "numbers_of" "numbers_of" s_nums f fd) (TF : FTx K CF) (m_C : mg "Ratio" = some (.ref C)) (M : Mk K C fR)
    (G_R : FnOk P w K mg base (L2.CX P w) 3 fR fdR ["self", "top", "bottom"] (spRatioInit K C CN)) (b_R : Binds K fdR ["self", "top", "bottom"] [])
    (Me_over : Meth K CF "over" fover) (G_fover : FnOk P w K mg base (L2.CX P w) 9 fover fdover ["self", "one", "other"] (spOver K C CF CNN)) (b_fover : Binds K fdover ["self", "one", "other"] []) : FnOk P w K mg base CX0 10 f fd ["field", "row", "bottom"] (spNums C CF) := by
  refine F.ok sc_nums (fun vs H Q E h => ?_) (fun cdv A outer s H vs Q E hr h => ?_)
  · obtain ⟨x, l, p, b, ns, rfl, _⟩ := h
    rfl
  · obtain ⟨x, l, p, b, ns, rfl, hx, hg, hl, n1000, c0, cp, bn, k⟩ := h
    refine ⟨_, (pss_cons (ps_if (pt_cmpR op_eq (show PE _ _ (tFld K (tVar 0) "prime") from pe_fld (pv 0) (by rfl)) pe_int (nomark _))
        (pss_one (ps_ret (pe_lc (own := [("each", 4)]) (g := gName 4) (tt := tYes) rfl sc_nums.nd (pi_list (pv 1)) (blkOk_by (N := ["field", "row", "bottom", "factor", "each"]) (sc := defScope s_nums) (by decide +kernel)) (fun _ _ _ _ _ => pg_name (i := 4) sc_nums.nd rfl (Or.inl rfl)) (fun _ _ _ _ _ => pts_nil) (fun _ _ _ _ _ => (pe_make M G_R (hr.mono (by decide)) rfl m_C b_R .nil passL (pa_cons (pv 4) (pa_cons (pv 2) pa_nil)))))))
        pss_nil)
      (pss_cons (ps_set (i := 3) sc_nums.nd rfl (Or.inr rfl) (pe_meth (pv 0) TF.cl Me_over G_fover (hr.mono (by decide)) b_fover .nil passL (pa_cons pe_int (pa_cons (pv 2) pa_nil))))
      (pss_one (ps_ret (pe_lc (own := [("each", 4)]) (g := gName 4) (tt := tYes) rfl sc_nums.nd (pi_list (pv 1)) (blkOk_by (N := ["field", "row", "bottom", "factor", "each"]) (sc := defScope s_nums) (by decide +kernel)) (fun _ _ _ _ _ => pg_name (i := 4) sc_nums.nd rfl (Or.inl rfl)) (fun _ _ _ _ _ => pts_nil) (fun _ _ _ _ _ => (pe_op op_mod (pe_op op_mulW (pv 4) (pv 3)) (show PE _ _ (tFld K (tVar 0) "prime") from pe_fld (pv 0) (by rfl))))))))), ?_⟩
    have e24 : (sizeLine : Nat) = 16777216 := sizeLine_eq
    obtain ⟨dfx, hfx⟩ := id hx
    have start : ∀ {H' : Hp}, NDs p b (ns.take 0) [] := ⟨rfl, fun i n a e => by simp at e⟩
    refine ⟨_, rfl, x, CF, dfx, _, _, rfl, hfx, TF.cl, TF.nP, pf_prime _, rfl, _, rfl, ?_⟩
    by_cases p0 : p = 0
    · obtain ⟨b0, bb⟩ := c0 p0
      refine itD (by simp [p0]) ?_
      refine ⟨_, rfl, l, rfl, ⟨_, SqL.of hl⟩, fun L hL => ?_⟩
      refine lc_list (xs := ns.map V.int) (fun i H' => ∃ ys prs, Same H H' ∧ H' L = some (.lst ys) ∧ ys.length = i ∧ FNs C H' p ys prs ∧ NDs p b (ns.take i) prs) ?_ ?_ ?_ ?_
      · exact ⟨[], [], same_new (Same.refl _) hL, upd_same, rfl, FNs.nil, ⟨rfl, fun i n a e => by simp at e⟩⟩
      · rintro i H' _ ⟨_, _, s1, _⟩
        exact SqL.of (s1 _ _ hl)
      · rintro i v H1 hi ⟨ys, prs, s1, h1, ly, fn, nd⟩
        have li := get_len hi
        rw [List.length_map] at li
        rw [List.getElem?_map, List.getElem?_eq_getElem li] at hi
        have ev : v = V.int ns[i] := (Option.some.inj hi).symm
        subst ev
        refine ⟨rfl, _, rfl, _, rfl, fun y dy ny ndy ne => mk_go b0 bb ny ndy ne fun T U H2 L2 R s2 => ⟨rfl, ?_⟩⟩
        have h2 := s2 _ _ h1
        refine ⟨ys, h2, by omega, ys ++ [.ref y], prs ++ [(T, U)], same_at (s1.trans s2) hL, upd_same, by rw [List.length_append, ly]; rfl, ?_, ?_⟩
        · exact ((fn.same s2).snoc (pr := (T, U)) (.inl ⟨p0, ⟨y, rfl, R⟩, L2.pos, L2.cop⟩)).upd h2
        · exact nd.snoc (List.getElem?_eq_getElem li) ⟨fun _ => low_is b0 L2, fun z => absurd p0 z⟩
      · rintro H1 ⟨ys, prs, s1, h1, ly, fn, nd⟩
        rw [List.length_map, List.take_length] at nd
        exact k L ys prs H1 s1 h1 fn nd
    · obtain ⟨bp, fb⟩ := cp p0
      have pl := prime_lt hg p0
      refine itDn (by simp [p0]) ?_
      refine ⟨_, rfl, x, dfx, _, rfl, hfx, pf_no _ (by decide +kernel), _, rfl, ?_⟩
      refine ⟨x, .int 1, .int b, p, rfl, hx, hg, .inr ⟨1, 1, .inr ⟨rfl, rfl⟩, by decide, fit_one, fit_one, fun _ z => absurd z (by rw [Int.emod_eq_of_lt (by decide) (by omega)]; decide), fun _ => .inr ⟨b, 1, .inr ⟨rfl, rfl⟩, by decide, Int.gcd_one_right _, fb, fit_one, fun z => absurd z p0, fun _ z => absurd z (by rw [Int.emod_eq_of_lt (by decide) (by omega)]; decide), fun _ _ z => absurd z bp, fun _ _ _ r H2 r0 r1 hk s2 => ?_⟩⟩⟩
      obtain ⟨kk, hk⟩ := hk
      rw [Int.one_mul, Int.one_mul] at hk
      have hl2 := s2 _ _ hl
      have r20 : r.natAbs < 2 ^ 20 := by
        have : (2 : Nat) ^ 20 = 1048576 := by decide
        omega
      have hfx2 := s2 _ _ hfx
      refine ⟨_, rfl, l, rfl, ⟨_, SqL.of hl2⟩, fun L hL => ?_⟩
      refine lc_list (xs := ns.map V.int) (fun i H' => ∃ ys prs, Same H2 H' ∧ H' L = some (.lst ys) ∧ ys.length = i ∧ FNs C H' p ys prs ∧ NDs p b (ns.take i) prs) ?_ ?_ ?_ ?_
      · exact ⟨[], [], same_new (Same.refl _) hL, upd_same, rfl, FNs.nil, ⟨rfl, fun i n a e => by simp at e⟩⟩
      · rintro i H' _ ⟨_, _, s1, _⟩
        exact SqL.of (s1 _ _ hl2)
      · rintro i v H1 hi ⟨ys, prs, s1, h1, ly, fn, nd⟩
        have li := get_len hi
        rw [List.length_map] at li
        rw [List.getElem?_map, List.getElem?_eq_getElem li] at hi
        have ev : v = V.int ns[i] := (Option.some.inj hi).symm
        subst ev
        refine ⟨rfl, _, rfl, _, rfl, _, _, rfl, rfl, mulB (n := 400000) (m := 400000) (bn p0 _ (List.getElem_mem li)) (Nat.lt_of_lt_of_le r20 (Nat.pow_le_pow_right (by decide) (by decide))) (by decide), _, rfl, x, CF, dfx, _, _, rfl, s1 _ _ hfx2, TF.cl, TF.nP, pf_prime _, _, _, rfl, rfl, (by show 0 < p; omega), ?_⟩
        have m0 := Int.emod_nonneg (ns[i] * r) p0
        have m1 := Int.emod_lt_of_pos (ns[i] * r) (show 0 < p by omega)
        refine ⟨ys, h1, by omega, ys ++ [.int (ns[i] * r % p)], prs ++ [(ns[i] * r % p, 1)], same_at s1 hL, upd_same, by rw [List.length_append, ly]; rfl, ?_, ?_⟩
        · exact (fn.snoc (pr := (ns[i] * r % p, 1)) (.inr ⟨p0, rfl, rfl, m0, m1⟩)).upd h1
        · refine nd.snoc (List.getElem?_eq_getElem li) ⟨fun z => absurd z p0, fun _ => ⟨rfl, m0, m1, ns[i] * kk + -(ns[i] * r / p) * b, ?_⟩⟩
          show ns[i] * r % p * b = _
          rw [Int.emod_def]
          generalize ns[i] * r / p = d
          generalize ns[i] = n at *
          have e1 : (n * r - p * d) * b = n * (r * b) - p * d * b := by rw [Int.sub_mul, Int.mul_assoc]
          rw [e1, hk]
          grind
      · rintro H1 ⟨ys, prs, s1, h1, ly, fn, nd⟩
        rw [List.length_map, List.take_length] at nd
        exact k L ys prs H1 (s2.trans s1) h1 fn nd
end
end Sq

namespace Sq
open PySem L2 PyProof.Rows
abbrev s_trimmed : Stmt := top 32
def trimZ (l : List Int) : List Int := (l.reverse.dropWhile fun a => a == 0).reverse
theorem trimZ_zero {l : List Int} : trimZ (l ++ [0]) = trimZ l := by
  unfold trimZ
  rw [List.reverse_append]
  rfl
theorem trimZ_keep {l : List Int} {a : Int} (h : a ≠ 0) : trimZ (l ++ [a]) = l ++ [a] := by
  unfold trimZ
  rw [List.reverse_append]
  show (List.dropWhile (fun a => a == 0) (a :: l.reverse)).reverse = _
  rw [List.dropWhile_cons_of_neg (by simpa using h), List.reverse_cons, List.reverse_reverse]
def modZ (p : Int) (l : List Int) : List Int := if p = 0 then l else l.map (· % p)
theorem modZ_len (p : Int) (l : List Int) : (modZ p l).length = l.length := by
  unfold modZ
  split
  · rfl
  · rw [List.length_map]
def spTrimmed : Sp := fun vs H Q _ => ∃ (l : Addr) (p : Int) (ns : List Int), vs = [.ref l, .int p] ∧ H l = some (.lst (ns.map V.int)) ∧ 0 ≤ p ∧ ns.length ≤ 2000 ∧ ∀ l' H', Same H H' → H l' = none → H' l' = some (.lst ((trimZ (modZ p ns)).map V.int)) → Q (.ref l') H'
section
variable {P : Program} {w : World} {K : PySem.W.Frag} {mg : Str → Option Value} {base : Heap}
theorem sc_trimmed : FnScope ["row", "prime", "many", "each"] ["row", "prime"] (defScope s_trimmed) := ⟨rfl, rfl, rfl, by decide +kernel, rfl, by decide +kernel, by decide +kernel⟩
theorem ok_trimmed {f : Addr} {fd : FuncData} (F : Fun K "trimmed" "trimmed" s_trimmed f fd) (B : QTx mg) : FnOk P w K mg base CX0 1 f fd ["row", "prime"] spTrimmed := by
  refine F.ok sc_trimmed (fun vs H Q E h => ?_) (fun cdv A outer s H vs Q E hr h => ?_)
  · obtain ⟨l, p, ns, rfl, _⟩ := h
    rfl
  · obtain ⟨l, p, ns, rfl, hl, p0, n2000, k⟩ := h
    refine ⟨_, (C8.pss_cut (ps_if (pt_cmpR op_ne (pv 1) pe_int (nomark _)) (pss_one (ps_setLc (i := 0) (own := [("each", 3)]) (g := gName 3) (tt := tYes) rfl sc_trimmed.nd rfl rfl (sw_true rfl rfl rfl (by decide +kernel))
        (pi_list (pv 0)) (blkOk_by (N := ["row", "prime", "many", "each"]) (sc := defScope s_trimmed) (by decide +kernel)) (fun _ _ _ _ _ => pg_name (i := 3) sc_trimmed.nd rfl (Or.inl rfl)) (fun _ _ _ _ _ => pts_nil)
        (fun _ _ _ _ _ => pe_op op_mod (pv 3) (pv 1)))) pss_nil)
      (pss_cons (ps_set (i := 2) sc_trimmed.nd rfl (Or.inl rfl) (pe_callB call_len_seq (by rfl) B.b_len (by decide +kernel) (pa_cons (pv 0) pa_nil)))
      (C8.pss_cut (ps_while PassesOwn.never (PW.pt (pw_and (pt_cmpR op_gt (pv 2) pe_int (nomark _)) (pw_and1 (pt_cmpR op_eq (pe_ix ix_list (pv 0) (pe_op op_sub (pv 2) pe_int) (fun _ _ => rfl)) pe_int (nomark _)))))
          (pss_one (ps_set (i := 2) sc_trimmed.nd rfl (Or.inl rfl) (pe_op op_sub (pv 2) pe_int))))
      (pss_one (ps_ret (pe_slice sl_list (pv 0) po_none (po_some (pv 2)))))))), ?_⟩
    have e24 : (sizeLine : Nat) = 16777216 := sizeLine_eq
    refine ⟨fun σ H' => ∃ l1, σ = [some (.ref l1), some (.int p), none, none] ∧ Same H H' ∧ H' l1 = some (.lst ((modZ p ns).map V.int)), ?_, ?_⟩
    · refine ⟨_, rfl, rfl, _, rfl, ?_⟩
      by_cases c : p = 0
      · refine itDn (by simp [c]) ⟨l, rfl, Same.refl _, ?_⟩
        unfold modZ
        rw [if_pos c]
        exact hl
      · refine itD (by simp [c]) ⟨_, rfl, l, rfl, ⟨_, SqL.of hl⟩, fun L hL => ?_⟩
        refine lc_list (xs := ns.map V.int) (fun i H' => Same H H' ∧ H' L = some (.lst (((ns.map (· % p)).take i).map V.int))) ?_ ?_ ?_ ?_
        · exact ⟨same_new (Same.refl _) hL, upd_same⟩
        · rintro i H' _ ⟨s1, _⟩
          exact SqL.of (s1 _ _ hl)
        · rintro i v H1 hi ⟨s1, h1⟩
          have li := get_len hi
          rw [List.length_map] at li
          rw [List.getElem?_map, List.getElem?_eq_getElem li] at hi
          have ev : v = V.int ns[i] := (Option.some.inj hi).symm
          subst ev
          have em : (ns.map (· % p))[i]? = some (ns[i] % p) := by rw [List.getElem?_map, List.getElem?_eq_getElem li]; rfl
          refine ⟨rfl, _, rfl, _, rfl, _, _, rfl, rfl, (by show 0 < p; omega), _, h1, by rw [List.length_map, List.length_take, List.length_map]; omega, same_at s1 hL, ?_⟩
          rw [take_more em, List.map_append]
          exact upd_same
        · rintro H1 ⟨s1, h1⟩
          refine ⟨L, rfl, s1, ?_⟩
          unfold modZ
          rw [if_neg c, h1, List.length_map, List.take_of_length_le (by rw [List.length_map]; exact Nat.le_refl _)]
    rintro σ H1 ⟨l1, rfl, s1, h1⟩
    generalize ems : modZ p ns = ms at *
    have lm : ms.length ≤ 2000 := by rw [← ems, modZ_len]; exact n2000
    refine ⟨_, rfl, l1, _, rfl, .inl (SqL.of h1), ?_⟩
    refine ⟨fun σ H' => H' = H1 ∧ ∃ n : Nat, σ = [some (.ref l1), some (.int p), some (.int (n : Int)), none] ∧ n ≤ ms.length ∧ ms.take n = trimZ ms, ?_, ?_⟩
    · refine while_go (fun σ H' => H' = H1 ∧ ∃ n : Nat, σ = [some (.ref l1), some (.int p), some (.int (n : Int)), none] ∧ n ≤ ms.length ∧ trimZ (ms.take n) = trimZ ms) (fun σ _ => match σ with | [_, _, some (.int n), _] => n.natAbs | _ => 0) ⟨rfl, ms.length, by rw [List.length_map]; rfl, Nat.le_refl _, by rw [List.take_length]⟩ ?_
      rintro σ H' ⟨rfl, n, rfl, hn, ht⟩
      refine ⟨_, rfl, _, _, rfl, rfl, _, rfl, ?_⟩
      refine ite2 (fun c => ?_) (fun c => ?_)
      · have n0 : 0 < n := by
          have := of_decide_eq_true c
          omega
        have li : n - 1 < ms.length := by omega
        have tk : ms.take n = ms.take (n - 1) ++ [ms[n - 1]] := by
          have := take_more (List.getElem?_eq_getElem li)
          rw [show n - 1 + 1 = n by omega] at this
          exact this
        have ei : (ms.map V.int)[n - 1]? = some (V.int ms[n - 1]) := by rw [List.getElem?_map, List.getElem?_eq_getElem li]; rfl
        refine ⟨_, rfl, _, rfl, _, _, rfl, rfl, _, _, _, _, rfl, rfl, SqL.of h1, at_of (j := n - 1) (by omega) ei, rfl, _, rfl, ?_⟩
        generalize ms[n - 1] = a at *
        by_cases z : a = 0
        · subst z
          refine itD (by simp) ?_
          refine ⟨fun σ' H'' => H'' = H' ∧ σ' = [some (.ref l1), some (.int p), some (.int (((n - 1 : Nat)) : Int)), none], fun σ' H'' ⟨e1, e2⟩ => ⟨n - 1, ?_, ?_, e1, n - 1, e2, by omega, ?_⟩, ?_⟩
          · show n - 1 < ((n : Int)).natAbs
            omega
          · rw [e2]
            show n - 1 = (((n - 1 : Nat)) : Int).natAbs
            omega
          · rw [← ht, tk, trimZ_zero]
          · have : ((n : Int) - 1) = ((n - 1 : Nat) : Int) := by omega
            refine ⟨_, rfl, _, _, rfl, rfl, rfl, ?_⟩
            rw [← this]
            rfl
        · refine itDn (by simpa using z) ?_
          exact ⟨rfl, n, rfl, hn, by rw [← ht, tk, trimZ_keep z]⟩
      · have n0 : n = 0 := by
          have : ¬ ((n : Int) > 0) := fun e => c (decide_eq_true e)
          omega
        subst n0
        exact ⟨rfl, 0, rfl, hn, by rw [← ht]; rfl⟩
    · rintro σ H' ⟨rfl, n, rfl, hn, ht⟩
      refine ⟨_, rfl, _, rfl, _, rfl, l1, _, rfl, SqL.of h1, fun L hL => ?_⟩
      have nL : H L = none := by
        cases e : H L with
        | none => rfl
        | some o =>
          rw [s1 _ _ e] at hL
          cases hL
      refine k L _ (same_new s1 hL) nL ?_
      rw [take_cut, ← List.map_take, ht]
      exact upd_same
end
end Sq

namespace Sq
open PySem L2 PyProof.Rows
/-! ### division of rows of integers: the identity, exact (p = 0) or modulo p -/
def gz (l : List Int) (k : Nat) : Int := l.getD k 0
theorem gz_lt {l : List Int} {k : Nat} (h : k < l.length) : gz l k = l[k] := by
  unfold gz
  rw [List.getD_eq_getElem?_getD, List.getElem?_eq_getElem h]
  rfl
theorem gz_ge {l : List Int} {k : Nat} (h : l.length ≤ k) : gz l k = 0 := by
  unfold gz
  rw [List.getD_eq_getElem?_getD, List.getElem?_eq_none h]
  rfl
def EqM (p a b : Int) : Prop := ∃ c, a = b + c * p
theorem EqM.refl (p a : Int) : EqM p a a := ⟨0, by omega⟩
theorem EqM.trans {p a b c : Int} (h : EqM p a b) (g : EqM p b c) : EqM p a c := by
  obtain ⟨x, hx⟩ := h
  obtain ⟨y, hy⟩ := g
  exact ⟨x + y, by rw [hx, hy]; grind⟩
theorem EqM.symm {p a b : Int} (h : EqM p a b) : EqM p b a := by
  obtain ⟨x, hx⟩ := h
  exact ⟨-x, by rw [hx]; grind⟩
theorem EqM.zero {a b : Int} (h : EqM 0 a b) : a = b := by
  obtain ⟨x, hx⟩ := h
  rw [hx]
  omega
theorem modZ_eq {p : Int} {l : List Int} (k : Nat) : EqM p (gz (modZ p l) k) (gz l k) := by
  unfold modZ
  split
  · exact EqM.refl _ _
  · by_cases c : k < l.length
    · rw [gz_lt (by rw [List.length_map]; exact c), gz_lt c, List.getElem_map]
      exact ⟨-(l[k] / p), by rw [Int.emod_def]; grind⟩
    · rw [gz_ge (by rw [List.length_map]; omega), gz_ge (by omega)]
      exact EqM.refl _ _
theorem gz_snoc (l : List Int) (a : Int) (k : Nat) : gz (l ++ [a]) k = if k = l.length then a else gz l k := by
  by_cases c : k < l.length
  · rw [if_neg (by omega), gz_lt (by simp; omega), gz_lt c, List.getElem_append_left c]
  · by_cases d : k = l.length
    · subst d
      rw [if_pos rfl, gz_lt (by simp), List.getElem_append_right (Nat.le_refl _)]
      simp
    · rw [if_neg d, gz_ge (by simp; omega), gz_ge (by omega)]
theorem trimZ_spec : ∀ (n : Nat) (l : List Int), l.length = n → (∀ k, gz (trimZ l) k = gz l k) ∧ (trimZ l).length ≤ l.length ∧ (trimZ l = [] ∨ gz (trimZ l) ((trimZ l).length - 1) ≠ 0)
  | 0, l, h => by
    have : l = [] := List.eq_nil_of_length_eq_zero h
    subst this
    exact ⟨fun _ => rfl, Nat.le_refl _, .inl rfl⟩
  | n + 1, l, h => by
    have ne : l ≠ [] := fun z => by rw [z] at h; simp at h
    have e : l.dropLast ++ [l.getLast ne] = l := List.dropLast_concat_getLast ne
    generalize l.getLast ne = a at e
    generalize hm : l.dropLast = m at e
    subst e
    have lm : m.length = n := by simpa using h
    obtain ⟨i1, i2, i3⟩ := trimZ_spec n m lm
    by_cases z : a = 0
    · subst z
      rw [trimZ_zero]
      refine ⟨fun k => ?_, by simp; omega, i3⟩
      rw [i1, gz_snoc]
      split
      · rename_i c
        rw [c, gz_ge (Nat.le_refl _)]
      · rfl
    · rw [trimZ_keep z]
      refine ⟨fun _ => rfl, Nat.le_refl _, .inr ?_⟩
      rw [gz_snoc, if_pos (by simp)]
      exact z
theorem trim_eq {p : Int} {l : List Int} (k : Nat) : EqM p (gz (trimZ (modZ p l)) k) (gz l k) := by
  rw [(trimZ_spec _ (modZ p l) rfl).1 k]
  exact modZ_eq k
/-- the sum of the first n -/
def sz (f : Nat → Int) : Nat → Int
  | 0 => 0
  | n + 1 => sz f n + f n
theorem sz_lin (c : Int) (f g : Nat → Int) : ∀ n, sz (fun i => c * f i + g i) n = c * sz f n + sz g n
  | 0 => by
    show (0 : Int) = c * 0 + 0
    omega
  | n + 1 => by
    show sz (fun i => c * f i + g i) n + (c * f n + g n) = c * (sz f n + f n) + (sz g n + g n)
    rw [sz_lin c f g n]
    grind
theorem sz_zero {f : Nat → Int} : ∀ {n}, (∀ i, i < n → f i = 0) → sz f n = 0
  | 0, _ => rfl
  | n + 1, h => by
    show sz f n + f n = 0
    rw [sz_zero fun i hi => h i (by omega), h n (by omega)]
    rfl
theorem sz_one {f : Nat → Int} {m : Nat} : ∀ {n}, (∀ i, i < n → i ≠ m → f i = 0) → sz f n = if m < n then f m else 0
  | 0, _ => by
    rw [if_neg (by omega)]
    rfl
  | n + 1, h => by
    show sz f n + f n = _
    rw [sz_one (n := n) fun i hi ne => h i (by omega) ne]
    by_cases c : m < n
    · rw [if_pos c, if_pos (by omega), h n (by omega) (by omega)]
      omega
    · rw [if_neg c]
      by_cases d : m = n
      · subst d
        rw [if_pos (by omega)]
        omega
      · rw [if_neg (by omega), h n (by omega) (fun e => d e.symm)]
        rfl
theorem sz_congr {f g : Nat → Int} : ∀ {n}, (∀ i, i < n → f i = g i) → sz f n = sz g n
  | 0, _ => rfl
  | n + 1, h => by
    show sz f n + f n = sz g n + g n
    rw [sz_congr fun i hi => h i (by omega), h n (by omega)]
/-- the coefficient of index k of the product of f and the row low -/
def pl (f : Nat → Int) (low : List Int) (k : Nat) : Int := sz (fun i => f i * gz low (k - i)) (k + 1)
theorem pl_step (c t : Int) (f : Nat → Int) (m : Nat) (low : List Int) (k : Nat) : pl (fun i => c * f i + if i = m then t else 0) low k = c * pl f low k + if m ≤ k then t * gz low (k - m) else 0 := by
  unfold pl
  have e1 : sz (fun i => (c * f i + if i = m then t else 0) * gz low (k - i)) (k + 1) = sz (fun i => c * (f i * gz low (k - i)) + (if i = m then t * gz low (k - i) else 0)) (k + 1) := sz_congr fun i _ => by
    split
    · grind
    · grind
  rw [e1, sz_lin]
  congr 1
  rw [sz_one (m := m) fun i _ ne => if_neg ne]
  by_cases d : m ≤ k
  · rw [if_pos (by omega), if_pos rfl, if_pos d]
  · rw [if_neg (by omega), if_neg d]
/-- the steps of a division: place, keep, take -/
def tmS : List (Nat × Int × Int) → Int
  | [] => 1
  | s :: r => s.2.1 * tmS r
def qfS : List (Nat × Int × Int) → Nat → Int
  | [], _ => 0
  | s :: r, k => (if k = s.1 then s.2.2 * tmS r else 0) + qfS r k
theorem tm_snoc (s : Nat × Int × Int) : ∀ st : List (Nat × Int × Int), tmS (st ++ [s]) = tmS st * s.2.1
  | [] => by
    show s.2.1 * 1 = 1 * s.2.1
    omega
  | x :: r => by
    show x.2.1 * tmS (r ++ [s]) = x.2.1 * tmS r * s.2.1
    rw [tm_snoc s r]
    grind
theorem qf_snoc (s : Nat × Int × Int) (k : Nat) : ∀ st : List (Nat × Int × Int), qfS (st ++ [s]) k = s.2.1 * qfS st k + if k = s.1 then s.2.2 else 0
  | [] => by
    show (if k = s.1 then s.2.2 * 1 else 0) + 0 = s.2.1 * 0 + _
    split <;> omega
  | x :: r => by
    show (if k = x.1 then x.2.2 * tmS (r ++ [s]) else 0) + qfS (r ++ [s]) k = s.2.1 * ((if k = x.1 then x.2.2 * tmS r else 0) + qfS r k) + _
    rw [qf_snoc s k r, tm_snoc]
    split
    · grind
    · grind
theorem div_step {p : Int} {high low rest rest' : List Int} {st : List (Nat × Int × Int)} {place : Nat} {keep take : Int} (h : ∀ k, EqM p (tmS st * gz high k) (pl (qfS st) low k + gz rest k)) (hr : ∀ k, EqM p (gz rest' k) (keep * gz rest k - take * (if place ≤ k then gz low (k - place) else 0))) (k : Nat) :
    EqM p (tmS (st ++ [(place, keep, take)]) * gz high k) (pl (qfS (st ++ [(place, keep, take)])) low k + gz rest' k) := by
  have e : (qfS (st ++ [(place, keep, take)])) = fun i => keep * qfS st i + if i = place then take else 0 := funext fun i => qf_snoc _ _ _
  rw [tm_snoc, e, pl_step]
  obtain ⟨x, hx⟩ := h k
  obtain ⟨y, hy⟩ := hr k
  refine ⟨x * keep - y, ?_⟩
  have e2 : tmS st * (place, keep, take).2.1 * gz high k = keep * (tmS st * gz high k) := by
    show tmS st * keep * gz high k = _
    grind
  rw [e2, hx, hy]
  split <;> grind
end Sq

-- needs HandS.Rev
-- needs HandS.Star
-- needs HandS.Walk
namespace Sq
open PySem L2 PyProof.Rows
abbrev s_div : Stmt := top 39
/-- division modulo p, or of integers; S is the greatest count of steps, b the bits of the numbers -/
def spDiv : Sp := fun vs H Q _ => ∃ (l1 l2 : Addr) (p : Int) (high low : List Int) (S b : Nat), vs = [.ref l1, .ref l2, .int p] ∧ H l1 = some (.lst (high.map V.int)) ∧ H l2 = some (.lst (low.map V.int)) ∧ 0 ≤ p ∧ high.length ≤ 100 ∧ low.length ≤ 100 ∧ high.length + 1 ≤ S + low.length ∧ 1 ≤ low.length ∧ gz low (low.length - 1) ≠ 0 ∧ (p ≠ 0 → ∀ k, 0 ≤ gz low k ∧ gz low k < p) ∧ p.natAbs < 2 ^ b ∧ (∀ k, (gz high k).natAbs < 2 ^ b) ∧ (∀ k, (gz low k).natAbs < 2 ^ b) ∧ b + S * (b + 2) ≤ 7000 ∧
  ∀ q t l3 l4 (N : Nat) (f : Nat → Int) rest H', Same H H' → H' q = some (.tup [.int t, .ref l3, .ref l4]) → H' l3 = some (.lst (vts N f)) → H' l4 = some (.lst (rest.map V.int)) → rest.length < low.length → (rest = [] ∨ gz rest (rest.length - 1) ≠ 0) → (p ≠ 0 → ∀ k, 0 ≤ gz rest k ∧ gz rest k < p) → t ≠ 0 → (goodP p = true → p ≠ 0 → ¬ p ∣ t) → N ≤ S → (∀ k, N ≤ k → f k = 0) → t.natAbs ≤ 2 ^ (b * S) → (∀ k, (f k).natAbs < 2 ^ (S * (b + 2))) → (∀ k, (gz rest k).natAbs < 2 ^ (b + S * (b + 2))) → (∀ k, EqM p (t * gz high k) (pl f low k + gz rest k)) → Q (.ref q) H'
theorem tm_abs {b : Nat} : ∀ {st : List (Nat × Int × Int)}, (∀ s ∈ st, s.2.1.natAbs < 2 ^ b) → (tmS st).natAbs ≤ 2 ^ (b * st.length)
  | [], _ => by
    show (1 : Int).natAbs ≤ 2 ^ (b * 0)
    rw [Nat.mul_zero]
    decide
  | s :: r, h => by
    show (s.2.1 * tmS r).natAbs ≤ 2 ^ (b * (r.length + 1))
    rw [Int.natAbs_mul, Nat.mul_succ, Nat.add_comm, Nat.pow_add]
    exact Nat.mul_le_mul (Nat.le_of_lt (h s List.mem_cons_self)) (tm_abs fun x hx => h x (List.mem_cons_of_mem _ hx))
theorem tm_ne : ∀ {st : List (Nat × Int × Int)}, (∀ s ∈ st, s.2.1 ≠ 0) → tmS st ≠ 0
  | [], _ => by decide
  | s :: r, h => Int.mul_ne_zero (h s List.mem_cons_self) (tm_ne fun x hx => h x (List.mem_cons_of_mem _ hx))
theorem tm_ndvd {p : Int} (hg : goodP p = true) (p0 : p ≠ 0) : ∀ {st : List (Nat × Int × Int)}, (∀ s ∈ st, 1 ≤ s.2.1 ∧ s.2.1 < p) → ¬ p ∣ tmS st
  | [], _ => by
    intro d
    have := prime_lt hg p0
    have := Int.le_of_dvd (by decide) d
    show False
    have e : tmS [] = 1 := rfl
    omega
  | s :: r, h => by
    intro d
    obtain ⟨p2, p3, hp⟩ := goodP_pos hg p0
    obtain ⟨k1, k2⟩ := h s List.mem_cons_self
    have g := gcd_prime p2 p3 hp k1 k2
    have dn : p.natAbs ∣ s.2.1.natAbs * (tmS r).natAbs := by
      rw [← Int.natAbs_mul]
      exact Int.natAbs_dvd_natAbs.mpr d
    have du : p.natAbs ∣ (tmS r).natAbs := Nat.Coprime.dvd_of_dvd_mul_left (show Nat.Coprime p.natAbs s.2.1.natAbs from g) dn
    exact tm_ndvd hg p0 (fun x hx => h x (List.mem_cons_of_mem _ hx)) (Int.natAbs_dvd_natAbs.mp du)
theorem qf_zero {k : Nat} : ∀ {st : List (Nat × Int × Int)}, (∀ s ∈ st, s.1 ≠ k) → qfS st k = 0
  | [], _ => rfl
  | s :: r, h => by
    show (if k = s.1 then s.2.2 * tmS r else 0) + qfS r k = 0
    rw [if_neg fun e => h s List.mem_cons_self e.symm, qf_zero fun x hx => h x (List.mem_cons_of_mem _ hx)]
    rfl
theorem qf_abs {b Y Z k : Nat} : ∀ {st : List (Nat × Int × Int)}, st.Pairwise (fun x y => y.1 < x.1) → (∀ s ∈ st, s.2.2.natAbs < 2 ^ Y) → (∀ s ∈ st, s.2.1.natAbs < 2 ^ b) → b * st.length ≤ Z → (qfS st k).natAbs < 2 ^ (Y + Z + 1)
  | [], _, _, _, _ => by
    show (0 : Int).natAbs < _
    exact Nat.pow_pos (by decide)
  | s :: r, d, h1, h2, hz => by
    obtain ⟨d1, d2⟩ := List.pairwise_cons.mp d
    show ((if k = s.1 then s.2.2 * tmS r else 0) + qfS r k).natAbs < _
    have hz2 : b * r.length ≤ Z := Nat.le_trans (Nat.mul_le_mul_left _ (by simp)) hz
    by_cases c : k = s.1
    · rw [if_pos c, qf_zero fun x hx => by have := d1 x hx; omega, Int.add_zero, Int.natAbs_mul]
      have t1 := h1 s List.mem_cons_self
      have t2 : (tmS r).natAbs ≤ 2 ^ Z := Nat.le_trans (tm_abs fun x hx => h2 x (List.mem_cons_of_mem _ hx)) (Nat.pow_le_pow_right (by decide) hz2)
      have t3 : s.2.2.natAbs * (tmS r).natAbs ≤ 2 ^ Y * 2 ^ Z := Nat.mul_le_mul (Nat.le_of_lt t1) t2
      rw [← Nat.pow_add] at t3
      exact Nat.lt_of_le_of_lt t3 (Nat.pow_lt_pow_right (by decide) (by omega))
    · rw [if_neg c, Int.zero_add]
      exact qf_abs d2 (fun x hx => h1 x (List.mem_cons_of_mem _ hx)) (fun x hx => h2 x (List.mem_cons_of_mem _ hx)) hz2
theorem qf_abs2 {b k : Nat} : ∀ {st : List (Nat × Int × Int)} (i : Nat), st.Pairwise (fun x y => y.1 < x.1) → (∀ s ∈ st, s.2.1.natAbs < 2 ^ b) → (∀ (j : Nat) s, st[j]? = some s → s.2.2.natAbs < 2 ^ (b + (i + j) * (b + 2))) → (qfS st k).natAbs < 2 ^ ((i + st.length) * (b + 2))
  | [], _, _, _, _ => by
    show (0 : Int).natAbs < _
    exact Nat.pow_pos (by decide)
  | s :: r, i, d, h2, h1 => by
    obtain ⟨d1, d2⟩ := List.pairwise_cons.mp d
    show ((if k = s.1 then s.2.2 * tmS r else 0) + qfS r k).natAbs < _
    by_cases c : k = s.1
    · rw [if_pos c, qf_zero fun x hx => by have := d1 x hx; omega, Int.add_zero, Int.natAbs_mul]
      have t1 := h1 0 s rfl
      rw [Nat.add_zero] at t1
      have t2 : (tmS r).natAbs ≤ 2 ^ (b * r.length) := tm_abs fun x hx => h2 x (List.mem_cons_of_mem _ hx)
      have t3 : s.2.2.natAbs * (tmS r).natAbs < 2 ^ (b + i * (b + 2)) * 2 ^ (b * r.length) := Nat.lt_of_le_of_lt (Nat.mul_le_mul_left _ t2) (Nat.mul_lt_mul_of_pos_right t1 (Nat.pow_pos (by decide)))
      rw [← Nat.pow_add] at t3
      refine Nat.lt_of_lt_of_le t3 (Nat.pow_le_pow_right (by decide) ?_)
      rw [List.length_cons, Nat.add_mul i, Nat.succ_mul]
      have h3 : r.length * b ≤ r.length * (b + 2) := Nat.mul_le_mul_left _ (by omega)
      rw [Nat.mul_comm b]
      omega
    · rw [if_neg c, Int.zero_add, List.length_cons]
      have q := qf_abs2 (k := k) (i + 1) d2 (fun x hx => h2 x (List.mem_cons_of_mem _ hx)) fun j x e => by
        have := h1 (j + 1) x (by rw [List.getElem?_cons_succ]; exact e)
        rw [show i + 1 + j = i + (j + 1) by omega]
        exact this
      rw [show i + (r.length + 1) = i + 1 + r.length by omega]
      exact q
theorem cut_gcd {a c : Int} (ha : a ≠ 0) (h : ∃ k, a = c * k) (c0 : 0 < c) : a.fdiv c * c = a ∧ (a.fdiv c).natAbs ≤ a.natAbs ∧ a.fdiv c ≠ 0 ∧ (0 < a → 1 ≤ a.fdiv c ∧ a.fdiv c ≤ a) := by
  obtain ⟨k, rfl⟩ := h
  have e : (c * k).fdiv c = k := Int.mul_fdiv_cancel_left _ (by omega)
  have k0 : k ≠ 0 := fun z => ha (by rw [z, Int.mul_zero])
  have le : k.natAbs ≤ (c * k).natAbs := by
    rw [Int.natAbs_mul]
    exact Nat.le_mul_of_pos_left _ (by omega)
  rw [e]
  refine ⟨Int.mul_comm _ _, le, k0, fun pos => ?_⟩
  have kp : 0 < k := by
    rcases Int.lt_or_le 0 k with h | h
    · exact h
    · have := Int.mul_le_mul_of_nonneg_left h (show 0 ≤ c by omega)
      rw [Int.mul_zero] at this
      omega
  exact ⟨by omega, by omega⟩
/-- the steps as they stand in the heap -/
structure StV (H : Hp) (vs : List V) (st : List (Nat × Int × Int)) : Prop where
  len : vs.length = st.length
  at_ : ∀ (i : Nat) v s, vs[i]? = some v → st[i]? = some s → ∃ q, v = .ref q ∧ H q = some (.tup [.int (s.1 : Int), .int s.2.1, .int s.2.2])
theorem StV.same {H H' : Hp} {vs : List V} {st : List (Nat × Int × Int)} (s : Same H H') (h : StV H vs st) : StV H' vs st := ⟨h.len, fun i v x e1 e2 => by
  obtain ⟨q, e, hq⟩ := h.at_ i v x e1 e2
  exact ⟨q, e, s _ _ hq⟩⟩
theorem StV.upd {H : Hp} {vs xs : List V} {st : List (Nat × Int × Int)} {L : Addr} {o : HO} (hL : H L = some (.lst xs)) (h : StV H vs st) : StV (L2.upd H L o) vs st := ⟨h.len, fun i v x e1 e2 => by
  obtain ⟨q, e, hq⟩ := h.at_ i v x e1 e2
  refine ⟨q, e, (upd_ne fun z => ?_).trans hq⟩
  rw [z, hL] at hq
  cases hq⟩
theorem StV.snoc {H : Hp} {vs : List V} {st : List (Nat × Int × Int)} {q : Addr} {s : Nat × Int × Int} (h : StV H vs st) (hq : H q = some (.tup [.int (s.1 : Int), .int s.2.1, .int s.2.2])) : StV H (vs ++ [.ref q]) (st ++ [s]) := by
  refine ⟨by rw [List.length_append, List.length_append, h.len]; rfl, fun i v x e1 e2 => ?_⟩
  rcases get_snoc e1 with e1 | ⟨i1, rfl⟩
  · rcases get_snoc e2 with e2 | ⟨i2, rfl⟩
    · exact h.at_ i v x e1 e2
    · have := get_len e1
      have := h.len
      omega
  · rcases get_snoc e2 with e2 | ⟨i2, rfl⟩
    · have := get_len e2
      have := h.len
      omega
    · exact ⟨q, rfl, hq⟩
theorem at_last {xs : List V} {v : V} (n1 : 1 ≤ xs.length) (h : xs[xs.length - 1]? = some v) : atI xs (-1) = some v := by
  unfold atI ixN
  rw [if_neg (by decide), if_pos (by omega)]
  show xs[((-1 : Int) + xs.length).toNat]? = some v
  rw [show ((-1 : Int) + (xs.length : Int)).toNat = xs.length - 1 by omega]
  exact h
theorem map_last {ns : List Int} (n1 : 1 ≤ ns.length) : (ns.map V.int)[(ns.map V.int).length - 1]? = some (V.int (gz ns (ns.length - 1))) := by
  rw [List.length_map, List.getElem?_map, List.getElem?_eq_getElem (by omega), gz_lt (by omega)]
  rfl
/-- what the loop keeps -/
structure DivI (p : Int) (high low : List Int) (b N r0 : Nat) (rest : List Int) (st : List (Nat × Int × Int)) : Prop where
  top : rest = [] ∨ gz rest (rest.length - 1) ≠ 0
  res : p ≠ 0 → ∀ k, 0 ≤ gz rest k ∧ gz rest k < p
  big : ∀ k, (gz rest k).natAbs < 2 ^ (b + st.length * (b + 2))
  cnt : rest.length + st.length ≤ r0
  stn : st.length ≤ N
  plc : ∀ s ∈ st, rest.length < s.1 + low.length ∧ s.1 < N
  dsc : st.Pairwise fun x y => y.1 < x.1
  kp : ∀ s ∈ st, s.2.1 ≠ 0 ∧ s.2.1.natAbs < 2 ^ b ∧ s.2.2.natAbs < 2 ^ (b + N * (b + 2)) ∧ (p ≠ 0 → 1 ≤ s.2.1 ∧ s.2.1 < p)
  tk : ∀ (i : Nat) s, st[i]? = some s → s.2.2.natAbs < 2 ^ (b + i * (b + 2))
  idn : ∀ k, EqM p (tmS st * gz high k) (pl (qfS st) low k + gz rest k)
theorem modZ_bd {p : Int} {l : List Int} {b k : Nat} (pnn : 0 ≤ p) (pb : p.natAbs < 2 ^ b) (h : (gz l k).natAbs < 2 ^ b) : (gz (modZ p l) k).natAbs < 2 ^ b ∧ (p ≠ 0 → 0 ≤ gz (modZ p l) k ∧ gz (modZ p l) k < p) := by
  unfold modZ
  split
  · rename_i p0
    exact ⟨h, fun z => absurd p0 z⟩
  · rename_i p0
    by_cases c : k < l.length
    · rw [gz_lt (by rw [List.length_map]; exact c), List.getElem_map]
      have m0 := Int.emod_nonneg l[k] p0
      have m1 := Int.emod_lt_of_pos l[k] (show 0 < p by omega)
      exact ⟨by omega, fun _ => ⟨m0, m1⟩⟩
    · rw [gz_ge (by rw [List.length_map]; omega)]
      exact ⟨by omega, fun _ => ⟨by omega, by omega⟩⟩
section
variable {P : Program} {w : World} {K : PySem.W.Frag} {mg : Str → Option Value} {base : Heap}
theorem sc_div : FnScope ["high", "low", "prime", "rest", "quotient", "steps", "place", "common", "keep", "take", "shifted", "times", "_", "one", "other"] ["high", "low", "prime"] (defScope s_div) := ⟨rfl, rfl, rfl, by decide +kernel, rfl, by decide +kernel, by decide +kernel⟩
theorem ok_div {f ftrimmed : Addr} {fd fdtrimmed : FuncData} (F : Fun K "division" "division" s_div f fd) (D : DTx mg) (B : QTx mg) (g_gcd : mg "gcd_math" = some (.builtin "math.gcd")) (b_zip : mg "zip" = none) (b_reversed : mg "reversed" = none)
    (G_trimmed : FnOk P w K mg base CX0 1 ftrimmed fdtrimmed ["row", "prime"] spTrimmed) (m_trimmed : mg "trimmed" = some (.ref ftrimmed)) (k_trimmed : PySem.W.keepIn K (.ref ftrimmed) = true) (b_trimmed : Binds K fdtrimmed ["row", "prime"] []) : FnOk P w K mg base CX0 2 f fd ["high", "low", "prime"] spDiv := by
  refine F.ok sc_div (fun vs H Q E h => ?_) (fun cdv A outer s H vs Q E hr h => ?_)
  · obtain ⟨l1, l2, p, high, low, S, b, rfl, _⟩ := h
    rfl
  · obtain ⟨l1, l2, p, high, low, S, b, rfl, h1, h2, pnn, hn, ln, hS, low1, lead, lowp_, pb, hb, lb, bS, k⟩ := h
    refine ⟨_, (pss_cons (ps_set (i := 3) sc_div.nd rfl (Or.inl rfl) (pe_call G_trimmed (hr.mono (by decide)) rfl m_trimmed k_trimmed b_trimmed .nil pass0 (pa_cons (pv 0) (pa_cons (pv 2) pa_nil))))
      (pss_cons (ps_setLc (i := 4) (own := [("_", 12)]) (g := gName 12) (tt := tYes) rfl sc_div.nd rfl rfl (sw_true rfl rfl rfl (by decide +kernel)) (pi_range1 (by rfl) D.b_range (pa_cons (pe_op op_add (pe_op op_sub (pe_callB call_len_seq (by rfl) B.b_len (by decide +kernel) (pa_cons (pv 3) pa_nil)) (pe_callB call_len_seq (by rfl) B.b_len (by decide +kernel) (pa_cons (pv 1) pa_nil))) pe_int) pa_nil)) (blkOk_by (N := ["high", "low", "prime", "rest", "quotient", "steps", "place", "common", "keep", "take", "shifted", "times", "_", "one", "other"]) (sc := defScope s_div) (by decide +kernel)) (fun _ _ _ _ _ => pg_name (i := 12) sc_div.nd rfl (Or.inl rfl)) (fun _ _ _ _ _ => pts_nil) (fun _ _ _ _ _ => pe_int))
      (pss_cons (ps_set (i := 5) sc_div.nd rfl (Or.inl rfl) (pe_lst pa_nil))
      (C8.pss_cut (ps_while PassesOwn.never (pt_cmpR op_ge (pe_callB call_len_seq (by rfl) B.b_len (by decide +kernel) (pa_cons (pv 3) pa_nil)) (pe_callB call_len_seq (by rfl) B.b_len (by decide +kernel) (pa_cons (pv 1) pa_nil)) (nomark _)) (pss_cons (ps_set (i := 6) sc_div.nd rfl (Or.inl rfl) (pe_op op_sub (pe_callB call_len_seq (by rfl) B.b_len (by decide +kernel) (pa_cons (pv 3) pa_nil)) (pe_callB call_len_seq (by rfl) B.b_len (by decide +kernel) (pa_cons (pv 1) pa_nil))))
      (pss_cons (ps_set (i := 7) sc_div.nd rfl (Or.inl rfl) (pe_callBfun cr_gcd (by rfl) g_gcd (pa_cons (pe_ix ix_list (pv 1) (pe_un un_neg pe_int) (fun _ _ => rfl)) (pa_cons (pe_ix ix_list (pv 3) (pe_un un_neg pe_int) (fun _ _ => rfl)) pa_nil))))
      (pss_cons (ps_asg (pe_tup (pa_cons (pe_op op_fdivZ (pe_ix ix_list (pv 1) (pe_un un_neg pe_int) (fun _ _ => rfl)) (pv 7)) (pa_cons (pe_op op_fdivZ (pe_ix ix_list (pv 3) (pe_un un_neg pe_int) (fun _ _ => rfl)) (pv 7)) pa_nil))) (pg_tup (by rfl) (pgs_cons (pg_name (i := 8) sc_div.nd rfl (Or.inr rfl)) (pgs_cons (pg_name (i := 9) sc_div.nd rfl (Or.inr rfl)) pgs_nil))))
      (pss_cons (ps_expr (pe_bm PySem.F.plainAttrs_list PySem.F.slot_list_append PySem.F.type_list_append mt_append (pv 5) (pa_cons (pe_tup (pa_cons (pv 6) (pa_cons (pv 8) (pa_cons (pv 9) pa_nil)))) pa_nil)))
      (pss_cons (ps_set (i := 10) sc_div.nd rfl (Or.inl rfl) (pe_lst (StX.pa_star (pe_lc (own := [("_", 12)]) (g := gName 12) (tt := tYes) rfl sc_div.nd (pi_range1 (by rfl) D.b_range (pa_cons (pv 6) pa_nil)) (blkOk_by (N := ["high", "low", "prime", "rest", "quotient", "steps", "place", "common", "keep", "take", "shifted", "times", "_", "one", "other"]) (sc := defScope s_div) (by decide +kernel)) (fun _ _ _ _ _ => pg_name (i := 12) sc_div.nd rfl (Or.inl rfl)) (fun _ _ _ _ _ => pts_nil) (fun _ _ _ _ _ => pe_int)) (StX.pa_star (pv 1) pa_nil))))
      (pss_one (ps_set (i := 3) sc_div.nd rfl (Or.inl rfl) (pe_call G_trimmed (hr.mono (by decide)) rfl m_trimmed k_trimmed b_trimmed .nil pass0 (pa_cons (pe_lc (own := [("one", 13), ("other", 14)]) (g := gTup K 2 (gCons (gName 13) (gCons (gName 14) gNil))) (tt := tYes) rfl sc_div.nd (pi_zip (by rfl) b_zip (pa_cons (pv 3) (pa_cons (pv 10) pa_nil))) (blkOk_by (N := ["high", "low", "prime", "rest", "quotient", "steps", "place", "common", "keep", "take", "shifted", "times", "_", "one", "other"]) (sc := defScope s_div) (by decide +kernel)) (fun _ _ _ _ _ => (show PG _ _ (gTup K 2 (gCons (gName 13) (gCons (gName 14) gNil))) from pg_tup (by rfl) (pgs_cons (pg_name (i := 13) sc_div.nd rfl (Or.inl rfl)) (pgs_cons (pg_name (i := 14) sc_div.nd rfl (Or.inl rfl)) pgs_nil)))) (fun _ _ _ _ _ => pts_nil) (fun _ _ _ _ _ => pe_op op_sub (pe_op op_mulW (pv 8) (pv 13)) (pe_op op_mulW (pv 9) (pv 14)))) (pa_cons (pv 2) pa_nil)))))))))))
      (pss_cons (ps_set (i := 11) sc_div.nd rfl (Or.inl rfl) pe_int)
      (pss_cons (ps_for PassesOwn.never rfl (RT.pi_revA (by rfl) b_reversed (pv 5)) (pg_tup (by rfl) (pgs_cons (pg_name (i := 6) sc_div.nd rfl (Or.inl rfl)) (pgs_cons (pg_name (i := 8) sc_div.nd rfl (Or.inr rfl)) (pgs_cons (pg_name (i := 9) sc_div.nd rfl (Or.inr rfl)) pgs_nil)))) (pss_cons (ps_asg (pe_op op_mulW (pv 9) (pv 11)) (pg_sub (pv 4) (pv 6) set_list))
      (pss_one (ps_set (i := 11) sc_div.nd rfl (Or.inl rfl) (pe_op op_mulW (pv 11) (pv 8))))))
      (pss_one (ps_ret (pe_tup (pa_cons (pv 11) (pa_cons (pv 4) (pa_cons (pv 3) pa_nil)))))))))))), ?_⟩
    have e24 : (sizeLine : Nat) = 16777216 := sizeLine_eq
    refine ⟨_, rfl, _, rfl, l1, p, high, rfl, h1, pnn, by omega, fun lr H1 s1 _ hr1 => ?_⟩
    obtain ⟨tl1, tl2, tl3⟩ := trimZ_spec _ (modZ p high) rfl
    have te : ∀ k, EqM p (gz (trimZ (modZ p high)) k) (gz high k) := fun k => trim_eq k
    have tb : ∀ k, (gz (trimZ (modZ p high)) k).natAbs < 2 ^ b ∧ (p ≠ 0 → 0 ≤ gz (trimZ (modZ p high)) k ∧ gz (trimZ (modZ p high)) k < p) := fun k => by
      rw [tl1]
      exact modZ_bd pnn pb (hb k)
    rw [modZ_len] at tl2
    generalize trimZ (modZ p high) = rest0 at *
    obtain ⟨m, em⟩ : ∃ m : Int, m = (rest0.length : Int) - (low.length : Int) + 1 := ⟨_, rfl⟩
    refine ⟨_, rfl, lr, _, rfl, .inl (SqL.of hr1), _, rfl, l2, _, rfl, .inl (SqL.of (s1 _ _ h2)), _, _, rfl, rfl, _, _, rfl, rfl, m, ?_, by omega, by omega, fun Lq hLq => ?_⟩
    · rw [List.length_map, List.length_map, em]
    refine lc_range (lo := 0) (n := m.toNat) (fun i H' => Same H1 H' ∧ H' Lq = some (.lst (vts i fun _ => 0))) ?_ ?_ ?_
    · exact ⟨same_new (Same.refl _) hLq, upd_same⟩
    · rintro i H' hi ⟨s2, h3⟩
      refine ⟨rfl, _, h3, by rw [vts_len]; omega, same_at s2 hLq, ?_⟩
      rw [vts_succ]
      exact upd_same
    rintro H2 ⟨s2, hq2⟩
    refine ⟨(by show 0 ≤ sizeLine; decide), fun Ls hLs => ?_⟩
    have s3 := same_new (o := .lst []) (Same.refl H2) hLs
    have hs3 := upd_same (H := H2) (a := Ls) (o := .lst [])
    have hq3 := s3 _ _ hq2
    have s13 := (s1.trans s2).trans s3
    have hr3 := (s2.trans s3) _ _ hr1
    have nHs : H Ls = none := by
      cases e : H Ls with
      | none => rfl
      | some o =>
        rw [(s1.trans s2) _ _ e] at hLs
        cases hLs
    have nqs : Lq ≠ Ls := ne_of_none hq2 hLs
    generalize upd H2 Ls (.lst []) = H3 at *
    obtain ⟨N, eN⟩ : ∃ N : Nat, N = m.toNat := ⟨_, rfl⟩
    rw [← eN] at hq3
    have init : DivI p high low b N rest0.length rest0 [] := by
      refine ⟨tl3, fun p0 k => (tb k).2 p0, fun k => ?_, by simp, Nat.zero_le _, fun s h => (by cases h), List.Pairwise.nil, fun s h => (by cases h), (fun i s e => by simp at e), fun k => ?_⟩
      · show _ < 2 ^ (b + 0 * (b + 2))
        rw [Nat.zero_mul, Nat.add_zero]
        exact (tb k).1
      · have z : pl (qfS []) low k = 0 := sz_zero fun i _ => by show (0 : Int) * _ = 0; omega
        rw [z]
        obtain ⟨c, hc⟩ := (te k).symm
        exact ⟨c, by rw [hc]; show 1 * _ = _; omega⟩
    refine ⟨fun σ H' => ∃ (lr : Addr) (rest : List Int) (st : List (Nat × Int × Int)) (vs : List V) (z6 z7 z8 z9 z10 : Option V), σ = [some (.ref l1), some (.ref l2), some (.int p), some (.ref lr), some (.ref Lq), some (.ref Ls), z6, z7, z8, z9, z10, none, none, none, none] ∧ Same H H' ∧ H' lr = some (.lst (rest.map V.int)) ∧ H' Lq = some (.lst (vts N fun _ => 0)) ∧ H' Ls = some (.lst vs) ∧ StV H' vs st ∧ DivI p high low b N rest0.length rest st ∧ rest.length < low.length, ?_, ?_⟩
    · refine while_go (fun σ H' => ∃ (lr : Addr) (rest : List Int) (st : List (Nat × Int × Int)) (vs : List V) (z6 z7 z8 z9 z10 : Option V), σ = [some (.ref l1), some (.ref l2), some (.int p), some (.ref lr), some (.ref Lq), some (.ref Ls), z6, z7, z8, z9, z10, none, none, none, none] ∧ Same H H' ∧ H' lr = some (.lst (rest.map V.int)) ∧ H' Lq = some (.lst (vts N fun _ => 0)) ∧ H' Ls = some (.lst vs) ∧ StV H' vs st ∧ DivI p high low b N rest0.length rest st)
        (fun σ H' => match σ with | [_, _, _, some (.ref a), _, _, _, _, _, _, _, _, _, _, _] => (match H' a with | some (.lst xs) => xs.length | _ => 0) | _ => 0) ⟨lr, rest0, [], [], none, none, none, none, none, rfl, s13, hr3, hq3, hs3, ⟨rfl, fun i v s e => by simp at e⟩, init⟩ ?_
      rintro σ H4 ⟨lr, rest, st, vs, z6, z7, z8, z9, z10, rfl, s4, hr4, hq4, hs4, sv, I⟩
      refine ⟨_, rfl, lr, _, rfl, .inl (SqL.of hr4), _, rfl, l2, _, rfl, .inl (SqL.of (s4 _ _ h2)), _, _, rfl, rfl, _, rfl, ?_⟩
      refine ite2 (fun c => ?_) (fun c => ?_)
      · have le : low.length ≤ rest.length := by
          have := of_decide_eq_true c
          rw [List.length_map, List.length_map] at this
          omega
        have r1 : 1 ≤ rest.length := by omega
        have rl : gz rest (rest.length - 1) ≠ 0 := by
          rcases I.top with z | z
          · rw [z] at r1
            simp at r1
          · exact z
        obtain ⟨pc, epc⟩ : ∃ pc : Nat, pc = rest.length - low.length := ⟨_, rfl⟩
        obtain ⟨a, ea⟩ : ∃ a : Int, a = gz low (low.length - 1) := ⟨_, rfl⟩
        obtain ⟨r, er⟩ : ∃ r : Int, r = gz rest (rest.length - 1) := ⟨_, rfl⟩
        rw [← ea] at lead
        rw [← er] at rl
        obtain ⟨g, eg⟩ : ∃ g : Int, g = ((Nat.gcd a.natAbs r.natAbs : Nat) : Int) := ⟨_, rfl⟩
        have g0 : 0 < g := by
          have : 0 < Nat.gcd a.natAbs r.natAbs := Nat.gcd_pos_of_pos_left _ (by omega)
          omega
        have ga : ∃ k, a = g * k := by
          rw [eg]
          exact Int.natAbs_dvd_natAbs.mp (by rw [Int.natAbs_natCast]; exact Nat.gcd_dvd_left _ _)
        have gr : ∃ k, r = g * k := by
          rw [eg]
          exact Int.natAbs_dvd_natAbs.mp (by rw [Int.natAbs_natCast]; exact Nat.gcd_dvd_right _ _)
        obtain ⟨k1, k2, k3, k4⟩ := cut_gcd lead ga g0
        obtain ⟨t1, t2, t3, _⟩ := cut_gcd rl gr g0
        obtain ⟨keep, ek⟩ : ∃ x, x = a.fdiv g := ⟨_, rfl⟩
        obtain ⟨take, et⟩ : ∃ x, x = r.fdiv g := ⟨_, rfl⟩
        rw [← ek] at k1 k2 k3 k4
        rw [← et] at t1 t2 t3
        have ab : a.natAbs < 2 ^ b := by rw [ea]; exact lb _
        have rb : r.natAbs < 2 ^ (b + st.length * (b + 2)) := by rw [er]; exact I.big _
        have g8 : g.natAbs < 2 ^ 8000 := by
          have h1 : g.natAbs ≤ a.natAbs := by
            obtain ⟨k, hk⟩ := ga
            rw [hk, Int.natAbs_mul]
            exact Nat.le_mul_of_pos_right _ (by
              have : k ≠ 0 := fun z => lead (by rw [hk, z, Int.mul_zero])
              omega)
          exact Nat.lt_of_lt_of_le (Nat.lt_of_le_of_lt h1 ab) (Nat.pow_le_pow_right (by decide) (by omega))
        have hl2 := s4 _ _ h2
        have al : (low.map V.int)[(low.map V.int).length - 1]? = some (V.int a) := by rw [ea]; exact map_last low1
        have ar : (rest.map V.int)[(rest.map V.int).length - 1]? = some (V.int r) := by rw [er]; exact map_last r1
        have nl : 1 ≤ (low.map V.int).length := by rw [List.length_map]; exact low1
        have nr : 1 ≤ (rest.map V.int).length := by rw [List.length_map]; exact r1
        refine ⟨fun σ' H'' => ∃ (lr' : Addr) (rest' : List Int) (st' : List (Nat × Int × Int)) (vs' : List V) (z6 z7 z8 z9 z10 : Option V), σ' = [some (.ref l1), some (.ref l2), some (.int p), some (.ref lr'), some (.ref Lq), some (.ref Ls), z6, z7, z8, z9, z10, none, none, none, none] ∧ Same H H'' ∧ H'' lr' = some (.lst (rest'.map V.int)) ∧ H'' Lq = some (.lst (vts N fun _ => 0)) ∧ H'' Ls = some (.lst vs') ∧ StV H'' vs' st' ∧ DivI p high low b N rest0.length rest' st' ∧ rest'.length < rest.length, fun σ' H'' h => ?_, ?_⟩
        · obtain ⟨lr', rest', st', vs', y6, y7, y8, y9, y10, rfl, s5, hr5, hq5, hs5, sv5, I5, lt5⟩ := h
          refine ⟨rest'.length, ?_, ?_, lr', rest', st', vs', y6, y7, y8, y9, y10, rfl, s5, hr5, hq5, hs5, sv5, I5⟩
          · show rest'.length < (match H4 lr with | some (.lst xs) => xs.length | _ => 0)
            rw [hr4]
            show _ < (rest.map V.int).length
            rw [List.length_map]
            exact lt5
          · show rest'.length = (match H'' lr' with | some (.lst xs) => xs.length | _ => 0)
            rw [hr5]
            show _ = (rest'.map V.int).length
            rw [List.length_map]
        refine ⟨_, rfl, lr, _, rfl, .inl (SqL.of hr4), _, rfl, l2, _, rfl, .inl (SqL.of hl2), _, _, rfl, rfl, ?_⟩
        have ep : ((rest.map V.int).length : Int) - ((low.map V.int).length : Int) = (pc : Int) := by rw [List.length_map, List.length_map]; omega
        refine ⟨_, rfl, _, rfl, _, _, _, _, rfl, rfl, SqL.of hl2, at_last nl al, _, rfl, _, rfl, _, _, _, _, rfl, rfl, SqL.of hr4, at_last nr ar, a, r, rfl, ?_⟩
        rw [← eg]
        refine ⟨_, rfl, _, rfl, _, _, _, _, rfl, rfl, SqL.of hl2, at_last nl al, _, rfl, _, _, rfl, rfl, ⟨by omega, g8⟩, _, rfl, _, rfl, _, _, _, _, rfl, rfl, SqL.of hr4, at_last nr ar, _, rfl, _, _, rfl, rfl, ⟨by omega, g8⟩, (by show 2 ≤ sizeLine; decide), fun T hT => ?_⟩
        subst ek
        subst et
        have sT := same_new (o := .tup [V.int (a.fdiv g), V.int (r.fdiv g)]) (Same.refl H4) hT
        refine ⟨T, _, rfl, SqT.of upd_same, rfl, _, _, rfl, _, _, rfl, rfl, ?_⟩
        have hs5 := sT _ _ hs4
        have hq5 := sT _ _ hq4
        have hr5 := sT _ _ hr4
        have sv5 := sv.same sT
        have s5 := s4.trans sT
        generalize upd H4 T (.tup [V.int (a.fdiv g), V.int (r.fdiv g)]) = H5 at *
        have lvs := sv.len
        have cn := I.cnt
        refine ⟨_, rfl, .inl ⟨rfl, _, SqL.of hs5⟩, _, rfl, _, rfl, _, rfl, (by show 3 ≤ sizeLine; decide), fun T2 hT2 => ?_⟩
        have sT2 := same_new (o := .tup [V.int (((rest.map V.int).length : Int) - ((low.map V.int).length : Int)), V.int (a.fdiv g), V.int (r.fdiv g)]) (Same.refl H5) hT2
        have hs6 := sT2 _ _ hs5
        refine ⟨Ls, vs, _, rfl, rfl, hs6, by omega, ?_⟩
        have tup6 := upd_same (H := H5) (a := T2) (o := .tup [V.int (((rest.map V.int).length : Int) - ((low.map V.int).length : Int)), V.int (a.fdiv g), V.int (r.fdiv g)])
        have nT2 : T2 ≠ Ls := fun z => by
          rw [z, hs5] at hT2
          cases hT2
        have hq6 := (upd_ne (o := .lst (vs ++ [V.ref T2])) nqs).trans (sT2 _ _ hq5)
        have nrs : lr ≠ Ls := fun z => by
          rw [z, hs4] at hr4
          have e : vs = rest.map V.int := by injection (Option.some.inj hr4)
          have l0 : 0 < vs.length := by rw [e, List.length_map]; omega
          have l3 : 0 < st.length := by rw [← sv.len]; exact l0
          obtain ⟨q, e1, _⟩ := sv.at_ 0 _ _ (List.getElem?_eq_getElem l0) (List.getElem?_eq_getElem l3)
          have e2 : vs[0]? = some (V.int rest[0]) := by rw [e, List.getElem?_map, List.getElem?_eq_getElem (by omega)]; rfl
          rw [List.getElem?_eq_getElem l0, e1] at e2
          cases e2
        have hr6 := (upd_ne (o := .lst (vs ++ [V.ref T2])) nrs).trans (sT2 _ _ hr5)
        have s6 : Same H (upd (upd H5 T2 (.tup [V.int (((rest.map V.int).length : Int) - ((low.map V.int).length : Int)), V.int (a.fdiv g), V.int (r.fdiv g)])) Ls (.lst (vs ++ [V.ref T2]))) := same_at (s5.trans sT2) nHs
        have sv6 : StV (upd (upd H5 T2 (.tup [V.int (((rest.map V.int).length : Int) - ((low.map V.int).length : Int)), V.int (a.fdiv g), V.int (r.fdiv g)])) Ls (.lst (vs ++ [V.ref T2]))) (vs ++ [V.ref T2]) (st ++ [(pc, a.fdiv g, r.fdiv g)]) := by
          refine StV.snoc ((sv5.same sT2).upd hs6) ?_
          show _ = some (HO.tup [V.int (pc : Int), V.int (a.fdiv g), V.int (r.fdiv g)])
          rw [← ep]
          exact (upd_ne nT2).trans tup6
        have hs7 := upd_same (H := upd H5 T2 (.tup [V.int (((rest.map V.int).length : Int) - ((low.map V.int).length : Int)), V.int (a.fdiv g), V.int (r.fdiv g)])) (a := Ls) (o := .lst (vs ++ [V.ref T2]))
        generalize upd (upd H5 T2 (.tup [V.int (((rest.map V.int).length : Int) - ((low.map V.int).length : Int)), V.int (a.fdiv g), V.int (r.fdiv g)])) Ls (.lst (vs ++ [V.ref T2])) = H6 at *
        have hl6 := s6 _ _ h2
        refine ⟨_, rfl, (pc : Int), (by show [V.int (((rest.map V.int).length : Int) - ((low.map V.int).length : Int))] = [V.int (pc : Int)]; rw [ep]), by omega, by omega, fun Z hZ => ?_⟩
        refine lc_range (lo := 0) (n := pc) (fun i H' => Same H6 H' ∧ H' Z = some (.lst (vts i fun _ => 0))) ?_ ?_ ?_
        · exact ⟨same_new (Same.refl _) hZ, upd_same⟩
        · rintro i H' hi ⟨s7, h7⟩
          refine ⟨rfl, _, h7, by rw [vts_len]; omega, same_at s7 hZ, ?_⟩
          rw [vts_succ]
          exact upd_same
        rintro H7 ⟨s7, hz7⟩
        refine ⟨Z, _, rfl, .inr (SqL.of hz7), _, rfl, l2, _, rfl, .inr (SqL.of (s7 _ _ hl6)), by simp [vts_len]; omega, fun Sh hSh => ?_⟩
        have s8 := same_new (o := .lst (vts pc (fun _ => 0) ++ (low.map V.int ++ []))) (Same.refl H7) hSh
        have hsh := upd_same (H := H7) (a := Sh) (o := .lst (vts pc (fun _ => 0) ++ (low.map V.int ++ [])))
        have s78 := s7.trans s8
        have hs8 := s78 _ _ hs7
        have hq8 := s78 _ _ hq6
        have hr8 := s78 _ _ hr6
        have sv8 := sv6.same s78
        have S8 := s6.trans s78
        generalize upd H7 Sh (.lst (vts pc (fun _ => 0) ++ (low.map V.int ++ []))) = H8 at *
        obtain ⟨sh, esh⟩ : ∃ sh : Nat → Int, sh = fun j => if pc ≤ j then gz low (j - pc) else 0 := ⟨_, rfl⟩
        have shat : ∀ j, j < rest.length → (vts pc (fun _ => 0) ++ (low.map V.int ++ []))[j]? = some (V.int (sh j)) := fun j hj => by
          rw [esh, List.append_nil]
          by_cases cj : j < pc
          · rw [List.getElem?_append_left (by rw [vts_len]; exact cj), vts_at cj]
            show some (V.int 0) = some (V.int (if pc ≤ j then _ else 0))
            rw [if_neg (by omega)]
          · have lj : j - pc < low.length := by omega
            rw [List.getElem?_append_right (by rw [vts_len]; omega), vts_len, List.getElem?_map, List.getElem?_eq_getElem lj]
            show some (V.int _) = some (V.int (if pc ≤ j then gz low (j - pc) else 0))
            rw [if_pos (by omega), gz_lt lj]
        have shb : ∀ j, (sh j).natAbs < 2 ^ b := fun j => by
          rw [esh]
          show (if pc ≤ j then gz low (j - pc) else 0).natAbs < _
          split
          · exact lb _
          · exact Nat.pow_pos (by decide)
        obtain ⟨cf, ecf⟩ : ∃ cf : Nat → Int, cf = fun j => a.fdiv g * gz rest j - r.fdiv g * sh j := ⟨_, rfl⟩
        have cfe : ∀ j, a.fdiv g * gz rest j - r.fdiv g * sh j = cf j := fun j => by rw [ecf]
        have sN : st.length + 1 ≤ N := by
          have := I.cnt
          omega
        have RB : b + st.length * (b + 2) ≤ 8000 := by
          have h2 : st.length * (b + 2) ≤ S * (b + 2) := Nat.mul_le_mul_right _ (by omega)
          omega
        have m1 : ∀ j, (a.fdiv g).natAbs < 2 ^ b ∧ (gz rest j).natAbs < 2 ^ (b + st.length * (b + 2)) := fun j => ⟨Nat.lt_of_le_of_lt k2 ab, I.big j⟩
        have m2 : (r.fdiv g).natAbs < 2 ^ (b + st.length * (b + 2)) := Nat.lt_of_le_of_lt t2 rb
        refine ⟨_, rfl, _, rfl, lr, Sh, _, _, rfl, SqL.of hr8, SqL.of hsh, fun Cc hCc => ?_⟩
        refine lc_it (walk_zip (n := rest.length) (xs := rest.map V.int) (ys := vts pc (fun _ => 0) ++ (low.map V.int ++ [])) (by rw [List.length_map, List.length_append, vts_len, List.append_nil, List.length_map]; omega)) (fun i H' => Same H8 H' ∧ H' Cc = some (.lst (vts i cf))) ?_ ?_ ?_ ?_
        · exact ⟨same_new (Same.refl _) hCc, upd_same⟩
        · rintro i H' _ ⟨s9, _⟩
          exact ⟨SqL.of (s9 _ _ hr8), SqL.of (s9 _ _ hsh)⟩
        · rintro i x H9 H9' hi ⟨s9, h9⟩ ⟨T3, x1, x2, rfl, hT3, rfl, e1, e2⟩
          have ei : (rest.map V.int)[i]? = some (V.int (gz rest i)) := by rw [List.getElem?_map, List.getElem?_eq_getElem hi, gz_lt hi]; rfl
          have ex1 : x1 = V.int (gz rest i) := (Option.some.inj (ei.symm.trans e1)).symm
          have ex2 : x2 = V.int (sh i) := (Option.some.inj ((shat i hi).symm.trans e2)).symm
          subst ex1
          subst ex2
          have sT3 := same_new (o := .tup [V.int (gz rest i), V.int (sh i)]) (Same.refl H9) hT3
          have h10 := sT3 _ _ h9
          refine ⟨T3, _, rfl, SqT.of upd_same, rfl, _, _, rfl, _, _, rfl, rfl, rfl, _, rfl, _, rfl, _, _, rfl, rfl, mulB (n := 8000) (m := 8000) (Nat.lt_of_lt_of_le (m1 i).1 (Nat.pow_le_pow_right (by decide) (by omega))) (Nat.lt_of_lt_of_le (m1 i).2 (Nat.pow_le_pow_right (by decide) RB)) (by decide), _, rfl, _, rfl, _, _, rfl, rfl, mulB (n := 8000) (m := 8000) (Nat.lt_of_lt_of_le m2 (Nat.pow_le_pow_right (by decide) RB)) (Nat.lt_of_lt_of_le (shb i) (Nat.pow_le_pow_right (by decide) (by omega))) (by decide), _, _, rfl, rfl, ?_⟩
          refine ⟨_, h10, by rw [vts_len]; omega, same_at (s9.trans sT3) hCc, ?_⟩
          rw [vts_succ, ← cfe]
          exact upd_same
        rintro H9 ⟨s9, h9⟩
        have evm : vts rest.length cf = ((List.range rest.length).map cf).map V.int := by
          unfold vts
          rw [List.map_map]
          rfl
        rw [evm] at h9
        refine ⟨_, rfl, Cc, p, _, rfl, h9, pnn, by rw [List.length_map, List.length_range]; omega, fun lr2 H10 s10 _ hr10 => ?_⟩
        have S10 := (S8.trans s9).trans s10
        have s910 := s9.trans s10
        obtain ⟨comb, ecb⟩ : ∃ comb : List Int, comb = (List.range rest.length).map cf := ⟨_, rfl⟩
        rw [← ecb] at hr10
        have lc : comb.length = rest.length := by rw [ecb, List.length_map, List.length_range]
        have gc : ∀ j, gz comb j = if j < rest.length then cf j else 0 := fun j => by
          by_cases cj : j < rest.length
          · rw [if_pos cj, gz_lt (by rw [lc]; exact cj)]
            simp [ecb]
          · rw [if_neg cj, gz_ge (by rw [lc]; omega)]
        obtain ⟨q1, q2, q3⟩ := trimZ_spec _ (modZ p comb) rfl
        have tq : ∀ j, EqM p (gz (trimZ (modZ p comb)) j) (gz comb j) := fun j => trim_eq j
        rw [modZ_len, lc] at q2
        have R1 : b + (st.length + 1) * (b + 2) = b + st.length * (b + 2) + (b + 2) := by rw [Nat.add_mul, Nat.one_mul, Nat.add_assoc]
        have cb : ∀ j, (gz comb j).natAbs < 2 ^ (b + (st.length + 1) * (b + 2)) := fun j => by
          rw [gc, R1]
          split
          · rw [← cfe]
            have x1 : (a.fdiv g * gz rest j).natAbs < 2 ^ (b + (b + st.length * (b + 2))) := wide_lt (m1 j).1 (m1 j).2
            have x2 : (r.fdiv g * sh j).natAbs < 2 ^ (b + st.length * (b + 2) + b) := wide_lt m2 (shb j)
            rw [Nat.add_comm b] at x1
            have x3 : 2 ^ (b + st.length * (b + 2) + (b + 2)) = 2 ^ (b + st.length * (b + 2) + b) * 4 := by rw [← Nat.add_assoc, Nat.pow_add (n := 2)]
            rw [x3]
            generalize 2 ^ (b + st.length * (b + 2) + b) = X at *
            omega
          · exact Nat.pow_pos (by decide)
        have pb2 : p.natAbs < 2 ^ (b + (st.length + 1) * (b + 2)) := Nat.lt_of_lt_of_le pb (Nat.pow_le_pow_right (by decide) (by omega))
        have mz : ∀ j, gz comb j = 0 → gz (modZ p comb) j = 0 := fun j z => by
          unfold modZ
          split
          · exact z
          · by_cases cj : j < comb.length
            · rw [gz_lt cj] at z
              rw [gz_lt (by rw [List.length_map]; exact cj), List.getElem_map, z, Int.zero_emod]
            · rw [gz_ge (by rw [List.length_map]; omega)]
        have lst0 : gz comb (rest.length - 1) = 0 := by
          rw [gc, if_pos (by omega), ← cfe, esh]
          show a.fdiv g * gz rest (rest.length - 1) - r.fdiv g * (if pc ≤ rest.length - 1 then gz low (rest.length - 1 - pc) else 0) = 0
          rw [if_pos (by omega), show rest.length - 1 - pc = low.length - 1 by omega, ← ea, ← er]
          generalize a.fdiv g = kk at *
          generalize r.fdiv g = tt at *
          rw [← k1, ← t1]
          grind
        have ltr : (trimZ (modZ p comb)).length < rest.length := by
          rcases Nat.lt_or_ge (trimZ (modZ p comb)).length rest.length with h | h
          · exact h
          · have e : (trimZ (modZ p comb)).length = rest.length := by omega
            rcases q3 with z | z
            · rw [z] at e
              simp at e
              omega
            · rw [e, q1, mz _ lst0] at z
              exact absurd rfl z
        refine ⟨lr2, _, st ++ [(pc, a.fdiv g, r.fdiv g)], vs ++ [V.ref T2], _, _, _, _, _, rfl, S10, hr10, s910 _ _ hq8, s910 _ _ hs8, sv8.same s910, ⟨q3, fun p0 j => ?_, fun j => ?_, ?_, by rw [List.length_append]; exact sN, fun s hs => ?_, ?_, fun s hs => ?_, (fun i s e => by
          rcases get_snoc e with e | ⟨i1, rfl⟩
          · exact I.tk i s e
          · rw [i1]
            exact m2), fun j => ?_⟩, ltr⟩
        · rw [q1]
          exact (modZ_bd pnn pb2 (cb j)).2 p0
        · rw [q1, List.length_append]
          exact (modZ_bd pnn pb2 (cb j)).1
        · rw [List.length_append]
          show _ + (st.length + 1) ≤ _
          omega
        · rcases List.mem_append.mp hs with hs | hs
          · have := I.plc s hs
            omega
          · rw [List.mem_singleton.mp hs]
            show (trimZ (modZ p comb)).length < pc + low.length ∧ pc < N
            omega
        · refine List.pairwise_append.mpr ⟨I.dsc, List.pairwise_singleton _ _, fun x hx y hy => ?_⟩
          rw [List.mem_singleton.mp hy]
          show pc < x.1
          have := I.plc x hx
          omega
        · rcases List.mem_append.mp hs with hs | hs
          · exact I.kp s hs
          · rw [List.mem_singleton.mp hs]
            refine ⟨k3, Nat.lt_of_le_of_lt k2 ab, Nat.lt_of_lt_of_le m2 (Nat.pow_le_pow_right (by decide) (Nat.add_le_add_left (Nat.mul_le_mul_right _ (by omega)) _)), fun p0 => ?_⟩
            have lw := lowp_ p0 (low.length - 1)
            rw [← ea] at lw
            have := k4 (by omega)
            show 1 ≤ a.fdiv g ∧ a.fdiv g < p
            omega
        · refine div_step I.idn (fun i => ?_) j
          refine (tq i).trans ?_
          rw [gc]
          by_cases ci : i < rest.length
          · rw [if_pos ci, ← cfe, esh]
            exact EqM.refl _ _
          · rw [if_neg ci, gz_ge (l := rest) (by omega)]
            have z : (if pc ≤ i then gz low (i - pc) else 0) = 0 := by
              split
              · exact gz_ge (by omega)
              · rfl
            rw [z]
            exact ⟨0, by omega⟩
      · have lt : rest.length < low.length := by
          have : ¬ ((rest.map V.int).length : Int) ≥ ((low.map V.int).length : Int) := fun e => c (decide_eq_true e)
          rw [List.length_map, List.length_map] at this
          omega
        exact ⟨lr, rest, st, vs, z6, z7, z8, z9, z10, rfl, s4, hr4, hq4, hs4, sv, I, lt⟩
    rintro σ H4 ⟨lr, rest, st, vs, z6, z7, z8, z9, z10, rfl, s4, hr4, hq4, hs4, sv, I, lt⟩
    have nHq : H Lq = none := by
      cases e : H Lq with
      | none => rfl
      | some o =>
        rw [s1 _ _ e] at hLq
        cases hLq
    have lv := sv.len
    have cn := I.cnt
    have hst : st.length ≤ 100 := by omega
    have NS : N ≤ S := by omega
    have stn := I.stn
    have RB2 : b + N * (b + 2) ≤ 8000 := by
      have h2 : N * (b + 2) ≤ S * (b + 2) := Nat.mul_le_mul_right _ NS
      omega
    have RB : b + st.length * (b + 2) ≤ 8000 := by
      have h2 : st.length * (b + 2) ≤ S * (b + 2) := Nat.mul_le_mul_right _ (by omega)
      omega
    have bS2 : b * S ≤ 7000 := by
      have h2 : S * b ≤ S * (b + 2) := Nat.mul_le_mul_left _ (by omega)
      rw [Nat.mul_comm]
      omega
    have tmb : ∀ j, (tmS (st.drop j)).natAbs ≤ 2 ^ 7000 := fun j => by
      refine Nat.le_trans (tm_abs (b := b) fun s hs => (I.kp s (List.mem_of_mem_drop hs)).2.1) (Nat.pow_le_pow_right (by decide) ?_)
      have h1 : (st.drop j).length ≤ S := by rw [List.length_drop]; omega
      exact Nat.le_trans (Nat.mul_le_mul_left b h1) bS2
    refine ⟨_, rfl, Ls, vs, rfl, .inl ⟨SqL.of hs4, ?_⟩⟩
    refine RT.for_Itv (fun i σ H' => ∃ z6 z8 z9, σ = [some (.ref l1), some (.ref l2), some (.int p), some (.ref lr), some (.ref Lq), some (.ref Ls), z6, z7, z8, z9, z10, some (.int (tmS (st.drop (st.length - i)))), none, none, none] ∧ Same H H' ∧ H' Lq = some (.lst (vts N (qfS (st.drop (st.length - i))))) ∧ H' lr = some (.lst (rest.map V.int)) ∧ H' Ls = some (.lst vs) ∧ StV H' vs st) ?_ ?_ ?_ ?_
    · refine ⟨z6, z8, z9, ?_, s4, ?_, hr4, hs4, sv⟩
      · rw [Nat.sub_zero, List.drop_length]
        rfl
      · rw [Nat.sub_zero, List.drop_length]
        exact hq4
    · rintro i σ H' ⟨_, _, _, _, _, _, _, h, _⟩
      exact SqL.of h
    · rintro i x σ H5 hi hx ⟨z6, z8, z9, rfl, s5, hq5, hr5, hs5, sv5⟩
      have li : st.length - 1 - i < st.length := by omega
      rw [lv] at hx
      obtain ⟨q, rfl, hqt⟩ := sv5.at_ _ _ _ hx (List.getElem?_eq_getElem li)
      have dr : st.drop (st.length - (i + 1)) = st[st.length - 1 - i] :: st.drop (st.length - i) := by
        have e1 : st.length - (i + 1) = st.length - 1 - i := by omega
        rw [e1, List.drop_eq_getElem_cons li]
        congr 2
        omega
      have mem := List.getElem_mem li
      have pl1 := (I.plc _ mem).2
      have kp1 := I.kp _ mem
      have below : ∀ y ∈ st.drop (st.length - i), y.1 ≠ st[st.length - 1 - i].1 := fun y hy => by
        have d := I.dsc
        rw [← List.take_append_drop (st.length - (i + 1)) st, dr] at d
        have d2 := (List.pairwise_append.mp d).2.1
        have := (List.pairwise_cons.mp d2).1 y hy
        omega
      have nlq : lr ≠ Lq := fun z => by
        rw [z, hq4] at hr4
        have e : vts N (fun _ => 0) = rest.map V.int := by injection (Option.some.inj hr4)
        have el : N = rest.length := by
          have := congrArg List.length e
          rw [vts_len, List.length_map] at this
          exact this
        rcases I.top with t | t
        · rw [t] at el
          simp at el
          omega
        · refine t ?_
          have lt2 : rest.length - 1 < rest.length := by omega
          have e3 : (rest.map V.int)[rest.length - 1]? = some (V.int 0) := by rw [← e]; exact vts_at (by omega)
          rw [List.getElem?_map, List.getElem?_eq_getElem lt2] at e3
          rw [gz_lt lt2]
          exact V.int.inj (Option.some.inj e3)
      rw [dr]
      have tb1 := tmb (st.length - i)
      generalize st[st.length - 1 - i] = s at *
      generalize hrr : st.drop (st.length - i) = rr at *
      have t78 : (tmS rr).natAbs < 2 ^ 8000 := Nat.lt_of_le_of_lt tb1 (Nat.pow_lt_pow_right (by decide) (by decide))
      refine ⟨q, _, rfl, SqT.of hqt, rfl, _, _, rfl, _, _, rfl, _, _, rfl, rfl, ?_⟩
      refine ⟨_, rfl, _, rfl, _, _, rfl, rfl, mulB (n := 8000) (m := 8000) (Nat.lt_of_lt_of_le kp1.2.2.1 (Nat.pow_le_pow_right (by decide) RB2)) t78 (by decide), _, rfl, _, rfl, Lq, _, _, s.1, rfl, rfl, hq5, ixn rfl (by rw [vts_len]; exact pl1), ?_⟩
      refine ⟨_, rfl, _, rfl, _, _, rfl, rfl, mulB (n := 8000) (m := 8000) t78 (Nat.lt_of_lt_of_le kp1.2.1 (Nat.pow_le_pow_right (by decide) (by omega))) (by decide), ?_⟩
      have qz : qfS rr s.1 = 0 := qf_zero below
      refine ⟨some (.int (s.1 : Int)), some (.int s.2.1), some (.int s.2.2), ?_, same_at s5 nHq, ?_, (upd_ne nlq).trans hr5, (upd_ne nqs.symm).trans hs5, sv5.upd hq5⟩
      · show _ = [some (.ref l1), some (.ref l2), some (.int p), some (.ref lr), some (.ref Lq), some (.ref Ls), some (.int (s.1 : Int)), z7, some (.int s.2.1), some (.int s.2.2), z10, some (.int (s.2.1 * tmS rr)), none, none, none]
        rw [Int.mul_comm s.2.1]
        rfl
      · rw [vts_set pl1]
        rw [vts_congr (g := qfS (s :: rr)) fun k hk => by
          show (if k = s.1 then s.2.2 * tmS rr else qfS rr k) = (if k = s.1 then s.2.2 * tmS rr else 0) + qfS rr k
          by_cases c : k = s.1
          · rw [if_pos c, if_pos c, c, qz]
            omega
          · rw [if_neg c, if_neg c]
            omega]
        exact upd_same
    · rintro σ H5 ⟨z6, z8, z9, rfl, s5, hq5, hr5, hs5, sv5⟩
      rw [lv, Nat.sub_self, List.drop_zero] at hq5
      refine ⟨_, rfl, _, rfl, _, rfl, (by show 3 ≤ sizeLine; decide), fun q hq => ?_⟩
      rw [lv, Nat.sub_self, List.drop_zero]
      have s6 := same_new (o := .tup [.int (tmS st), .ref Lq, .ref lr]) (Same.refl H5) hq
      have tm0 := tmb 0
      rw [List.drop_zero] at tm0
      have stS : st.length ≤ S := by omega
      have bn : b + N * (b + 2) ≤ b + S * (b + 2) := Nat.add_le_add_left (Nat.mul_le_mul_right _ NS) _
      refine k q (tmS st) Lq lr N (qfS st) rest _ (s5.trans s6) upd_same (s6 _ _ hq5) (s6 _ _ hr5) lt I.top I.res (tm_ne fun s hs => (I.kp s hs).1) (fun hg p0 => tm_ndvd hg p0 fun s hs => (I.kp s hs).2.2.2 p0) NS (fun j hj => qf_zero fun s hs => by have := (I.plc s hs).2; omega) (Nat.le_trans (tm_abs (b := b) fun s hs => (I.kp s hs).2.1) (Nat.pow_le_pow_right (by decide) (Nat.mul_le_mul_left b stS))) (fun j => ?_) (fun j => Nat.lt_of_lt_of_le (I.big j) (Nat.pow_le_pow_right (by decide) (Nat.add_le_add_left (Nat.mul_le_mul_right _ stS) _))) I.idn
      have q := qf_abs2 (b := b) (k := j) 0 I.dsc (fun s hs => (I.kp s hs).2.1) (fun i s e => by rw [Nat.zero_add]; exact I.tk i s e)
      rw [Nat.zero_add] at q
      exact Nat.lt_of_lt_of_le q (Nat.pow_le_pow_right (by decide) (Nat.mul_le_mul_right _ stS))
end
end Sq

-- needs HandS.TupAny
namespace Sq
open PySem L2 PyProof.Rows
abbrev s_rd : Stmt := inClass (top 43) 0
def rdf (t : Addr) : List (Str × V) := putF "row" (.ref t) []
theorem rdf_row (t : Addr) : (rdf t).lookup ("row" : Str) = some (.ref t) := by
  unfold rdf
  rw [lookup_putF, if_pos rfl]
def RdyAt (CRd : Addr) (H : Hp) (y : Addr) (xs : List V) : Prop := ∃ dy t, H y = some (.ins CRd dy (rdf t)) ∧ H t = some (.tup xs)
theorem RdyAt.same {CRd : Addr} {H H' : Hp} {y : Addr} {xs : List V} (s : Same H H') (h : RdyAt CRd H y xs) : RdyAt CRd H' y xs := by
  obtain ⟨dy, t, a, b⟩ := h
  exact ⟨dy, t, s _ _ a, s _ _ b⟩
structure IRd (K : PySem.W.Frag) (C : Addr) : Prop where
  cl : Cls K C
  nR : NoAttr K C "row"
  ha : PySem.W.findIn K (.ref C) "__class__" = some (some (.builtin "object.__class__"))
  hn : PySem.W.specialIn K (.builtin "object.__class__") "__get__" = some (some (.builtin "getset_descriptor.__get__"))
  htk : PySem.W.takesIn K (.builtin "object.__class__") = some true
  hm : PySem.W.mroIn K C (.type "object") = some true
def spReady (CRd : Addr) (K : PySem.W.Frag) : Sp := fun vs H Q _ => ∃ (y dy l : Addr) (xs : List V), vs = [.ref y, .ref l] ∧ H y = some (.ins CRd dy []) ∧ (H l = some (.lst xs) ∨ H l = some (.tup xs)) ∧ ∀ H', But y H H' → RdyAt CRd H' y xs → Q .non H'
theorem mkR_go {K : PySem.W.Frag} {CRd r dr l : Addr} {H : Hp} {xs : List V} {Q : VK} {E : XK} (hl : H l = some (.lst xs) ∨ H l = some (.tup xs)) (nr : H r = none) (ndr : H dr = none) (ne : dr ≠ r) (k : ∀ H', Same H H' → RdyAt CRd H' r xs → Q .non H') :
    spReady CRd K [.ref r, .ref l] (upd (upd H dr (.own r)) r (.ins CRd dr [])) Q E := by
  have s0 : Same H (upd (upd H dr (.own r)) r (.ins CRd dr [])) := same_pair nr ndr ne
  exact ⟨r, dr, l, xs, rfl, upd_same, hl.imp (s0 _ _) (s0 _ _), fun H' b h => k H' (same_made nr ndr b) h⟩
def spRowR (CRd : Addr) : Sp := fun vs H Q _ => ∃ (v : V) (r : Addr) (ys : List V), vs = [v, .ref r] ∧ RdyAt CRd H r ys ∧ ∀ t, H t = some (.tup ys) → Q (.ref t) H
def spPInitR (C CP CF CRd : Addr) : Sp := fun vs H Q _ => ∃ (y dy x r : Addr) (p : Int) (ys : List V) (prs : List (Int × Int)), vs = [.ref y, .ref x, .ref r] ∧ H y = some (.ins CP dy []) ∧ FldAt CF H x p ∧ goodP p = true ∧ RdyAt CRd H r ys ∧ FNs C H p ys prs ∧ prs.length ≤ 100000 ∧
  ∀ H', But y H H' → Pol C CP CF H' y p (trimP prs) → Q .non H'
section
variable {P : Program} {w : World} {K : PySem.W.Frag} {mg : Str → Option Value} {base : Heap}
theorem sc_rd : FnScope ["self", "row"] ["self", "row"] (defScope s_rd) := ⟨rfl, rfl, rfl, by decide +kernel, rfl, by decide +kernel, by decide +kernel⟩
theorem ok_rd {f CRd : Addr} {fd : FuncData} (F : Fun K "__init__" "Ready.__init__" s_rd f fd) (B : QTx mg) (TR : IRd K CRd) : FnOk P w K mg base CX0 1 f fd ["self", "row"] (spReady CRd K) := by
  refine F.ok sc_rd (fun vs H Q E h => ?_) (fun cdv A outer s H vs Q E hr h => ?_)
  · obtain ⟨y, dy, l, xs, rfl, _⟩ := h
    rfl
  · obtain ⟨y, dy, l, xs, rfl, hy0, hl, k⟩ := h
    refine ⟨_, (pss_one (ps_fld (pv 0) (pe_callTy call_tuple_of (by rfl) B.b_tuple (by decide +kernel) (pa_cons (pv 1) pa_nil)) rfl)), ?_⟩
    rcases hl with hl | hl
    · refine ⟨_, rfl, l, xs, rfl, .inl ⟨SqL.of hl, fun t ht => ?_⟩⟩
      have n : t ≠ y := (ne_of_none hy0 ht).symm
      refine ⟨_, rfl, y, CRd, dy, _, rfl, (upd_ne n.symm).trans hy0, TR.cl, TR.nR, (by show 0 < 1000; decide), ?_⟩
      exact k _ ((But.refl y H).new ht).upd ⟨dy, t, upd_same, (upd_ne n).trans upd_same⟩
    · have n : l ≠ y := fun z => by
        rw [z, hy0] at hl
        cases hl
      refine ⟨_, rfl, l, xs, rfl, .inr ⟨SqT.of hl, ?_⟩⟩
      refine ⟨_, rfl, y, CRd, dy, _, rfl, hy0, TR.cl, TR.nR, (by show 0 < 1000; decide), ?_⟩
      exact k _ (But.refl y H).upd ⟨dy, l, upd_same, (upd_ne n).trans hl⟩
theorem ok_rowR {f CRd : Addr} {fd : FuncData} (F : Fun K "_row" "_row" s_row f fd) (B : QTx mg) (TRd : IRd K CRd) (m_Rd : mg "Ready" = some (.ref CRd)) : FnOk P w K mg base CX0 1 f fd ["field", "coefficients"] (spRowR CRd) := by
  refine F.ok sc_row (fun vs H Q E h => ?_) (fun cdv A outer s H vs Q E hr h => ?_)
  · obtain ⟨v, r, ys, rfl, _⟩ := h
    rfl
  · obtain ⟨v, r, ys, rfl, h, k⟩ := h
    refine ⟨_, (pss_cons (ps_if (pt_val (pe_callB call_isi (by rfl) B.b_isinstance (by decide +kernel) (pa_cons (pv 1) (pa_cons (pe_glob (v := .ref CRd) rfl m_Rd rfl) pa_nil)))) (pss_one (ps_ret (pe_fld (pv 1) rfl))) pss_nil)
      (pss_cons ps_never (pss_cons ps_never (pss_cons ps_never (pss_one ps_never))))), ?_⟩
    obtain ⟨dy, t, hr1, ht⟩ := id h
    refine ⟨_, rfl, _, _, _, _, true, rfl, .own CRd, .base (.ins hr1 TRd.cl TRd.ha TRd.hn TRd.htk TRd.hm), kit_self, _, rfl, iteT ?_⟩
    exact ⟨_, rfl, r, CRd, dy, _, _, rfl, hr1, TRd.cl, TRd.nR, rdf_row t, k t ht⟩
theorem ok_pinitR {f C CF CP CRd frow feq : Addr} {fd fdrow fdeq : FuncData} (F : Fun K "__init__" "Poly.__init__" s_pinit f fd) (B : QTx mg) (TP : PTx K CP)
    (O_eq : OwnOp K C feq "__eq__") (nf1 : PySem.W.notFirst K C (.type "int") = true) (G_eq : FnOk P w K mg base CX0 2 feq fdeq ["self", "other"] (spR_eq K C)) (b_eq : Binds K fdeq ["self", "other"] [])
    (G_rowR : FnOk P w K mg base CX0 1 frow fdrow ["field", "coefficients"] (spRowR CRd)) (m_row : mg "_row" = some (.ref frow)) (k_row : PySem.W.keepIn K (.ref frow) = true) (b_row : Binds K fdrow ["field", "coefficients"] []) : FnOk P w K mg base CX0 4 f fd ["self", "field", "coefficients"] (spPInitR C CP CF CRd) := by
  refine F.ok sc_pinit (fun vs H Q E h => ?_) (fun cdv A outer s H vs Q E hr h => ?_)
  · obtain ⟨y, dy, x, r, p, ys, prs, rfl, _⟩ := h
    rfl
  · obtain ⟨y, dy, x, r, p, ys, prs, rfl, hy0, hx, hg, rd, fn, lp, kY⟩ := h
    refine ⟨_, (pss_cons (ps_set (i := 3) sc_pinit.nd rfl (Or.inl rfl) (pe_call G_rowR (hr.mono (by decide)) rfl m_row k_row b_row .nil pass0 (pa_cons (pv 1) (pa_cons (pv 2) pa_nil))))
      (pss_cons (ps_set (i := 4) sc_pinit.nd rfl (Or.inl rfl) (pe_callB call_len_seq (by rfl) B.b_len (by decide +kernel) (pa_cons (pv 3) pa_nil)))
      (C8.pss_cut (ps_while PassesOwn.never (PW.pt (pw_and (pt_cmpR op_gt (pv 4) pe_int (nomark _)) (pw_and1 (pt_cmpR (op_or op_eq (op_ownEq O_eq G_eq (hr.mono (by decide)) b_eq pass0)) (pe_ix ix_tup (pv 3) (pe_op op_sub (pv 4) pe_int) (fun _ _ => rfl)) pe_int (nomark _)))))
          (pss_one (ps_set (i := 4) sc_pinit.nd rfl (Or.inl rfl) (pe_op op_sub (pv 4) pe_int))))
      (pss_cons (ps_fld (pv 0) (pv 1) rfl)
      (pss_cons (ps_fld (pv 0) (pe_callTy call_tuple_of (by rfl) B.b_tuple (by decide +kernel) (pa_cons (pe_slice sl_tupA (pv 3) po_none (po_some (pv 4))) pa_nil)) rfl)
      (pss_one (ps_fld (pv 0) (pe_op op_sub (pv 4) pe_int) rfl))))))), ?_⟩
    refine ⟨_, rfl, _, rfl, _, r, ys, rfl, rd, fun q hq => ?_⟩
    refine ⟨_, rfl, q, ys, rfl, .inr (SqT.of hq), ?_⟩
    refine ⟨fun σ H' => H' = H ∧ ∃ n : Nat, σ = [some (.ref y), some (.ref x), some (.ref r), some (.ref q), some (.int (n : Int))] ∧ n ≤ ys.length ∧ prs.take n = trimP prs, ?_, ?_⟩
    · refine while_go (fun σ H' => H' = H ∧ ∃ n : Nat, σ = [some (.ref y), some (.ref x), some (.ref r), some (.ref q), some (.int (n : Int))] ∧ n ≤ ys.length ∧ trimP (prs.take n) = trimP prs) (fun σ _ => match σ with | [_, _, _, _, some (.int n)] => n.natAbs | _ => 0) ⟨rfl, ys.length, rfl, Nat.le_refl _, by rw [fn.len, List.take_length]⟩ ?_
      · rintro σ H' ⟨rfl, n, rfl, hn, ht⟩
        refine ⟨_, rfl, _, _, rfl, rfl, _, rfl, ?_⟩
        refine ite2 (fun c => ?_) (fun c => ?_)
        · have n0 : 0 < n := by
            have := of_decide_eq_true c
            omega
          have li : n - 1 < ys.length := by omega
          have lp : n - 1 < prs.length := by rw [← fn.len]; exact li
          have f := fn.at_ (n - 1) _ _ (List.getElem?_eq_getElem li) (List.getElem?_eq_getElem lp)
          have tk : prs.take n = prs.take (n - 1) ++ [prs[n - 1]] := by
            have := take_more (List.getElem?_eq_getElem lp)
            rw [show n - 1 + 1 = n by omega] at this
            exact this
          refine ⟨_, rfl, _, rfl, _, _, rfl, rfl, q, ys, _, _, rfl, rfl, SqT.of hq, at_of (j := n - 1) (by omega) (List.getElem?_eq_getElem li), fn_eq0 nf1 f ⟨_, rfl, ?_⟩⟩
          generalize prs[n - 1] = a at *
          by_cases z : a.1 = 0
          · refine itD (decide_eq_true z) ?_
            refine ⟨fun σ' H'' => H'' = H' ∧ σ' = [some (.ref y), some (.ref x), some (.ref r), some (.ref q), some (.int (((n - 1 : Nat)) : Int))], fun σ' H'' ⟨e1, e2⟩ => ⟨n - 1, ?_, ?_, e1, n - 1, e2, by omega, ?_⟩, ?_⟩
            · show n - 1 < ((n : Int)).natAbs
              omega
            · rw [e2]
              show n - 1 = (((n - 1 : Nat)) : Int).natAbs
              omega
            · rw [← ht, tk, trimP_zero z]
            · have : ((n : Int) - 1) = ((n - 1 : Nat) : Int) := by omega
              refine ⟨_, rfl, _, _, rfl, rfl, rfl, ?_⟩
              rw [← this]
              rfl
          · refine itDn (by simpa using z) ?_
            exact ⟨rfl, n, rfl, hn, by rw [← ht, tk, trimP_keep z]⟩
        · have n0 : n = 0 := by
            have : ¬ ((n : Int) > 0) := fun e => c (decide_eq_true e)
            omega
          subst n0
          exact ⟨rfl, 0, rfl, hn, by rw [← ht]; rfl⟩
    · rintro σ H' ⟨rfl, n, rfl, hn, ht⟩
      refine ⟨_, rfl, _, rfl, y, CP, dy, [], rfl, hy0, TP.cl, TP.nF, (by show 0 < 1000; decide), ?_⟩
      have hqy : q ≠ y := fun e => by
        rw [e, hy0] at hq
        cases hq
      refine ⟨_, rfl, _, rfl, _, rfl, ?_⟩
      have hy2 : upd H' y (.ins CP dy (putF "field" (.ref x) [])) y = some (.ins CP dy (putF "field" (.ref x) [])) := upd_same
      have b2 : But y H' (upd H' y (.ins CP dy (putF "field" (.ref x) []))) := (But.refl y H').upd
      have hq2 : upd H' y (.ins CP dy (putF "field" (.ref x) [])) q = some (.tup ys) := (upd_ne hqy).trans hq
      generalize upd H' y (.ins CP dy (putF "field" (.ref x) [])) = H2 at *
      have fin : ∀ tp H3, Same H2 H3 → H3 tp = some (.tup (ys.take n)) → Q .non (upd (upd H3 y (.ins CP dy (putF "coefficients" (.ref tp) (putF "field" (.ref x) [])))) y (.ins CP dy (putF "degree" (.int ((n : Int) - 1)) (putF "coefficients" (.ref tp) (putF "field" (.ref x) []))))) := fun tp H3 s3 htp => by
        have hy3 := s3 _ _ hy2
        have n2 : y ≠ tp := fun e => by
          rw [e, htp] at hy3
          cases hy3
        have ln : (trimP prs).length = n := by
          rw [← ht, List.length_take, ← fn.len]
          omega
        have bF := ((b2.trans (Same.but s3)).upd (o := .ins CP dy (putF "coefficients" (.ref tp) (putF "field" (.ref x) [])))).upd (o := .ins CP dy (putF "degree" (.int ((n : Int) - 1)) (putF "coefficients" (.ref tp) (putF "field" (.ref x) []))))
        refine kY _ bF ⟨dy, x, tp, ys.take n, ?_, ?_, ?_, ?_⟩
        · rw [ln]
          exact upd_same
        · exact hx.but hy0 bF
        · exact (upd_ne n2.symm).trans ((upd_ne n2.symm).trans htp)
        · rw [← ht]
          exact (fn.take n).but hy0 bF
      refine ⟨q, ys, rfl, SqT.of hq2, fun e => ?_, fun _ sl hsl => ?_⟩
      · have en : n = ys.length := by
          have := e.2
          rw [HT.sIx_nat] at this
          omega
        have f1 := fin q H2 (Same.refl _) (by rw [en, List.take_length]; exact hq2)
        exact ⟨q, _, rfl, .inr ⟨SqT.of hq2, ⟨_, rfl, y, CP, dy, _, rfl, hy2, TP.cl, TP.nC, (by show 1 < 1000; decide), _, rfl, _, _, rfl, rfl, _, rfl, y, CP, dy, _, rfl, upd_same, TP.cl, TP.nD, (by show 2 < 1000; decide), f1⟩⟩⟩
      · rw [take_cut]
        have ss := same_new (o := .tup (ys.take n)) (Same.refl H2) hsl
        have f1 := fin sl _ ss upd_same
        exact ⟨sl, _, rfl, .inr ⟨SqT.of upd_same, ⟨_, rfl, y, CP, dy, _, rfl, ss _ _ hy2, TP.cl, TP.nC, (by show 1 < 1000; decide), _, rfl, _, _, rfl, rfl, _, rfl, y, CP, dy, _, rfl, upd_same, TP.cl, TP.nD, (by show 2 < 1000; decide), f1⟩⟩⟩
end
end Sq

namespace Sq
open PySem L2 PyProof.Rows
theorem npair_cop {t u : Int} (hu : u ≠ 0) : Int.gcd (npair 0 t u).1 (npair 0 t u).2 = 1 := by
  unfold npair
  rw [if_pos rfl]
  exact (low_lowp t hu).cop
def OkP (p : Int) (a : Int × Int) : Prop := 1 ≤ a.2 ∧ (p = 0 → Int.gcd a.1 a.2 = 1) ∧ (p ≠ 0 → a.2 = 1 ∧ 0 ≤ a.1 ∧ a.1 < p)
theorem ok_npair {p t u : Int} (hg : goodP p = true) (hu : u ≠ 0) : OkP p (npair p t u) := by
  by_cases p0 : p = 0
  · subst p0
    exact ⟨npair_pos hu, fun _ => npair_cop hu, fun z => absurd rfl z⟩
  · have := prime_lt hg p0
    unfold npair
    rw [if_neg p0]
    exact ⟨Int.le_refl 1, fun z => absurd z p0, fun _ => ⟨rfl, Int.emod_nonneg _ p0, Int.emod_lt_of_pos _ (by omega)⟩⟩
theorem OkP.times {p : Int} {a b : Int × Int} (hg : goodP p = true) (h : OkP p a) (g : OkP p b) : OkP p (timesP p a b) := ok_npair hg (mul_ne (by have := h.1; omega) (by have := g.1; omega))
theorem OkP.plus {p : Int} {a b : Int × Int} (hg : goodP p = true) (h : OkP p a) (g : OkP p b) : OkP p (plusP p a b) := ok_npair hg (mul_ne (by have := h.1; omega) (by have := g.1; omega))
def q0 (a : Int × Int) : Rat := (a.1 : Rat) / (a.2 : Rat)
theorem rat_ne {u : Int} (h : u ≠ 0) : (u : Rat) ≠ 0 := fun e => h (by exact_mod_cast e)
theorem q0_npair {t u : Int} (hu : u ≠ 0) : q0 (npair 0 t u) = (t : Rat) / (u : Rat) := by
  have L : Low t u (npair 0 t u).1 (npair 0 t u).2 := by
    unfold npair
    rw [if_pos rfl]
    exact low_lowp t hu
  unfold q0
  have v := L.val
  have h1 := rat_ne hu
  have h2 : ((npair 0 t u).2 : Rat) ≠ 0 := rat_ne (by have := L.pos; omega)
  have e : (((npair 0 t u).1 : Int) : Rat) * (u : Rat) = (t : Rat) * ((npair 0 t u).2 : Rat) := by exact_mod_cast v
  generalize ((npair 0 t u).1 : Rat) = x at *
  generalize ((npair 0 t u).2 : Rat) = y at *
  grind
theorem q0_inj {a b : Int × Int} (h : OkP 0 a) (g : OkP 0 b) (e : q0 a = q0 b) : a = b := by
  have ha := h.1
  have gb := g.1
  have h1 := rat_ne (show a.2 ≠ 0 by omega)
  have h2 := rat_ne (show b.2 ≠ 0 by omega)
  unfold q0 at e
  have c : (a.1 : Rat) * (b.2 : Rat) = (b.1 : Rat) * (a.2 : Rat) := by grind
  have c2 : a.1 * b.2 = b.1 * a.2 := by exact_mod_cast c
  have L1 : Low a.1 a.2 a.1 a.2 := ⟨ha, h.2.1 rfl, rfl, Nat.le_refl _, Nat.le_refl _⟩
  have L2 : Low b.1 b.2 b.1 b.2 := ⟨gb, g.2.1 rfl, rfl, Nat.le_refl _, Nat.le_refl _⟩
  obtain ⟨e1, e2⟩ := (low_eq (by omega) (by omega) L1 L2).mpr c2
  exact Prod.ext e1 e2
def OkL (p : Int) (l : List (Int × Int)) : Prop := ∀ a ∈ l, OkP p a
/-- an integer in the ring -/
def ic {R : Type} [Lean.Grind.CommRing R] (n : Int) : R := @IntCast.intCast R Lean.Grind.Ring.intCast n
section
variable {R : Type} [Lean.Grind.CommRing R]
theorem ic_add (x y : Int) : (ic (x + y) : R) = ic x + ic y := Lean.Grind.Ring.intCast_add x y
theorem ic_mul (x y : Int) : (ic (x * y) : R) = ic x * ic y := Lean.Grind.Ring.intCast_mul x y
theorem ic_zero : (ic 0 : R) = 0 := Lean.Grind.Ring.intCast_zero
theorem ic_one : (ic 1 : R) = 1 := Lean.Grind.Ring.intCast_one
end
theorem ic_rat (x : Int) : (ic x : Rat) = (x : Rat) := rfl

theorem ok01 {p : Int} (hg : goodP p = true) : OkP p (0, 1) := ⟨by decide, fun _ => by decide, fun p0 => ⟨rfl, by decide, by have := prime_lt hg p0; show (0 : Int) < p; omega⟩⟩
/-- the numbers of a field in a ring, by values -/
structure Vp (p : Int) (R : Type) [Lean.Grind.CommRing R] (v : Int × Int → R) : Prop where
  inj : ∀ {a b}, OkP p a → OkP p b → v a = v b → a = b
  plus : ∀ {a b}, OkP p a → OkP p b → v (plusP p a b) = v a + v b
  times : ∀ {a b}, OkP p a → OkP p b → v (timesP p a b) = v a * v b
  zero : v (0, 1) = 0
  one : v (1, 1) = 1
  nd : ∀ {n b : Int} {a : Int × Int}, ND p n b a → b ≠ 0 → v a * ic b = ic n
  mul : ∀ {a}, OkP p a → v a * ic a.2 = ic a.1
  dom : ∀ {x y : R}, x * y = 0 → x = 0 ∨ y = 0
  eqm : ∀ {x y : Int}, EqM p x y → (ic x : R) = ic y
  ne : ∀ {b : Int}, b ≠ 0 → (p ≠ 0 → ¬ p ∣ b) → (ic b : R) ≠ 0
theorem vp0 : Vp 0 Rat q0 := by
  have hg : goodP 0 = true := by decide
  have mulq : ∀ {t u : Int}, u ≠ 0 → ((t : Rat) / (u : Rat)) * (u : Rat) = (t : Rat) := fun {t u} h => by
    have := rat_ne h
    grind
  refine ⟨fun h g e => q0_inj h g e, fun {a b} h g => ?_, fun {a b} h g => ?_, ?_, ?_, fun {n b a} h b0 => ?_, fun {a} h => ?_, fun {x y} h => Rat.mul_eq_zero.mp h, fun {x y} h => ?_, fun {b} h _ => rat_ne h⟩
  · have ha := h.1
    have gb := g.1
    have h1 := rat_ne (show a.2 ≠ 0 by omega)
    have h2 := rat_ne (show b.2 ≠ 0 by omega)
    unfold plusP
    rw [q0_npair (mul_ne (by omega) (by omega))]
    unfold q0
    push_cast
    grind
  · have ha := h.1
    have gb := g.1
    have h1 := rat_ne (show a.2 ≠ 0 by omega)
    have h2 := rat_ne (show b.2 ≠ 0 by omega)
    unfold timesP
    rw [q0_npair (mul_ne (by omega) (by omega))]
    unfold q0
    push_cast
    grind
  · unfold q0
    show ((0 : Int) : Rat) / ((1 : Int) : Rat) = 0
    grind
  · unfold q0
    show ((1 : Int) : Rat) / ((1 : Int) : Rat) = 1
    grind
  · have e := h.1 rfl
    have e2 : q0 a = (n : Rat) / (b : Rat) := by
      rw [e]
      have := q0_npair (t := n) b0
      unfold npair at this
      rw [if_pos rfl] at this
      exact this
    rw [e2, ic_rat, ic_rat]
    exact mulq b0
  · rw [ic_rat, ic_rat]
    unfold q0
    exact mulq (by have := h.1; omega)
  · rw [h.zero]
section
variable {R : Type} [Lean.Grind.CommRing R]
theorem vp_char {p : Int} {n : Nat} [Lean.Grind.IsCharP R n] (hg : goodP p = true) (p0 : p ≠ 0) (hn : p = (n : Int)) (dom : ∀ {x y : R}, x * y = 0 → x = 0 ∨ y = 0) : Vp p R (fun a => ic a.1) := by
  have ext : ∀ {x y : Int}, ((ic x : R) = ic y) ↔ x % p = y % p := fun {x y} => by rw [hn]; exact Lean.Grind.IsCharP.intCast_ext_iff n
  have md : ∀ x : Int, (ic (x % p) : R) = ic x := fun x => ext.mpr (Int.emod_emod_of_dvd x (Int.dvd_refl p))
  have np : ∀ t u : Int, (npair p t u).1 = t % p := fun t u => by unfold npair; rw [if_neg p0]
  refine ⟨fun {a b} h g e => ?_, fun {a b} h g => ?_, fun {a b} h g => ?_, ic_zero, ic_one, fun {n b a} h b0 => ?_, fun {a} h => ?_, dom, fun {x y} h => ?_, fun {b} h hd e => ?_⟩
  · obtain ⟨a2, a0, a1⟩ := h.2.2 p0
    obtain ⟨b2, b0, b1⟩ := g.2.2 p0
    have := ext.mp e
    rw [Int.emod_eq_of_lt a0 a1, Int.emod_eq_of_lt b0 b1] at this
    exact Prod.ext this (by rw [a2, b2])
  · show (ic (plusP p a b).1 : R) = _
    unfold plusP
    rw [np, md, (h.2.2 p0).1, (g.2.2 p0).1, Int.mul_one, Int.mul_one, ic_add]
  · show (ic (timesP p a b).1 : R) = _
    unfold timesP
    rw [np, md, ic_mul]
  · obtain ⟨_, _, _, k, hk⟩ := h.2 p0
    show (ic a.1 : R) * ic b = ic n
    rw [← ic_mul, hk]
    exact ext.mpr (Int.add_mul_emod_self_right n k p)
  · show (ic a.1 : R) * ic a.2 = _
    rw [(h.2.2 p0).1, ic_one, Lean.Grind.Semiring.mul_one]
  · obtain ⟨c, hc⟩ := h
    rw [hc]
    exact ext.mpr (Int.add_mul_emod_self_right y c p)
  · have z : (ic b : R) = ic 0 := e.trans ic_zero.symm
    have := ext.mp z
    rw [Int.zero_emod] at this
    exact hd p0 (Int.dvd_of_emod_eq_zero this)
end
theorem fin_dom {p : Int} (hg : goodP p = true) (p0 : p ≠ 0) [NeZero p.toNat] {x y : Fin p.toNat} (h : x * y = 0) : x = 0 ∨ y = 0 := by
  obtain ⟨p2, p3, hp⟩ := goodP_pos hg p0
  have e : (x.val * y.val) % p.toNat = 0 := by
    have := congrArg Fin.val h
    simpa [Fin.val_mul] using this
  by_cases c : x.val = 0
  · exact .inl (Fin.ext (by simpa using c))
  · right
    have lx := x.isLt
    have g : Int.gcd p (x.val : Int) = 1 := gcd_prime p2 p3 hp (by omega) (by omega)
    have g2 : Nat.Coprime p.toNat x.val := by
      have : Int.gcd p (x.val : Int) = Nat.gcd p.toNat x.val := by
        rw [Int.gcd, Int.natAbs_natCast]
        congr 1
        omega
      unfold Nat.Coprime
      rw [← this]
      exact g
    have d : p.toNat ∣ y.val := g2.dvd_of_dvd_mul_left (Nat.dvd_of_mod_eq_zero e)
    have ly := y.isLt
    have : y.val = 0 := Nat.eq_zero_of_dvd_of_lt d ly
    exact Fin.ext (by simpa using this)
theorem vp_ex {p : Int} (hg : goodP p = true) : ∃ (R : Type) (_ : Lean.Grind.CommRing R) (v : Int × Int → R), Vp p R v := by
  by_cases p0 : p = 0
  · subst p0
    exact ⟨Rat, inferInstance, q0, vp0⟩
  · have pl := prime_lt hg p0
    have nz : NeZero p.toNat := ⟨by omega⟩
    exact ⟨Fin p.toNat, inferInstance, _, vp_char (n := p.toNat) hg p0 (by omega) fun {x y} h => fin_dom hg p0 h⟩
/-! ### rows by values -/
def vg {R : Type} (v : Int × Int → R) (l : List (Int × Int)) (k : Nat) : R := v (l.getD k (0, 1))
section
variable {R : Type} [Lean.Grind.CommRing R] {p : Int} {v : Int × Int → R}
/-- the sum of the first n -/
def sv (f : Nat → R) : Nat → R
  | 0 => 0
  | n + 1 => sv f n + f n
theorem sv_congr {f g : Nat → R} : ∀ {n}, (∀ j, j < n → f j = g j) → sv f n = sv g n
  | 0, _ => rfl
  | n + 1, h => by
    show sv f n + f n = sv g n + g n
    rw [sv_congr fun j hj => h j (by omega), h n (by omega)]
theorem sv_zero {f : Nat → R} : ∀ {n}, (∀ j, j < n → f j = 0) → sv f n = 0
  | 0, _ => rfl
  | n + 1, h => by
    show sv f n + f n = 0
    rw [sv_zero fun j hj => h j (by omega), h n (by omega)]
    grind
theorem sv_mul (s : R) (f : Nat → R) : ∀ n, sv (fun j => s * f j) n = s * sv f n
  | 0 => by
    show (0 : R) = s * 0
    grind
  | n + 1 => by
    show sv (fun j => s * f j) n + s * f n = s * (sv f n + f n)
    rw [sv_mul s f n]
    grind
theorem sv_add (f g : Nat → R) : ∀ n, sv (fun j => f j + g j) n = sv f n + sv g n
  | 0 => by
    show (0 : R) = 0 + 0
    grind
  | n + 1 => by
    show sv (fun j => f j + g j) n + (f n + g n) = sv f n + f n + (sv g n + g n)
    rw [sv_add f g n]
    grind
theorem sv_one {f : Nat → R} {m : Nat} : ∀ {n}, m < n → (∀ j, j < n → j ≠ m → f j = 0) → sv f n = f m
  | 0, h, _ => by omega
  | n + 1, h, hz => by
    show sv f n + f n = f m
    by_cases c : m = n
    · subst c
      rw [sv_zero fun j hj => hz j (by omega) (by omega)]
      grind
    · rw [sv_one (by omega) fun j hj ne => hz j (by omega) ne, hz n (by omega) (fun e => c e.symm)]
      grind
theorem sv_int (f : Nat → Int) : ∀ n, (ic (sz f n) : R) = sv (fun j => ic (f j)) n
  | 0 => ic_zero
  | n + 1 => by
    show (ic (sz f n + f n) : R) = sv _ n + _
    rw [ic_add, sv_int f n]
/-- the coefficient of index k of the product -/
def cvv (f g : Nat → R) (k : Nat) : R := sv (fun i => f i * g (k - i)) (k + 1)
theorem vg_lt {l : List (Int × Int)} {k : Nat} (h : k < l.length) : vg v l k = v l[k] := by
  unfold vg
  rw [List.getD_eq_getElem?_getD, List.getElem?_eq_getElem h]
  rfl
theorem vg_ge (X : Vp p R v) {l : List (Int × Int)} {k : Nat} (h : l.length ≤ k) : vg v l k = 0 := by
  unfold vg
  rw [List.getD_eq_getElem?_getD, List.getElem?_eq_none h]
  exact X.zero
theorem vg_snoc {l : List (Int × Int)} {a : Int × Int} {k : Nat} : vg v (l ++ [a]) k = if k = l.length then v a else vg v l k := by
  by_cases c : k < l.length
  · rw [if_neg (by omega), vg_lt (by simp; omega), vg_lt c, List.getElem_append_left c]
  · by_cases d : k = l.length
    · subst d
      rw [if_pos rfl, vg_lt (by simp), List.getElem_append_right (Nat.le_refl _)]
      simp
    · rw [if_neg d]
      unfold vg
      rw [List.getD_eq_getElem?_getD, List.getD_eq_getElem?_getD, List.getElem?_eq_none (by simp; omega), List.getElem?_eq_none (by omega)]
theorem ok_zero {a : Int × Int} (h : OkP p a) (z : a.1 = 0) : a = (0, 1) := by
  refine Prod.ext z ?_
  by_cases p0 : p = 0
  · have := h.2.1 p0
    rw [z, Int.gcd_zero_left] at this
    have := h.1
    show a.2 = 1
    omega
  · exact (h.2.2 p0).1
theorem v_zero (X : Vp p R v) (hg : goodP p = true) {a : Int × Int} (h : OkP p a) : v a = 0 ↔ a.1 = 0 := by
  refine ⟨fun e => ?_, fun e => ?_⟩
  · have := X.inj h (ok01 hg) (e.trans X.zero.symm)
    rw [this]
  · rw [ok_zero h e]
    exact X.zero
theorem trimP_spec (X : Vp p R v) : ∀ (n : Nat) (l : List (Int × Int)), l.length = n → OkL p l → (∀ k, vg v (trimP l) k = vg v l k) ∧ (trimP l).length ≤ l.length ∧ OkL p (trimP l) ∧ (trimP l = [] ∨ ∃ m a, trimP l = m ++ [a] ∧ a.1 ≠ 0)
  | 0, l, h, _ => by
    have : l = [] := List.eq_nil_of_length_eq_zero h
    subst this
    exact ⟨fun _ => rfl, Nat.le_refl _, (fun a ha => by cases ha), .inl rfl⟩
  | n + 1, l, h, ok => by
    have ne : l ≠ [] := fun z => by rw [z] at h; simp at h
    have e : l.dropLast ++ [l.getLast ne] = l := List.dropLast_concat_getLast ne
    generalize l.getLast ne = a at e
    generalize hm : l.dropLast = m at e
    subst e
    have lm : m.length = n := by simpa using h
    have okm : OkL p m := fun b hb => ok b (List.mem_append_left _ hb)
    have oka : OkP p a := ok a (List.mem_append_right _ List.mem_cons_self)
    obtain ⟨i1, i2, i3, i4⟩ := trimP_spec X n m lm okm
    by_cases z : a.1 = 0
    · rw [trimP_zero z]
      refine ⟨fun k => ?_, by simp; omega, i3, i4⟩
      rw [i1, vg_snoc]
      split
      · rename_i c
        rw [c, vg_ge X (Nat.le_refl _), ok_zero oka z, X.zero]
      · rfl
    · rw [trimP_keep z]
      exact ⟨fun _ => rfl, Nat.le_refl _, ok, .inr ⟨m, a, rfl, z⟩⟩
/-- rows without zeros at the end are known by their values -/
theorem rows_eq (X : Vp p R v) (hg : goodP p = true) {l m : List (Int × Int)} (hl : OkL p l) (hm : OkL p m) (tl : trimP l = l) (tm : trimP m = m) (e : ∀ k, vg v l k = vg v m k) : l = m := by
  have len : ∀ {l m : List (Int × Int)}, OkL p l → trimP l = l → (∀ k, vg v l k = vg v m k) → l.length ≤ m.length := fun {l m} hl tl e => by
    obtain ⟨_, _, _, h⟩ := trimP_spec X _ l rfl hl
    rw [tl] at h
    rcases h with h | ⟨r, a, h, z⟩
    · rw [h]
      exact Nat.zero_le _
    · by_cases c : l.length ≤ m.length
      · exact c
      · exfalso
        have h1 : vg v l r.length = v a := by rw [h, vg_snoc, if_pos rfl]
        have h2 : vg v m r.length = 0 := vg_ge X (by rw [h, List.length_append] at c; simp at c; omega)
        rw [e, h2] at h1
        exact z ((v_zero X hg (hl a (by rw [h]; simp))).mp h1.symm)
  have l1 := len hl tl e
  have l2 := len hm tm fun k => (e k).symm
  refine List.ext_getElem (by omega) fun i h1 h2 => X.inj (hl _ (List.getElem_mem h1)) (hm _ (List.getElem_mem h2)) ?_
  have := e i
  rw [vg_lt h1, vg_lt h2] at this
  exact this
end
end Sq

namespace Sq
open PySem L2 PyProof.Rows
abbrev s_same : Stmt := top 25
/-- an object with a field -/
def HasF (K : PySem.W.Frag) (CF : Addr) (H : Hp) (a : Addr) (p : Int) : Prop := ∃ C d fs fx, H a = some (.ins C d fs) ∧ Cls K C ∧ NoAttr K C "field" ∧ fs.lookup ("field" : Str) = some (.ref fx) ∧ FldAt CF H fx p
def spSame (K : PySem.W.Frag) (CF COF : Addr) : Sp := fun vs H Q E => ∃ (a b : Addr) (p p' : Int), vs = [.ref a, .ref b] ∧ HasF K CF H a p ∧ HasF K CF H b p' ∧ (p ≠ p' → E (.ref COF) none H) ∧ (p = p' → Q .non H)
theorem Pol.hasF {K : PySem.W.Frag} {C CP CF : Addr} {H : Hp} {x : Addr} {p : Int} {prs : List (Int × Int)} (T : PTx K CP) (h : Pol C CP CF H x p prs) : HasF K CF H x p := by
  obtain ⟨dx, fx, ct, ys, PO⟩ := h
  exact ⟨CP, dx, _, fx, PO.ob, T.cl, T.nF, plf_field _ _ _, PO.fl⟩
theorem HasF.same {K : PySem.W.Frag} {CF : Addr} {H H' : Hp} {a : Addr} {p : Int} (s : Same H H') (h : HasF K CF H a p) : HasF K CF H' a p := by
  obtain ⟨C, d, fs, fx, h1, h2, h3, h4, h5⟩ := h
  exact ⟨C, d, fs, fx, s _ _ h1, h2, h3, h4, h5.same s⟩
section
variable {P : Program} {w : World} {K : PySem.W.Frag} {mg : Str → Option Value} {base : Heap}
theorem sc_same : FnScope ["one", "other"] ["one", "other"] (defScope s_same) := ⟨rfl, rfl, rfl, by decide +kernel, rfl, by decide +kernel, by decide +kernel⟩
theorem ok_same {f CF COF feq : Addr} {fd fdeq : FuncData} (F : Fun K "check_same_field" "check_same_field" s_same f fd) (TF : FTx K CF) (YF : IFy K CF) (RN : RNx K mg "OtherField" COF) (N_feq : NeOp K CF feq) (nfF : PySem.W.notFirst K CF (.ref CF) = true) (G_feq : FnOk P w K mg base CX0 1 feq fdeq ["self", "other"] (spF_eq K CF)) (b_feq : Binds K fdeq ["self", "other"] []) : FnOk P w K mg base (L2.CX P w) 3 f fd ["one", "other"] (spSame K CF COF) := by
  refine F.okX sc_same (fun vs H Q E h => ?_) (fun cdv A outer s H vs Q E hr h => ?_)
  · obtain ⟨a, b, p, p', rfl, _⟩ := h
    rfl
  · obtain ⟨a, b, p, p', rfl, ⟨C1, d1, fs1, fx1, h1, c1, n1, l1, f1⟩, ⟨C2, d2, fs2, fx2, h2, c2, n2, l2, f2⟩, kE, kQ⟩ := h
    refine ⟨_, (pss_one (ps_if (pt_cmpR (op_ownNe N_feq G_feq (hr.mono (by decide)) b_feq pass0) (pe_fld (pv 0) rfl) (pe_fld (pv 1) rfl) (nomark _)) (pss_one (ps_raise rfl (takes_of rfl rfl rfl rfl) (pmk_own0 PySem.F.excBase_ValueError RN.q RN.m RN.k (raises_own RN.ex RN.ty) rfl))) pss_nil)), ?_⟩
    obtain ⟨df, hf⟩ := id f1
    refine ⟨_, rfl, a, C1, d1, _, _, rfl, h1, c1, n1, l1, _, rfl, b, C2, d2, _, _, rfl, h2, c2, n2, l2, fx1, df, _, _, rfl, hf, f2.ty TF YF, nfF, fx1, .ref fx2, p, rfl, f1, .inl ⟨fx2, p', rfl, f2, _, rfl, _, rfl, ?_⟩⟩
    by_cases e : p = p'
    · rw [decide_eq_true e]
      exact iteF (kQ e)
    · rw [decide_eq_false e]
      exact iteT (kE e)
end
end Sq

namespace Sq
open PySem L2 PyProof.Rows
abbrev s_polyof : Stmt := top 47
theorem mkPR_go {C CP CF CRd y dy x r : Addr} {H : Hp} {p : Int} {ys : List V} {prs : List (Int × Int)} {Q : VK} {E : XK} (hx : FldAt CF H x p) (hg : goodP p = true) (rd : RdyAt CRd H r ys) (fn : FNs C H p ys prs) (lp : prs.length ≤ 100000) (ny : H y = none) (ndy : H dy = none) (ne : dy ≠ y)
    (k : ∀ H', Same H H' → Pol C CP CF H' y p (trimP prs) → Q .non H') : spPInitR C CP CF CRd [.ref y, .ref x, .ref r] (upd (upd H dy (.own y)) y (.ins CP dy [])) Q E := by
  have s0 : Same H (upd (upd H dy (.own y)) y (.ins CP dy [])) := same_pair ny ndy ne
  exact ⟨y, dy, x, r, p, ys, prs, rfl, upd_same, hx.same s0, hg, rd.same s0, fn.same s0, lp, fun H1 b1 po => k H1 (same_made ny ndy b1) po⟩
/-- what the bottom must keep -/
def BotOk (p b : Int) : Prop := (p = 0 → b ≠ 0 ∧ b.natAbs < 2 ^ 8000) ∧ (p ≠ 0 → b % p ≠ 0 ∧ Fit b)
def spPolyOf (C CP CF : Addr) : Sp := fun vs H Q _ => ∃ (x l : Addr) (p b : Int) (ns : List Int), vs = [.ref x, .ref l, .int b] ∧ FldAt CF H x p ∧ goodP p = true ∧ H l = some (.lst (ns.map V.int)) ∧ ns.length ≤ 1000 ∧ BotOk p b ∧ (p ≠ 0 → ∀ n ∈ ns, n.natAbs < 2 ^ 400000) ∧
  ∀ y prs H', Same H H' → NDs p b ns prs → OkL p prs → Pol C CP CF H' y p (trimP prs) → Q (.ref y) H'
theorem FN.okp {C : Addr} {H : Hp} {p : Int} {v : V} {a : Int × Int} (h : FN C H p v a.1 a.2) : OkP p a := by
  rcases h with ⟨p0, _, pu, cop⟩ | ⟨p0, _, u1, a0, a1⟩
  · exact ⟨pu, fun _ => cop, fun z => absurd p0 z⟩
  · exact ⟨by omega, fun z => absurd z p0, fun _ => ⟨u1, a0, a1⟩⟩
theorem FNs.okl {C : Addr} {H : Hp} {p : Int} {ys : List V} {prs : List (Int × Int)} (h : FNs C H p ys prs) : OkL p prs := by
  intro a ha
  obtain ⟨i, hi⟩ := List.mem_iff_getElem?.mp ha
  have l1 := get_len hi
  have l2 : i < ys.length := by rw [h.len]; exact l1
  exact (h.at_ i _ a (List.getElem?_eq_getElem l2) hi).okp
theorem Pol.okl {C CP CF : Addr} {H : Hp} {x : Addr} {p : Int} {prs : List (Int × Int)} (h : Pol C CP CF H x p prs) : OkL p prs := by
  obtain ⟨_, _, _, _, PO⟩ := h
  exact PO.nu.okl
section
variable {P : Program} {w : World} {K : PySem.W.Frag} {mg : Str → Option Value} {base : Heap}
theorem sc_polyof : FnScope ["field", "row", "bottom"] ["field", "row", "bottom"] (defScope s_polyof) := ⟨rfl, rfl, rfl, by decide +kernel, rfl, by decide +kernel, by decide +kernel⟩
theorem ok_polyof {f C CP CF CRd fpinit frd fnums : Addr} {fd fdpinit fdrd fdnums : FuncData} (F : Fun K "poly_of" "poly_of" s_polyof f fd) (MP : Mk K CP fpinit) (G_pinitR : FnOk P w K mg base CX0 4 fpinit fdpinit ["self", "field", "coefficients"] (spPInitR C CP CF CRd)) (b_pinit : Binds K fdpinit ["self", "field", "coefficients"] []) (m_P : mg "Poly" = some (.ref CP))
    (MRd : Mk K CRd frd) (G_rd : FnOk P w K mg base CX0 1 frd fdrd ["self", "row"] (spReady CRd K)) (b_rd : Binds K fdrd ["self", "row"] []) (m_Rd : mg "Ready" = some (.ref CRd))
    (G_nums : FnOk P w K mg base CX0 10 fnums fdnums ["field", "row", "bottom"] (spNums C CF)) (m_nums : mg "numbers_of" = some (.ref fnums)) (k_nums : PySem.W.keepIn K (.ref fnums) = true) (b_nums : Binds K fdnums ["field", "row", "bottom"] []) : FnOk P w K mg base CX0 11 f fd ["field", "row", "bottom"] (spPolyOf C CP CF) := by
  refine F.ok sc_polyof (fun vs H Q E h => ?_) (fun cdv A outer s H vs Q E hr h => ?_)
  · obtain ⟨x, l, p, b, ns, rfl, _⟩ := h
    rfl
  · obtain ⟨x, l, p, b, ns, rfl, hx, hg, hl, ln, ⟨c0, cp⟩, bn, k⟩ := h
    refine ⟨_, (pss_one (ps_ret (pe_make MP G_pinitR (hr.mono (by decide)) rfl m_P b_pinit .nil pass0 (pa_cons (pv 0) (pa_cons (pe_make MRd G_rd (hr.mono (by decide)) rfl m_Rd b_rd .nil pass0 (pa_cons (pe_call G_nums (hr.mono (by decide)) rfl m_nums k_nums b_nums .nil pass0 (pa_cons (pv 0) (pa_cons (pv 1) (pa_cons (pv 2) pa_nil)))) pa_nil)) pa_nil))))), ?_⟩
    refine ⟨_, rfl, _, rfl, _, rfl, _, rfl, x, l, p, b, ns, rfl, hx, hg, hl, ln, c0, cp, bn, fun q ys prs H1 s1 hq fn nd => ?_⟩
    refine fun r dr nr ndr ner => mkR_go (.inl hq) nr ndr ner fun H2 s2 rd => ⟨rfl, fun y dy ny ndy ney => ?_⟩
    have lp := nd.len
    exact mkPR_go (hx.same (s1.trans s2)) hg rd (fn.same s2) (by omega) ny ndy ney fun H3 s3 po => ⟨rfl, k y prs H3 ((s1.trans s2).trans s3) nd fn.okl po⟩
end
end Sq

namespace Sq
open PySem L2 PyProof.Rows
abbrev s_divd : Stmt := inClass (top 53) 13
/-- a bottom for all numbers of the two rows, and how great they are with it -/
def DivB (p : Int) (prs prs' : List (Int × Int)) (D b : Nat) : Prop := 1 ≤ D ∧ D < 2 ^ 70 ∧ 14 ≤ b ∧ b ≤ 70 ∧ (p ≠ 0 → b = 14) ∧ (p = 0 → ∀ a, a ∈ prs ∨ a ∈ prs' → a.2 ∣ (D : Int) ∧ a.1.natAbs * D < 2 ^ b * a.2.natAbs)
/-- the bounds of quotient and rest -/
def DivQ (p : Int) (Qs Rs : List (Int × Int)) (D b n : Nat) : Prop := p = 0 → ∃ T : Nat, 1 ≤ T ∧ T ≤ 2 ^ (b * n) * D ∧ (∀ a ∈ Qs, a.2 ∣ (T : Int) ∧ a.1.natAbs ≤ 2 ^ (b + n * (b + 2) + b * n + 1) * D) ∧ (∀ a ∈ Rs, a.2 ∣ (T : Int) ∧ a.1.natAbs ≤ 2 ^ (b + n * (b + 2)))
/-- quotient and rest, by values -/
def DivV (p : Int) (prs prs' Qs Rs : List (Int × Int)) : Prop := ∀ (R : Type) (_ : Lean.Grind.CommRing R) (v : Int × Int → R), Vp p R v → ∀ k, vg v prs k = cvv (vg v Qs) (vg v prs') k + vg v Rs k
section
variable {R : Type} [Lean.Grind.CommRing R] {p : Int} {v : Int × Int → R}
theorem Vp.cancel (X : Vp p R v) {x y c : R} (h : x * c = y * c) (hc : c ≠ 0) : x = y := by
  have : (x - y) * c = 0 := by grind
  rcases X.dom this with h | h
  · grind
  · exact absurd h hc
theorem ne_one (X : Vp p R v) (hg : goodP p = true) {b : Int} (h1 : 1 ≤ b) (hp : p ≠ 0 → b = 1) : (ic b : R) ≠ 0 := X.ne (by omega) fun p0 d => by
  have := prime_lt hg p0
  rw [hp p0] at d
  have := Int.le_of_dvd (by decide) d
  omega
theorem wh_vg (X : Vp p R v) (hg : goodP p = true) {prs : List (Int × Int)} {ns : List Int} {b : Int} (ok : OkL p prs) (W : WholeAt p prs ns b) (k : Nat) : vg v prs k * ic b = ic (gz ns k) := by
  by_cases c : k < prs.length
  · have c2 : k < ns.length := by rw [W.len]; exact c
    rw [vg_lt c, gz_lt c2]
    have e := W.at_ k _ _ (List.getElem?_eq_getElem c2) (List.getElem?_eq_getElem c)
    have oa := ok _ (List.getElem_mem c)
    generalize prs[k] = a at *
    generalize ns[k] = n at *
    have m := X.mul oa
    refine X.cancel (c := ic a.2) ?_ (ne_one X hg oa.1 fun p0 => (oa.2.2 p0).1)
    rw [← ic_mul, e, ic_mul]
    grind
  · rw [vg_ge X (by omega), gz_ge (by rw [W.len]; omega), ic_zero]
    grind
theorem nd_vg (X : Vp p R v) {prs : List (Int × Int)} {ns : List Int} {b : Int} (b0 : b ≠ 0) (h : NDs p b ns prs) (k : Nat) : vg v prs k * ic b = ic (gz ns k) := by
  by_cases c : k < prs.length
  · have c2 : k < ns.length := by rw [← h.len]; exact c
    rw [vg_lt c, gz_lt c2]
    exact X.nd (h.at_ k _ _ (List.getElem?_eq_getElem c2) (List.getElem?_eq_getElem c)) b0
  · rw [vg_ge X (by omega), gz_ge (by rw [← h.len]; omega), ic_zero]
    grind
end
/-- the division of integers gives that of numbers -/
theorem div_v {p : Int} (hg : goodP p = true) {prs prs' Q0 R0 : List (Int × Int)} {ns ms rest qs : List Int} {s ls t : Int} {f : Nat → Int} (ok : OkL p prs) (ok' : OkL p prs') (okQ : OkL p Q0) (okR : OkL p R0) (W : WholeAt p prs ns s) (W' : WholeAt p prs' ms ls)
    (t0 : t ≠ 0) (tp : p ≠ 0 → ¬ p ∣ t) (idt : ∀ k, EqM p (t * gz ns k) (pl f ms k + gz rest k)) (hq : ∀ k, gz qs k = f k * ls) (nq : NDs p (t * s) qs Q0) (nr : NDs p (t * s) rest R0) : DivV p prs prs' (trimP Q0) (trimP R0) := by
  intro R i v X k
  have sp := W.pos
  have b0 : t * s ≠ 0 := Int.mul_ne_zero t0 (by omega)
  have tsn : (ic (t * s) : R) ≠ 0 := X.ne b0 fun p0 d => by
    rw [W.mod p0, Int.mul_one] at d
    exact tp p0 d
  have tr := fun l (h : OkL p l) => (trimP_spec X _ l rfl h).1
  rw [tr R0 okR]
  have e0 : cvv (vg v (trimP Q0)) (vg v prs') k = cvv (vg v Q0) (vg v prs') k := sv_congr fun j _ => by rw [tr Q0 okQ]
  rw [e0]
  refine X.cancel ?_ tsn
  have a1 := wh_vg X hg ok W k
  have a2 := X.eqm (idt k)
  rw [ic_mul, ic_add] at a2
  have a3 := nd_vg X b0 nr k
  have a4 : (ic (pl f ms k) : R) = cvv (vg v Q0) (vg v prs') k * ic (t * s) := by
    unfold pl cvv
    rw [sv_int, Lean.Grind.CommRing.mul_comm, ← sv_mul]
    refine sv_congr fun j _ => ?_
    have b1 := nd_vg X b0 nq j
    rw [hq, ic_mul (f j) ls] at b1
    have b2 := wh_vg X hg ok' W' (k - j)
    rw [ic_mul, ← b2]
    grind
  rw [a4] at a2
  have ets : (ic (t * s) : R) = ic t * ic s := ic_mul t s
  grind
def spDivd (K : PySem.W.Frag) (C CP CF COF CNP : Addr) : Sp := fun vs H Q E => ∃ (a b : Addr) (p p' : Int) (prs prs' : List (Int × Int)), vs = [.ref a, .ref b] ∧ Pol C CP CF H a p prs ∧ Pol C CP CF H b p' prs' ∧ goodP p = true ∧
  (p ≠ p' → E (.ref COF) none H) ∧ (p = p' → prs' = [] → ∀ H', Same H H' → ∀ d, H' d = none → E (.ref CNP) (some d) (upd H' d (fldAt "place" (.int (-1))))) ∧
  (p = p' → prs' ≠ [] → trimP prs' = prs' ∧ ∃ D b n : Nat, DivB p prs prs' D b ∧ prs.length ≤ n ∧ prs'.length ≤ n ∧ n ≤ 100 ∧
    ∀ q y z Qs Rs H', Same H H' → H' q = some (.tup [.ref y, .ref z]) → Pol C CP CF H' y p Qs → Pol C CP CF H' z p Rs → trimP Qs = Qs → trimP Rs = Rs → OkL p Qs → OkL p Rs → Rs.length < prs'.length → Qs.length ≤ n → DivQ p Qs Rs D b n → DivV p prs prs' Qs Rs → Q (.ref q) H')
end Sq

namespace Sq
open PySem L2 PyProof.Rows
theorem trim_last {p : Int} {prs : List (Int × Int)} (t : trimP prs = prs) (ne : prs ≠ []) : ∃ m a, prs = m ++ [a] ∧ a.1 ≠ 0 := by
  have e : prs.dropLast ++ [prs.getLast ne] = prs := List.dropLast_concat_getLast ne
  generalize prs.getLast ne = a at e
  generalize hm : prs.dropLast = m at e
  subst e
  by_cases z : a.1 = 0
  · rw [trimP_zero z] at t
    have l : (trimP m).length ≤ m.length := by
      unfold trimP
      rw [List.length_reverse]
      exact Nat.le_trans (List.Sublist.length_le (List.dropWhile_sublist _)) (by simp)
    rw [t] at l
    simp at l
    omega
  · exact ⟨m, a, rfl, z⟩
theorem trim_trim (l : List (Int × Int)) : trimP (trimP l) = trimP l := by
  unfold trimP
  rw [List.reverse_reverse]
  congr 1
  generalize l.reverse = r
  induction r with
  | nil => rfl
  | cons a r ih =>
    by_cases z : (a.1 == 0) = true
    · have e : List.dropWhile (fun a : Int × Int => a.1 == 0) (a :: r) = List.dropWhile (fun a => a.1 == 0) r := List.dropWhile_cons_of_pos (p := fun a : Int × Int => a.1 == 0) z
      rw [e]
      exact ih
    · have e : List.dropWhile (fun a : Int × Int => a.1 == 0) (a :: r) = a :: r := List.dropWhile_cons_of_neg (p := fun a : Int × Int => a.1 == 0) z
      rw [e, e]
theorem mkPL_go {K : PySem.W.Frag} {C CP CF CRd CNP y dy x l : Addr} {H : Hp} {p : Int} {xs : List V} {prs : List (Int × Int)} {Q : VK} {E : XK} (hx : FldAt CF H x p) (hg : goodP p = true) (kl : PySem.W.kitOne K (.type "list") (.ref CRd) = some false) (hl : H l = some (.lst xs)) (gv : Givs K C H p xs (prs.map some)) (lx : xs.length ≤ 100) (ny : H y = none) (ndy : H dy = none) (ne : dy ≠ y)
    (k : ∀ H', Same H H' → Pol C CP CF H' y p (trimP prs) → Q .non H') : spPolyInit K C CP CF CRd CNP [.ref y, .ref x, .ref l] (upd (upd H dy (.own y)) y (.ins CP dy [])) Q E := by
  have s0 : Same H (upd (upd H dy (.own y)) y (.ins CP dy [])) := same_pair ny ndy ne
  refine ⟨y, dy, x, p, .ref l, some (prs.map some), rfl, upd_same, hx.same s0, hg, ⟨_, .base (.lst (s0 _ _ hl)), kl⟩, (.row (.inl (s0 _ _ hl)) lx (gv.same s0)), (fun e => nomatch e), fun os e lt => ?_, fun os e ec H1 b1 po => ?_⟩
  · cases e
    exact absurd lt (by rw [pre_all rfl, List.length_map]; omega)
  · cases e
    rw [pre_all rfl] at po
    exact k H1 (same_made ny ndy b1) po
end Sq

namespace Sq
open PySem L2 PyProof.Rows
abbrev s_content : Stmt := top 37
abbrev s_short : Stmt := top 38
/-- what all integers of a row have in common -/
def contF (c : Nat) (l : List Int) : Nat := l.foldl (fun c e => Nat.gcd c e.natAbs) c
theorem contF_dvd : ∀ (l : List Int) (c : Nat), contF c l ∣ c ∧ ∀ e ∈ l, contF c l ∣ e.natAbs
  | [], c => ⟨Nat.dvd_refl c, fun e h => by cases h⟩
  | a :: l, c => by
    obtain ⟨h1, h2⟩ := contF_dvd l (Nat.gcd c a.natAbs)
    refine ⟨Nat.dvd_trans h1 (Nat.gcd_dvd_left _ _), fun e h => ?_⟩
    rcases List.mem_cons.mp h with h | h
    · rw [h]
      exact Nat.dvd_trans h1 (Nat.gcd_dvd_right _ _)
    · exact h2 e h
theorem contF_snoc (c : Nat) (l : List Int) (a : Int) : contF c (l ++ [a]) = Nat.gcd (contF c l) a.natAbs := by
  unfold contF
  rw [List.foldl_append]
  rfl
def ct (p : Int) (l : List Int) : Int := if p = 0 then ((contF 0 l : Nat) : Int) else 1
def shortP (p : Int) (l : List Int) : List Int := l.map fun e => e.fdiv (ct p l)
theorem ct_ok {p : Int} (h1 : ¬ p ∣ 1) {l : List Int} (hl : ∃ e ∈ l, e ≠ 0) : 0 < ct p l ∧ ¬ p ∣ ct p l ∧ ∀ e ∈ l, ct p l ∣ e := by
  unfold ct
  by_cases c : p = 0
  · rw [if_pos c]
    obtain ⟨_, h⟩ := contF_dvd l 0
    have hp : 0 < ((contF 0 l : Nat) : Int) := by
      obtain ⟨e, he, e0⟩ := hl
      have := h e he
      have k : 0 < contF 0 l := Nat.pos_of_dvd_of_pos this (by omega)
      omega
    refine ⟨hp, fun z => ?_, fun e he => Int.natAbs_dvd_natAbs.mp (by rw [Int.natAbs_natCast]; exact h e he)⟩
    rw [c] at z
    have := Int.zero_dvd.mp z
    omega
  · rw [if_neg c]
    exact ⟨by decide, h1, fun e _ => Int.one_dvd e⟩
theorem fdiv_ct {c e : Int} (c0 : 0 < c) (h : c ∣ e) : c * e.fdiv c = e := by
  obtain ⟨k, rfl⟩ := h
  rw [Int.mul_fdiv_cancel_left _ (by omega)]
theorem fdiv_le {c e : Int} (c0 : 0 < c) (h : c ∣ e) : (e.fdiv c).natAbs ≤ e.natAbs := by
  obtain ⟨k, rfl⟩ := h
  rw [Int.mul_fdiv_cancel_left _ (by omega), Int.natAbs_mul]
  exact Nat.le_mul_of_pos_left _ (by omega)
theorem getInt {ns : List Int} {i : Nat} {v : V} (h : (ns.map V.int)[i]? = some v) : i < ns.length ∧ v = V.int (ns.getD i 0) ∧ ns.getD i 0 ∈ ns := by
  rw [List.getElem?_map] at h
  by_cases c : i < ns.length
  · rw [List.getElem?_eq_getElem c] at h
    have e : ns.getD i 0 = ns[i] := by
      rw [List.getD_eq_getElem?_getD, List.getElem?_eq_getElem c]
      rfl
    rw [e]
    exact ⟨c, (Option.some.inj h).symm, List.getElem_mem c⟩
  · rw [List.getElem?_eq_none (by omega)] at h
    cases h
theorem map_vts (ns : List Int) (f : Int → Int) : vts ns.length (fun i => f (ns.getD i 0)) = (ns.map f).map V.int := by
  refine List.ext_getElem? fun i => ?_
  by_cases c : i < ns.length
  · rw [vts_at c, List.getElem?_map, List.getElem?_map, List.getElem?_eq_getElem c, List.getD_eq_getElem?_getD, List.getElem?_eq_getElem c]
    rfl
  · rw [List.getElem?_eq_none (by rw [vts_len]; omega), List.getElem?_eq_none (by simp; omega)]
def spContent : Sp := fun vs H Q _ => ∃ (l : Addr) (p : Int) (ns : List Int), vs = [.ref l, .int p] ∧ H l = some (.lst (ns.map V.int)) ∧ Q (.int (ct p ns)) H
def spShort : Sp := fun vs H Q _ => ∃ (l : Addr) (p : Int) (ns : List Int), vs = [.ref l, .int p] ∧ H l = some (.lst (ns.map V.int)) ∧ ns.length ≤ 5000 ∧ (p = 0 → (ns = [] ∨ ∃ e ∈ ns, e ≠ 0) ∧ ∀ e ∈ ns, e.natAbs < 2 ^ 7950) ∧ ∀ l' H', Same H H' → H l' = none → H' l' = some (.lst ((shortP p ns).map V.int)) → Q (.ref l') H'
section
variable {P : Program} {w : World} {K : PySem.W.Frag} {mg : Str → Option Value} {base : Heap}
theorem sc_content : FnScope ["row", "prime", "common", "each"] ["row", "prime"] (defScope s_content) := ⟨rfl, rfl, rfl, by decide +kernel, rfl, by decide +kernel, by decide +kernel⟩
theorem ok_content {f : Addr} {fd : FuncData} (F : Fun K "content" "content" s_content f fd) (g_gcd : mg "gcd_math" = some (.builtin "math.gcd")) : FnOk P w K mg base CX0 1 f fd ["row", "prime"] spContent := by
  refine F.ok sc_content (fun vs H Q E h => ?_) (fun cdv A outer s H vs Q E hr h => ?_)
  · obtain ⟨l, p, ns, rfl, _⟩ := h
    rfl
  · obtain ⟨l, p, ns, rfl, hl, k⟩ := h
    refine ⟨_, (pss_cons (ps_if (pt_cmpR op_ne (pv 1) pe_int (nomark _)) (pss_one (ps_ret pe_int)) pss_nil)
      (pss_cons (ps_set (i := 2) sc_content.nd rfl (Or.inl rfl) pe_int)
      (pss_cons (ps_for PassesOwn.never rfl (pi_list (pv 0)) (pg_name (i := 3) sc_content.nd rfl (Or.inl rfl)) (pss_one (ps_set (i := 2) sc_content.nd rfl (Or.inl rfl) (pe_callBfun cr_gcd (by rfl) g_gcd (pa_cons (pv 2) (pa_cons (pv 3) pa_nil))))))
      (pss_one (ps_ret (pv 2)))))), ?_⟩
    unfold ct at k
    by_cases p0 : p = 0
    · rw [if_pos p0] at k
      refine ⟨_, rfl, rfl, _, rfl, itDn (by simp [p0]) ?_⟩
      refine ⟨_, rfl, l, rfl, ⟨_, SqL.of hl⟩, ?_⟩
      refine for_list (xs := ns.map V.int) (fun i σ H' => ∃ z3 : Option V, σ = [some (.ref l), some (.int p), some (.int ((contF 0 (ns.take i) : Nat) : Int)), z3] ∧ H' = H) ?_ ?_ ?_ ?_
      · exact ⟨none, rfl, rfl⟩
      · rintro i σ H' _ ⟨_, _, rfl⟩
        exact SqL.of hl
      · rintro i v σ H1 hi ⟨z3, rfl, rfl⟩
        obtain ⟨i1, rfl, _⟩ := getInt hi
        refine ⟨_, rfl, _, rfl, _, _, rfl, some (V.int (ns.getD i 0)), ?_, rfl⟩
        have tk : ns.take (i + 1) = ns.take i ++ [ns[i]] := take_more (List.getElem?_eq_getElem i1)
        have e : ns.getD i 0 = ns[i] := by
          rw [List.getD_eq_getElem?_getD, List.getElem?_eq_getElem i1]
          rfl
        rw [tk, contF_snoc, e]
        rfl
      · rintro σ H1 ⟨z3, rfl, rfl⟩
        rw [List.length_map, List.take_length]
        exact ⟨_, rfl, k⟩
    · rw [if_neg p0] at k
      exact ⟨_, rfl, rfl, _, rfl, itD (by simp [p0]) k⟩
theorem sc_short : FnScope ["row", "prime", "common", "each"] ["row", "prime"] (defScope s_short) := ⟨rfl, rfl, rfl, by decide +kernel, rfl, by decide +kernel, by decide +kernel⟩
theorem ok_short {f fcontent : Addr} {fd fdcontent : FuncData} (F : Fun K "shortened" "shortened" s_short f fd) (G_content : FnOk P w K mg base CX0 1 fcontent fdcontent ["row", "prime"] spContent) (m_content : mg "content" = some (.ref fcontent)) (k_content : PySem.W.keepIn K (.ref fcontent) = true) (b_content : Binds K fdcontent ["row", "prime"] []) : FnOk P w K mg base CX0 2 f fd ["row", "prime"] spShort := by
  refine F.ok sc_short (fun vs H Q E h => ?_) (fun cdv A outer s H vs Q E hr h => ?_)
  · obtain ⟨l, p, ns, rfl, _⟩ := h
    rfl
  · obtain ⟨l, p, ns, rfl, hl, ln, bz, k⟩ := h
    refine ⟨_, (pss_cons (ps_set (i := 2) sc_short.nd rfl (Or.inr rfl) (pe_call G_content (hr.mono (by decide)) rfl m_content k_content b_content .nil pass0 (pa_cons (pv 0) (pa_cons (pv 1) pa_nil))))
      (pss_one (ps_ret (pe_lc (own := [("each", 3)]) (g := (gName 3)) (tt := tYes) rfl sc_short.nd (pi_list (pv 0)) (blkOk_by (N := ["row", "prime", "common", "each"]) (sc := defScope s_short) (by decide +kernel)) (fun _ _ _ _ _ => pg_name (i := 3) sc_short.nd rfl (Or.inl rfl)) (fun _ _ _ _ _ => pts_nil) (fun _ _ _ _ _ => pe_op op_fdivZ (pv 3) (pv 2)))))), ?_⟩
    have e24 : (sizeLine : Nat) = 16777216 := sizeLine_eq
    refine ⟨_, rfl, _, rfl, l, p, ns, rfl, hl, ?_⟩
    have c8 : ns ≠ [] → ∀ x, CDivZ x (ct p ns) := fun nn x => by
      unfold ct
      by_cases p0 : p = 0
      · rw [if_pos p0]
        obtain ⟨ne, bd⟩ := bz p0
        have ne := ne.resolve_left nn
        obtain ⟨_, hd⟩ := contF_dvd ns 0
        obtain ⟨e, he, e0⟩ := ne
        have d := hd e he
        have le := Nat.le_of_dvd (by omega) d
        have b := bd e he
        have ps : 0 < contF 0 ns := Nat.pos_of_dvd_of_pos d (by omega)
        exact ⟨by omega, by rw [Int.natAbs_natCast]; exact Nat.lt_of_le_of_lt le (Nat.lt_of_lt_of_le b (Nat.pow_le_pow_right (by decide) (by decide)))⟩
      · rw [if_neg p0]
        exact ⟨by decide, Nat.one_lt_two_pow (by decide)⟩
    refine ⟨_, rfl, l, rfl, ⟨_, SqL.of hl⟩, fun L hL => ?_⟩
    refine lc_list (xs := ns.map V.int) (fun i H' => Same H H' ∧ H' L = some (.lst (vts i fun i => (ns.getD i 0).fdiv (ct p ns)))) ?_ ?_ ?_ ?_
    · exact ⟨same_new (Same.refl _) hL, upd_same⟩
    · rintro i H' _ ⟨s1, _⟩
      exact SqL.of (s1 _ _ hl)
    · rintro i v H1 hi ⟨s1, c1⟩
      obtain ⟨i1, rfl, _⟩ := getInt hi
      refine ⟨rfl, _, rfl, _, rfl, _, _, rfl, rfl, c8 (fun z => by rw [z] at i1; exact absurd i1 (Nat.not_lt_zero _)) _, ?_⟩
      refine ⟨_, c1, by rw [vts_len]; omega, same_at s1 hL, ?_⟩
      rw [vts_succ]
      exact upd_same
    rintro H1 ⟨s1, c1⟩
    rw [List.length_map, map_vts ns fun e => e.fdiv (ct p ns)] at c1
    exact k L H1 s1 hL c1
end
end Sq

namespace Sq
open PySem L2 PyProof.Rows
/-! ### sums and products of rows -/
def sm : Nat → (Nat → Int) → Int
  | 0, _ => 0
  | n + 1, f => sm n f + f n
theorem sm_congr {f g : Nat → Int} : ∀ {n}, (∀ i, i < n → f i = g i) → sm n f = sm n g
  | 0, _ => rfl
  | n + 1, h => by
    show sm n f + f n = sm n g + g n
    rw [sm_congr fun i hi => h i (by omega), h n (by omega)]
theorem sm_add (f g : Nat → Int) : ∀ n, sm n (fun i => f i + g i) = sm n f + sm n g
  | 0 => rfl
  | n + 1 => by
    show sm n (fun i => f i + g i) + (f n + g n) = sm n f + f n + (sm n g + g n)
    rw [sm_add f g n]
    omega
theorem sm_mul (c : Int) (f : Nat → Int) : ∀ n, sm n (fun i => c * f i) = c * sm n f
  | 0 => by
    show (0 : Int) = c * 0
    omega
  | n + 1 => by
    show sm n (fun i => c * f i) + c * f n = c * (sm n f + f n)
    rw [sm_mul c f n, Int.mul_add]
theorem sm_zero {f : Nat → Int} : ∀ {n}, (∀ i, i < n → f i = 0) → sm n f = 0
  | 0, _ => rfl
  | n + 1, h => by
    show sm n f + f n = 0
    rw [sm_zero fun i hi => h i (by omega), h n (by omega)]
    rfl
theorem sm_dvd {p : Int} {f : Nat → Int} : ∀ {n}, (∀ i, i < n → p ∣ f i) → p ∣ sm n f
  | 0, _ => Int.dvd_zero p
  | n + 1, h => by
    show p ∣ sm n f + f n
    exact Int.dvd_add (sm_dvd fun i hi => h i (by omega)) (h n (by omega))
theorem sm_head (f : Nat → Int) : ∀ n, sm (n + 1) f = f 0 + sm n fun i => f (i + 1)
  | 0 => by
    show (0 : Int) + f 0 = f 0 + 0
    omega
  | n + 1 => by
    show sm (n + 1) f + f (n + 1) = f 0 + (sm n (fun i => f (i + 1)) + f (n + 1))
    rw [sm_head f n]
    omega
theorem sm_grow (f : Nat → Int) {n : Nat} : ∀ d, (∀ i, n ≤ i → f i = 0) → sm (n + d) f = sm n f
  | 0, _ => rfl
  | d + 1, h => by
    show sm (n + d) f + f (n + d) = _
    rw [sm_grow f d h, h (n + d) (by omega)]
    omega
theorem sm_ext {n N : Nat} (h : n ≤ N) (f : Nat → Int) : sm n f = sm N fun i => if i < n then f i else 0 := by
  obtain ⟨d, rfl⟩ : ∃ d, N = n + d := ⟨N - n, by omega⟩
  rw [sm_grow _ d fun i hi => if_neg (by omega)]
  exact sm_congr fun i hi => (if_pos hi).symm
theorem sm_swap (f : Nat → Nat → Int) (a : Nat) : ∀ b, sm b (fun j => sm a fun i => f j i) = sm a fun i => sm b fun j => f j i
  | 0 => by
    show (0 : Int) = sm a fun _ => 0
    rw [sm_zero fun _ _ => rfl]
  | b + 1 => by
    show sm b (fun j => sm a fun i => f j i) + sm a (fun i => f b i) = sm a fun i => sm b (fun j => f j i) + f b i
    rw [sm_swap f a b, sm_add]
def dv (f g : Nat → Int) (i : Nat) : Int := sm (i + 1) fun j => f j * g (i - j)
theorem dv_wide (f g h : Nat → Int) (k : Nat) : dv f (dv g h) k = sm (k + 1) fun j => sm (k + 1) fun i => if i + j ≤ k then f j * (g i * h (k - j - i)) else 0 := by
  unfold dv
  refine sm_congr fun j hj => ?_
  rw [← sm_mul, sm_ext (show k - j + 1 ≤ k + 1 by omega)]
  refine sm_congr fun i hi => ?_
  by_cases c : i + j ≤ k
  · rw [if_pos c, if_pos (by omega)]
  · rw [if_neg c, if_neg (by omega)]
theorem dv_swap (f g h : Nat → Int) (k : Nat) : dv f (dv g h) k = dv g (dv f h) k := by
  rw [dv_wide, dv_wide, sm_swap]
  refine sm_congr fun i _ => sm_congr fun j _ => ?_
  by_cases c : j + i ≤ k
  · rw [if_pos c, if_pos (by omega), show k - j - i = k - i - j by omega, ← Int.mul_assoc, ← Int.mul_assoc, Int.mul_comm (f j)]
  · rw [if_neg c, if_neg (by omega)]
theorem dv_lin (a b : Int) (f g r : Nat → Int) (k : Nat) : dv (fun j => a * f j - b * g j) r k = a * dv f r k - b * dv g r k := by
  have e : dv (fun j => a * f j - b * g j) r k = sm (k + 1) fun j => a * (f j * r (k - j)) + (-b) * (g j * r (k - j)) := by
    refine sm_congr fun j _ => ?_
    rw [Int.sub_mul, Int.mul_assoc, Int.mul_assoc, Int.neg_mul]
    omega
  rw [e, sm_add, sm_mul, sm_mul, Int.neg_mul]
  unfold dv
  omega
theorem dv_mod {p : Int} {f g r : Nat → Int} (h : ∀ j, p ∣ f j - g j) (k : Nat) : p ∣ dv f r k - dv g r k := by
  have e := dv_lin 1 1 f g r k
  rw [Int.one_mul, Int.one_mul] at e
  rw [← e]
  refine sm_dvd fun j _ => ?_
  have := h j
  show p ∣ (1 * f j - 1 * g j) * r (k - j)
  rw [Int.one_mul, Int.one_mul]
  exact Int.dvd_mul_of_dvd_left this
def PrimeD (p : Int) : Prop := ∀ a b : Int, p ∣ a * b → p ∣ a ∨ p ∣ b
theorem mod_dvd {p a : Int} : a % p = 0 ↔ p ∣ a := ⟨Int.dvd_of_emod_eq_zero, Int.emod_eq_zero_of_dvd⟩
theorem sub_mod {p a : Int} : p ∣ a - a % p := by
  refine ⟨a / p, ?_⟩
  have := Int.mul_ediv_add_emod a p
  omega
theorem goodD {p : Int} (hg : goodP p = true) : PrimeD p ∧ ¬ p ∣ 1 := by
  by_cases p0 : p = 0
  · subst p0
    refine ⟨fun a b h => ?_, by decide⟩
    rcases Int.mul_eq_zero.mp (Int.zero_dvd.mp h) with z | z
    · exact .inl (by rw [z]; exact Int.dvd_zero 0)
    · exact .inr (by rw [z]; exact Int.dvd_zero 0)
  · obtain ⟨p2, p3, hp⟩ := goodP_pos hg p0
    refine ⟨fun a b h => ?_, fun h => ?_⟩
    · by_cases c : p ∣ a
      · exact .inl c
      · right
        have a0 := Int.emod_nonneg a p0
        have a1 := Int.emod_lt_of_pos a (show 0 < p by omega)
        have an : a % p ≠ 0 := fun z => c (mod_dvd.mp z)
        have g := gcd_prime p2 p3 hp (show 1 ≤ a % p by omega) a1
        have h2 : p ∣ (a % p) * b := by
          have e : (a % p) * b = a * b - (a - a % p) * b := by rw [Int.sub_mul]; omega
          rw [e]
          exact Int.dvd_sub h (Int.dvd_mul_of_dvd_left sub_mod)
        have dn : p.natAbs ∣ (a % p).natAbs * b.natAbs := by
          rw [← Int.natAbs_mul]
          exact Int.natAbs_dvd_natAbs.mpr h2
        exact Int.natAbs_dvd_natAbs.mp (Nat.Coprime.dvd_of_dvd_mul_left (show Nat.Coprime p.natAbs (a % p).natAbs from g) dn)
    · have := Int.le_of_dvd (by decide) h
      omega

theorem dv_congr {f f' g g' : Nat → Int} {k : Nat} (h1 : ∀ j, j ≤ k → f j = f' j) (h2 : ∀ j, j ≤ k → g j = g' j) : dv f g k = dv f' g' k :=
  sm_congr fun j hj => by rw [h1 j (by omega), h2 (k - j) (by omega)]
def d0 (j : Nat) : Int := if j = 0 then 1 else 0
theorem dv_d0 (f : Nat → Int) (k : Nat) : dv d0 f k = f k := by
  unfold dv
  rw [sm_head, sm_zero fun i _ => by
    show (if i + 1 = 0 then (1 : Int) else 0) * _ = 0
    rw [if_neg (by omega), Int.zero_mul]]
  show (if (0 : Nat) = 0 then (1 : Int) else 0) * f (k - 0) + 0 = f k
  rw [if_pos rfl, Int.one_mul, Int.add_zero, Nat.sub_zero]
theorem dv_d0r (f : Nat → Int) (k : Nat) : dv f d0 k = f k := by
  show sm k (fun j => f j * d0 (k - j)) + f k * d0 (k - k) = f k
  rw [sm_zero fun j hj => by
    show f j * (if k - j = 0 then (1 : Int) else 0) = 0
    rw [if_neg (by omega), Int.mul_zero], Nat.sub_self]
  show 0 + f k * (if (0 : Nat) = 0 then (1 : Int) else 0) = f k
  rw [if_pos rfl, Int.mul_one, Int.zero_add]
theorem dv_comm (f g : Nat → Int) (k : Nat) : dv f g k = dv g f k := by
  have h := dv_swap f g d0 k
  rw [dv_congr (fun _ _ => rfl) (fun j _ => dv_d0r g j), dv_congr (fun _ _ => rfl) (fun j _ => dv_d0r f j)] at h
  exact h
theorem dv_assoc (f g h : Nat → Int) (k : Nat) : dv f (dv g h) k = dv (dv f g) h k := by
  rw [dv_congr (f := f) (fun _ _ => rfl) (fun j _ => dv_comm g h j), dv_swap, dv_comm]
theorem dv_fin {f g : Nat → Int} {M N : Nat} (h1 : ∀ j, M ≤ j → f j = 0) (h2 : ∀ j, N ≤ j → g j = 0) {k : Nat} (hk : M + N ≤ k) : dv f g k = 0 :=
  sm_zero fun j _ => by
    by_cases c : M ≤ j
    · rw [h1 j c, Int.zero_mul]
    · rw [h2 (k - j) (by omega), Int.mul_zero]
theorem sz_sm (f : Nat → Int) : ∀ n, sz f n = sm n f
  | 0 => rfl
  | n + 1 => by
    show sz f n + f n = sm n f + f n
    rw [sz_sm f n]
theorem pl_dv (f : Nat → Int) (low : List Int) (k : Nat) : pl f low k = dv f (gz low) k := sz_sm _ _
theorem eqm_dvd {p a b : Int} (h : EqM p a b) : p ∣ a - b := by
  obtain ⟨c, rfl⟩ := h
  exact ⟨c, by rw [Int.mul_comm]; omega⟩
/-- up to a number that is not 0, the row l is a multiple of d -/
def PD (p : Int) (d l : List Int) : Prop := ∃ (u : Int) (N : Nat) (h : Nat → Int), ¬ p ∣ u ∧ (∀ k, N ≤ k → h k = 0) ∧ ∀ k, p ∣ u * gz l k - dv h (gz d) k
theorem PD.refl {p : Int} (p1 : ¬ p ∣ 1) (d : List Int) : PD p d d :=
  ⟨1, 1, d0, p1, fun k hk => if_neg (by omega), fun k => by rw [dv_d0, Int.one_mul, Int.sub_self]; exact Int.dvd_zero p⟩
theorem PD.nil {p : Int} (p1 : ¬ p ∣ 1) (d : List Int) : PD p d [] :=
  ⟨1, 0, fun _ => 0, p1, fun _ _ => rfl, fun k => by
    rw [gz_ge (Nat.zero_le _)]
    have : dv (fun _ => 0) (gz d) k = 0 := sm_zero fun j _ => Int.zero_mul _
    rw [this]
    exact Int.dvd_zero p⟩
theorem PD.one {p : Int} (p1 : ¬ p ∣ 1) (l : List Int) : PD p [1] l :=
  ⟨1, l.length, gz l, p1, fun k hk => gz_ge hk, fun k => by
    have e : dv (gz l) (gz [1]) k = gz l k := by
      rw [dv_congr (f := gz l) (g' := d0) (fun _ _ => rfl) fun j _ => ?_, dv_d0r]
      unfold d0
      split
      · rename_i z
        subst z
        rfl
      · exact gz_ge (by show 1 ≤ j; omega)
    rw [e, Int.one_mul, Int.sub_self]
    exact Int.dvd_zero p⟩
theorem PD.scale {p c : Int} {d l s : List Int} (e : ∀ k, gz l k = c * gz s k) (h : PD p d s) : PD p d l := by
  obtain ⟨u, N, h, hu, hf, hd⟩ := h
  refine ⟨u, N, fun j => c * h j, hu, fun k hk => by show c * h k = 0; rw [hf k hk, Int.mul_zero], fun k => ?_⟩
  have e1 : dv (fun j => c * h j) (gz d) k = c * dv h (gz d) k := by
    unfold dv
    rw [← sm_mul]
    exact sm_congr fun j _ => Int.mul_assoc _ _ _
  rw [e1, e, Int.mul_left_comm, ← Int.mul_sub]
  exact Int.dvd_trans (hd k) (Int.dvd_mul_left c _)
theorem PD.step {p : Int} (hp : PrimeD p) {d high low rest : List Int} {t : Int} {f : Nat → Int} {N : Nat} (ht : ¬ p ∣ t) (hf : ∀ k, N ≤ k → f k = 0) (id : ∀ k, p ∣ t * gz high k - (dv f (gz low) k + gz rest k)) (h1 : PD p d low) (h2 : PD p d rest) : PD p d high := by
  obtain ⟨u1, N1, g1, hu1, hf1, hd1⟩ := h1
  obtain ⟨u2, N2, g2, hu2, hf2, hd2⟩ := h2
  refine ⟨u1 * u2 * t, N + N1 + N2, fun j => u2 * dv f g1 j - (-u1) * g2 j, fun z => ?_, fun k hk => ?_, fun k => ?_⟩
  · rcases hp _ _ z with z | z
    · rcases hp _ _ z with z | z
      · exact hu1 z
      · exact hu2 z
    · exact ht z
  · show u2 * dv f g1 k - -u1 * g2 k = 0
    rw [dv_fin hf hf1 (k := k) (by omega), hf2 k (by omega), Int.mul_zero, Int.mul_zero]
    rfl
  · have a1 : p ∣ u1 * dv f (gz low) k - dv f (dv g1 (gz d)) k := by
      have e : u1 * dv f (gz low) k = dv (fun j => u1 * gz low j) f k := by
        rw [dv_comm f]
        unfold dv
        rw [← sm_mul]
        exact sm_congr fun j _ => (Int.mul_assoc _ _ _).symm
      rw [e, dv_comm f]
      exact dv_mod hd1 k
    have e3 : dv (fun j => u2 * dv f g1 j - (-u1) * g2 j) (gz d) k = u2 * dv f (dv g1 (gz d)) k + u1 * dv g2 (gz d) k := by
      rw [dv_lin, ← dv_assoc, Int.neg_mul]
      omega
    rw [e3]
    have b1 := Int.dvd_trans (id k) (Int.dvd_mul_left (u1 * u2) _)
    have b2 := Int.dvd_trans a1 (Int.dvd_mul_left u2 _)
    have b3 := Int.dvd_trans (hd2 k) (Int.dvd_mul_left u1 _)
    have s := Int.dvd_add (Int.dvd_add b1 b2) b3
    have e : u1 * u2 * (t * gz high k - (dv f (gz low) k + gz rest k)) + u2 * (u1 * dv f (gz low) k - dv f (dv g1 (gz d)) k) + u1 * (u2 * gz rest k - dv g2 (gz d) k) = u1 * u2 * t * gz high k - (u2 * dv f (dv g1 (gz d)) k + u1 * dv g2 (gz d) k) := by
      grind
    rw [e] at s
    exact s
end Sq

namespace Sq
open PySem L2 PyProof.Rows
abbrev s_common : Stmt := top 41
abbrev s_apart : Stmt := top 40
/-- a row that is cut: modulo p numbers below it; the last one not 0 -/
structure RowG (p : Int) (l : List Int) : Prop where
  rg : p ≠ 0 → ∀ k, 0 ≤ gz l k ∧ gz l k < p
  tp : l = [] ∨ gz l (l.length - 1) ≠ 0
theorem gz_map (f : Int → Int) (z : f 0 = 0) (l : List Int) (k : Nat) : gz (l.map f) k = f (gz l k) := by
  by_cases c : k < l.length
  · rw [gz_lt c, gz_lt (by rw [List.length_map]; exact c), List.getElem_map]
  · rw [gz_ge (l := l) (by omega), gz_ge (l := l.map f) (by rw [List.length_map]; omega), z]
theorem gz_mem {l : List Int} {k : Nat} (h : k < l.length) : gz l k ∈ l := by
  rw [gz_lt h]
  exact List.getElem_mem h
theorem short_len (p : Int) (l : List Int) : (shortP p l).length = l.length := by
  unfold shortP
  rw [List.length_map]
theorem short_gz (p : Int) (l : List Int) (k : Nat) : gz (shortP p l) k = (gz l k).fdiv (ct p l) := by
  unfold shortP
  exact gz_map (fun e => e.fdiv (ct p l)) (Int.zero_fdiv _) l k
theorem short_p {p : Int} (p0 : p ≠ 0) (l : List Int) : shortP p l = l := by
  unfold shortP ct
  rw [if_neg p0]
  have : (fun e : Int => e.fdiv 1) = id := funext fun e => Int.fdiv_one e
  rw [this, List.map_id]
theorem row_ne {p : Int} {l : List Int} (R : RowG p l) (h : l ≠ []) : ∃ e ∈ l, e ≠ 0 :=
  ⟨_, gz_mem (by have := List.length_pos_iff.mpr h; omega), R.tp.resolve_left h⟩
theorem short_row {p : Int} {l : List Int} (R : RowG p l) : RowG p (shortP p l) ∧ ∀ k, (gz (shortP p l) k).natAbs ≤ (gz l k).natAbs := by
  by_cases p0 : p = 0
  · subst p0
    by_cases e : l = []
    · subst e
      exact ⟨R, fun k => Nat.le_refl _⟩
    · obtain ⟨c0, _, dv⟩ := ct_ok (p := 0) (fun z => by have := Int.zero_dvd.mp z; omega) (row_ne R e)
      have le : ∀ k, (gz (shortP 0 l) k).natAbs ≤ (gz l k).natAbs := fun k => by
        rw [short_gz]
        by_cases c : k < l.length
        · exact fdiv_le c0 (dv _ (gz_mem c))
        · rw [gz_ge (by omega), Int.zero_fdiv]
          exact Nat.le_refl _
      refine ⟨⟨fun z => absurd rfl z, .inr fun z => ?_⟩, le⟩
      rw [short_len, short_gz] at z
      have n0 := List.length_pos_iff.mpr e
      have h := fdiv_ct c0 (dv _ (gz_mem (l := l) (k := l.length - 1) (by omega)))
      rw [z, Int.mul_zero] at h
      exact R.tp.resolve_left e h.symm
  · rw [short_p p0]
    exact ⟨R, fun k => Nat.le_refl _⟩
theorem short_scale {l : List Int} (R : RowG 0 l) (k : Nat) : gz l k = ct 0 l * gz (shortP 0 l) k := by
  rw [short_gz]
  by_cases c : k < l.length
  · obtain ⟨c0, _, dv⟩ := ct_ok (p := 0) (fun z => by have := Int.zero_dvd.mp z; omega) (row_ne R (fun z => by rw [z] at c; exact absurd c (Nat.not_lt_zero _)))
    exact (fdiv_ct c0 (dv _ (gz_mem c))).symm
  · rw [gz_ge (by omega), Int.zero_fdiv, Int.mul_zero]
theorem three_pow : ∀ d : Nat, 1 ≤ d → d + 2 ≤ 3 ^ d
  | 1, _ => by decide
  | d + 2, _ => by
    have := three_pow (d + 1) (by omega)
    rw [Nat.pow_succ]
    omega
/-- modulo any number above 0 that is not too great -/
def spCommonP : Sp := fun vs H Q _ => ∃ (l1 l2 : Addr) (p : Int) (xs ys : List Int), vs = [.ref l1, .ref l2, .int p] ∧ 2 ≤ p ∧ p.natAbs < 2 ^ 62 ∧ H l1 = some (.lst (xs.map V.int)) ∧ H l2 = some (.lst (ys.map V.int)) ∧ RowG p xs ∧ RowG p ys ∧ xs.length ≤ 100 ∧ ys.length ≤ 100 ∧ ∀ l gs H', Same H H' → H' l = some (.lst (gs.map V.int)) → RowG p gs → gs.length ≤ 100 → (xs ≠ [] ∨ ys ≠ [] → gs ≠ []) → (goodP p = true → PD p gs xs ∧ PD p gs ys) → Q (.ref l) H'
/-- of integers; b the bits of the numbers, n the greatest length -/
def spCommonZ : Sp := fun vs H Q _ => ∃ (l1 l2 : Addr) (xs ys : List Int) (b n : Nat), vs = [.ref l1, .ref l2, .int 0] ∧ H l1 = some (.lst (xs.map V.int)) ∧ H l2 = some (.lst (ys.map V.int)) ∧ RowG 0 xs ∧ RowG 0 ys ∧ xs.length ≤ n ∧ ys.length ≤ n ∧ 1 ≤ n ∧ n ≤ 100 ∧ 2 * (b + 2) * 3 ^ n ≤ 7000 ∧ (∀ k, (gz xs k).natAbs < 2 ^ b) ∧ (∀ k, (gz ys k).natAbs < 2 ^ b) ∧
  ∀ l gs (c : Nat) H', Same H H' → H' l = some (.lst (gs.map V.int)) → RowG 0 gs → gs.length ≤ n → (xs ≠ [] ∨ ys ≠ [] → gs ≠ []) → (∀ k, (gz gs k).natAbs < 2 ^ c) → (c + 2) * 3 ^ gs.length ≤ 2 * (b + 2) * 3 ^ n → PD 0 gs xs ∧ PD 0 gs ys → Q (.ref l) H'
def spApart : Sp := fun vs H Q _ => ∃ (l1 l2 : Addr) (xs ys : List Int), vs = [.ref l1, .ref l2] ∧ H l1 = some (.lst (xs.map V.int)) ∧ H l2 = some (.lst (ys.map V.int)) ∧ xs.length ≤ 100 ∧ ys.length ≤ 100 ∧ ∀ b H', Same H H' → Q (.bl b) H'
theorem pt_nev {X : Cx} {e : Expr} : PT X e fun _ _ _ => False := ⟨fun _ _ _ _ _ _ h => h.elim⟩
section
variable {P : Program} {w : World} {K : PySem.W.Frag} {mg : Str → Option Value} {base : Heap}
theorem sc_common : FnScope ["one", "other", "prime", "high", "low", "rest"] ["one", "other", "prime"] (defScope s_common) := ⟨rfl, rfl, rfl, by decide +kernel, rfl, by decide +kernel, by decide +kernel⟩
theorem ok_commonP {f fshort fdiv : Addr} {fd fdshort fddiv : FuncData} (F : Fun K "common_row" "common_row" s_common f fd) (B : QTx mg) (G_short : FnOk P w K mg base CX0 2 fshort fdshort ["row", "prime"] spShort) (m_short : mg "shortened" = some (.ref fshort)) (k_short : PySem.W.keepIn K (.ref fshort) = true) (b_short : Binds K fdshort ["row", "prime"] []) (G_div : FnOk P w K mg base CX0 2 fdiv fddiv ["high", "low", "prime"] spDiv) (m_div : mg "division" = some (.ref fdiv)) (k_div : PySem.W.keepIn K (.ref fdiv) = true) (b_div : Binds K fddiv ["high", "low", "prime"] []) : FnOk P w K mg base CX0 4 f fd ["one", "other", "prime"] spCommonP := by
  refine F.ok sc_common (fun vs H Q E h => ?_) (fun cdv A outer s H vs Q E hr h => ?_)
  · obtain ⟨l1, l2, p, xs, ys, rfl, _⟩ := h
    rfl
  · obtain ⟨l1, l2, p, xs, ys, rfl, hp, pb, h1, h2, rx, ry, lx, ly, k⟩ := h
    have p0 : p ≠ 0 := by omega
    refine ⟨_, (pss_cons (ps_if (PW.pt (pw_and (pt_cmpR op_eq (pv 2) pe_int (nomark _)) (pw_and1 pt_nev))) (pss_one ps_never) pss_nil)
      (pss_cons (ps_par (i := 3) (j := 4) (by rfl) sc_common.nd rfl rfl (by decide) rfl rfl (pa_cons (pe_call G_short (hr.mono (by decide)) rfl m_short k_short b_short .nil pass0 (pa_cons (pv 0) (pa_cons (pv 2) pa_nil))) (pa_cons (pe_call G_short (hr.mono (by decide)) rfl m_short k_short b_short .nil pass0 (pa_cons (pv 1) (pa_cons (pv 2) pa_nil))) pa_nil)) (by rfl))
      (C8.pss_cut (ps_while PassesOwn.never (pt_cmpR op_gt (pe_callB call_len_seq (by rfl) B.b_len (by decide +kernel) (pa_cons (pv 4) pa_nil)) pe_int (nomark _)) (pss_cons (ps_set (i := 5) sc_common.nd rfl (Or.inl rfl) (pe_ix ix_tup (pe_call G_div (hr.mono (by decide)) rfl m_div k_div b_div .nil pass0 (pa_cons (pv 3) (pa_cons (pv 4) (pa_cons (pv 2) pa_nil)))) pe_int (fun _ _ => rfl)))
      (pss_one (ps_par (i := 3) (j := 4) (by rfl) sc_common.nd rfl rfl (by decide) rfl rfl (pa_cons (pv 4) (pa_cons (pe_call G_short (hr.mono (by decide)) rfl m_short k_short b_short .nil pass0 (pa_cons (pv 5) (pa_cons (pv 2) pa_nil))) pa_nil)) (by rfl)))))
      (pss_one (ps_ret (pv 3)))))), ?_⟩
    have e24 : (sizeLine : Nat) = 16777216 := sizeLine_eq
    refine ⟨_, rfl, rfl, _, rfl, itDn (by simp [p0]) ?_⟩
    refine ⟨_, rfl, _, rfl, l1, p, xs, rfl, h1, by omega, fun z => absurd z p0, fun la H1 s1 _ ha => ?_⟩
    rw [short_p p0] at ha
    refine ⟨_, rfl, _, rfl, l2, p, ys, rfl, s1 _ _ h2, by omega, fun z => absurd z p0, fun lb H2 s2 _ hb => ⟨_, _, rfl, ?_⟩⟩
    rw [short_p p0] at hb
    refine ⟨fun σ H' => ∃ (l : Addr) (gs : List Int) (z4 z5 : Option V), σ = [some (.ref l1), some (.ref l2), some (.int p), some (.ref l), z4, z5] ∧ Same H H' ∧ H' l = some (.lst (gs.map V.int)) ∧ RowG p gs ∧ gs.length ≤ 100 ∧ (xs ≠ [] ∨ ys ≠ [] → gs ≠ []) ∧ (goodP p = true → PD p gs xs ∧ PD p gs ys), ?_, ?_⟩
    · refine while_go (fun σ H' => ∃ (h l : Addr) (hs ls : List Int) (z5 : Option V), σ = [some (.ref l1), some (.ref l2), some (.int p), some (.ref h), some (.ref l), z5] ∧ Same H H' ∧ H' h = some (.lst (hs.map V.int)) ∧ H' l = some (.lst (ls.map V.int)) ∧ RowG p hs ∧ RowG p ls ∧ hs.length ≤ 100 ∧ ls.length ≤ 100 ∧ (xs ≠ [] ∨ ys ≠ [] → hs ≠ [] ∨ ls ≠ []) ∧ (goodP p = true → ∀ d, PD p d hs → PD p d ls → PD p d xs ∧ PD p d ys)) (fun σ H' => match σ with | [_, _, _, _, some (.ref l), _] => (match H' l with | some (.lst vs) => vs.length | _ => 0) | _ => 0) ⟨la, lb, xs, ys, none, rfl, s1.trans s2, s2 _ _ ha, hb, rx, ry, lx, ly, id, fun _ d a b => ⟨a, b⟩⟩ ?_
      rintro σ H3 ⟨h, l, hs, ls, z5, rfl, s3, hh, hl, rh, rl, lh, ll, ne, pd⟩
      refine ⟨_, rfl, l, _, rfl, .inl (SqL.of hl), _, _, rfl, rfl, _, rfl, ?_⟩
      rw [List.length_map]
      by_cases c : ls = []
      · subst c
        exact itDn (by decide) ⟨h, hs, _, _, rfl, s3, hh, rh, lh, (fun z => (ne z).resolve_right fun q => q rfl), fun g => pd g _ (PD.refl (goodD g).2 _) (PD.nil (goodD g).2 _)⟩
      · have n0 : 0 < ls.length := List.length_pos_iff.mpr c
        refine itD (decide_eq_true (by show (ls.length : Int) > 0; omega)) ?_
        refine ⟨fun σ' H' => ∃ (h' l' : Addr) (hs' ls' : List Int) (z5 : Option V), σ' = [some (.ref l1), some (.ref l2), some (.int p), some (.ref h'), some (.ref l'), z5] ∧ Same H H' ∧ H' h' = some (.lst (hs'.map V.int)) ∧ H' l' = some (.lst (ls'.map V.int)) ∧ RowG p hs' ∧ RowG p ls' ∧ hs'.length ≤ 100 ∧ ls'.length < ls.length ∧ (xs ≠ [] ∨ ys ≠ [] → hs' ≠ [] ∨ ls' ≠ []) ∧ (goodP p = true → ∀ d, PD p d hs' → PD p d ls' → PD p d xs ∧ PD p d ys), ?_, ?_⟩
        · rintro σ' H' ⟨h', l', hs', ls', z5', rfl, s', hh', hl', rh', rl', lh', ll', ne', pd'⟩
          refine ⟨ls'.length, ?_, ?_, h', l', hs', ls', z5', rfl, s', hh', hl', rh', rl', lh', by omega, ne', pd'⟩
          · show ls'.length < (match H3 l with | some (.lst vs) => vs.length | _ => 0)
            rw [hl]
            show _ < (ls.map V.int).length
            rw [List.length_map]
            exact ll'
          · show ls'.length = (match H' l' with | some (.lst vs) => vs.length | _ => 0)
            rw [hl']
            show _ = (ls'.map V.int).length
            rw [List.length_map]
        · refine ⟨_, rfl, _, rfl, _, rfl, h, l, p, hs, ls, 100, 62, rfl, hh, hl, by omega, lh, ll, by omega, by omega, rl.tp.resolve_left c, (fun _ => rl.rg p0), pb, (fun k => by have := rh.rg p0 k; omega), (fun k => by have := rl.rg p0 k; omega), by decide, fun q t l3 l4 N g rest H4 s4 hq hl3 hl4 lr tp rg _ tnd _ gz0 _ _ _ idt => ?_⟩
          refine ⟨_, _, _, _, rfl, rfl, SqT.of hq, rfl, ?_⟩
          refine ⟨_, rfl, _, rfl, _, rfl, l4, p, rest, rfl, hl4, by omega, fun z => absurd z p0, fun l5 H5 s5 _ h5 => ⟨_, _, rfl, ?_⟩⟩
          rw [short_p p0] at h5
          exact ⟨l, l5, ls, rest, _, rfl, (s3.trans s4).trans s5, s5 _ _ (s4 _ _ hl), h5, rl, ⟨rg, tp⟩, ll, lr, (fun _ => .inl c), fun gd d a b => pd gd d (PD.step (goodD gd).1 (tnd gd p0) gz0 (fun k => by have := eqm_dvd (idt k); rw [pl_dv] at this; exact this) a b) a⟩
    rintro σ H3 ⟨l, gs, z4, z5, rfl, s3, hl, rg, lg, ne, pd⟩
    exact ⟨_, rfl, k l gs H3 s3 hl rg lg ne pd⟩
end
end Sq

namespace Sq
open PySem L2 PyProof.Rows
theorem trim_row {p : Int} (hp : 2 ≤ p) (l : List Int) : RowG p (trimZ (modZ p l)) ∧ (trimZ (modZ p l)).length ≤ l.length := by
  obtain ⟨t1, t2, t3⟩ := trimZ_spec _ (modZ p l) rfl
  rw [modZ_len] at t2
  refine ⟨⟨fun p0 k => ?_, t3⟩, t2⟩
  rw [t1]
  unfold modZ
  rw [if_neg p0, gz_map (· % p) (Int.zero_emod p)]
  exact ⟨Int.emod_nonneg _ p0, Int.emod_lt_of_pos _ (by omega)⟩
theorem sc_apart : FnScope ["one", "other", "seen"] ["one", "other"] (defScope s_apart) := ⟨rfl, rfl, rfl, by decide +kernel, rfl, by decide +kernel, by decide +kernel⟩
section
variable {P : Program} {w : World} {K : PySem.W.Frag} {mg : Str → Option Value} {base : Heap}
theorem ok_apart {f ftrimmed fcommon : Addr} {fd fdtrimmed fdcommon : FuncData} {tSP : Tok} (F : Fun K "_are_seen_apart" "_are_seen_apart" s_apart f fd) (B : QTx mg) (GSP : mg "SIGHTING_PRIME" = some (.int 2305843009213693951 tSP))
    (G_trimmed : FnOk P w K mg base CX0 1 ftrimmed fdtrimmed ["row", "prime"] spTrimmed) (m_trimmed : mg "trimmed" = some (.ref ftrimmed)) (k_trimmed : PySem.W.keepIn K (.ref ftrimmed) = true) (b_trimmed : Binds K fdtrimmed ["row", "prime"] [])
    (G_commonP : FnOk P w K mg base CX0 4 fcommon fdcommon ["one", "other", "prime"] spCommonP) (m_common : mg "common_row" = some (.ref fcommon)) (k_common : PySem.W.keepIn K (.ref fcommon) = true) (b_common : Binds K fdcommon ["one", "other", "prime"] []) : FnOk P w K mg base CX0 5 f fd ["one", "other"] spApart := by
  refine F.ok sc_apart (fun vs H Q E h => ?_) (fun cdv A outer s H vs Q E hr h => ?_)
  · obtain ⟨l1, l2, xs, ys, rfl, _⟩ := h
    rfl
  · obtain ⟨l1, l2, xs, ys, rfl, h1, h2, lx, ly, k⟩ := h
    refine ⟨_, (pss_cons (ps_set (i := 2) sc_apart.nd rfl (Or.inl rfl) (pe_call G_trimmed (hr.mono (by decide)) rfl m_trimmed k_trimmed b_trimmed .nil pass0 (pa_cons (pv 0) (pa_cons (pe_glob (v := .int 2305843009213693951) rfl GSP ⟨_, rfl⟩) pa_nil))))
      (pss_cons (ps_if (pt_cmpR op_lt (pe_callB call_len_seq (by rfl) B.b_len (by decide +kernel) (pa_cons (pv 2) pa_nil)) (pe_callB call_len_seq (by rfl) B.b_len (by decide +kernel) (pa_cons (pv 0) pa_nil)) (nomark _)) (pss_one (ps_ret pe_bl)) pss_nil)
      (pss_one (ps_ret (pe_cmpR op_eq (pe_callB call_len_seq (by rfl) B.b_len (by decide +kernel) (pa_cons (pe_call G_commonP (hr.mono (by decide)) rfl m_common k_common b_common .nil pass0 (pa_cons (pv 2) (pa_cons (pe_call G_trimmed (hr.mono (by decide)) rfl m_trimmed k_trimmed b_trimmed .nil pass0 (pa_cons (pv 1) (pa_cons (pe_glob (v := .int 2305843009213693951) rfl GSP ⟨_, rfl⟩) pa_nil))) (pa_cons (pe_glob (v := .int 2305843009213693951) rfl GSP ⟨_, rfl⟩) pa_nil)))) pa_nil)) pe_int (nomark _)))))), ?_⟩
    have e24 : (sizeLine : Nat) = 16777216 := sizeLine_eq
    refine ⟨_, rfl, l1, 2305843009213693951, xs, rfl, h1, by decide, by omega, fun la H1 s1 _ ha => ?_⟩
    obtain ⟨ra, lea⟩ := trim_row (p := 2305843009213693951) (by decide) xs
    generalize trimZ (modZ 2305843009213693951 xs) = as at *
    refine ⟨_, rfl, la, _, rfl, .inl (SqL.of ha), _, rfl, l1, _, rfl, .inl (SqL.of (s1 _ _ h1)), _, _, rfl, rfl, _, rfl, ?_⟩
    refine ite2 (fun _ => k _ H1 s1) (fun _ => ?_)
    refine ⟨_, rfl, _, rfl, l2, 2305843009213693951, ys, rfl, s1 _ _ h2, by decide, by omega, fun lb H2 s2 _ hb => ?_⟩
    obtain ⟨rb, leb⟩ := trim_row (p := 2305843009213693951) (by decide) ys
    generalize trimZ (modZ 2305843009213693951 ys) = bs at *
    refine ⟨la, lb, 2305843009213693951, as, bs, rfl, by decide, by decide, s2 _ _ ha, hb, ra, rb, by omega, by omega, fun l gs H3 s3 hl _ _ _ _ => ?_⟩
    exact ⟨l, _, rfl, .inl (SqL.of hl), rfl, k _ H3 ((s1.trans s2).trans s3)⟩
end
end Sq

namespace Sq
open PySem L2 PyProof.Rows
/-- bits after a division -/
theorem step_bits {c S hi lo W : Nat} (hS : S = hi + 1 - lo) (h : (lo < hi ∧ (c + 2) * 3 ^ hi ≤ W) ∨ (hi ≤ lo ∧ 2 * (c + 2) * 3 ^ lo ≤ W)) : (c + S * (c + 2) + 2) * 3 ^ lo ≤ W := by
  have e : c + S * (c + 2) + 2 = (S + 1) * (c + 2) := by rw [Nat.succ_mul]; omega
  rw [e]
  rcases h with ⟨l, h⟩ | ⟨l, h⟩
  · obtain ⟨d, rfl⟩ : ∃ d, hi = lo + d := ⟨hi - lo, by omega⟩
    have t := three_pow d (by omega)
    have s1 : S + 1 = d + 2 := by omega
    rw [s1]
    refine Nat.le_trans ?_ h
    rw [Nat.pow_add, Nat.mul_comm (d + 2) (c + 2), Nat.mul_assoc]
    refine Nat.mul_le_mul_left _ ?_
    rw [Nat.mul_comm]
    exact Nat.mul_le_mul_left _ t
  · refine Nat.le_trans (Nat.mul_le_mul_right _ (Nat.mul_le_mul_right _ ?_)) h
    omega
section
variable {P : Program} {w : World} {K : PySem.W.Frag} {mg : Str → Option Value} {base : Heap}
theorem ok_commonZ {f fshort fdiv fapart : Addr} {fd fdshort fddiv fdapart : FuncData} (F : Fun K "common_row" "common_row" s_common f fd) (B : QTx mg) (G_short : FnOk P w K mg base CX0 2 fshort fdshort ["row", "prime"] spShort) (m_short : mg "shortened" = some (.ref fshort)) (k_short : PySem.W.keepIn K (.ref fshort) = true) (b_short : Binds K fdshort ["row", "prime"] []) (G_div : FnOk P w K mg base CX0 2 fdiv fddiv ["high", "low", "prime"] spDiv) (m_div : mg "division" = some (.ref fdiv)) (k_div : PySem.W.keepIn K (.ref fdiv) = true) (b_div : Binds K fddiv ["high", "low", "prime"] [])
    (G_apart : FnOk P w K mg base CX0 5 fapart fdapart ["one", "other"] spApart) (m_apart : mg "_are_seen_apart" = some (.ref fapart)) (k_apart : PySem.W.keepIn K (.ref fapart) = true) (b_apart : Binds K fdapart ["one", "other"] []) : FnOk P w K mg base CX0 6 f fd ["one", "other", "prime"] spCommonZ := by
  refine F.ok sc_common (fun vs H Q E h => ?_) (fun cdv A outer s H vs Q E hr h => ?_)
  · obtain ⟨l1, l2, xs, ys, b, n, rfl, _⟩ := h
    rfl
  · obtain ⟨l1, l2, xs, ys, b, n, rfl, h1, h2, rx, ry, lx, ly, n1, n100, hW, bx, by_, k⟩ := h
    refine ⟨_, (pss_cons (ps_if (PW.pt (pw_and (pt_cmpR op_eq (pv 2) pe_int (nomark _)) (pw_and1 (pt_val (pe_call G_apart (hr.mono (by decide)) rfl m_apart k_apart b_apart .nil pass0 (pa_cons (pv 0) (pa_cons (pv 1) pa_nil))))))) (pss_one (ps_ret (pe_lst (pa_cons pe_int pa_nil)))) pss_nil)
      (pss_cons (ps_par (i := 3) (j := 4) (by rfl) sc_common.nd rfl rfl (by decide) rfl rfl (pa_cons (pe_call G_short (hr.mono (by decide)) rfl m_short k_short b_short .nil pass0 (pa_cons (pv 0) (pa_cons (pv 2) pa_nil))) (pa_cons (pe_call G_short (hr.mono (by decide)) rfl m_short k_short b_short .nil pass0 (pa_cons (pv 1) (pa_cons (pv 2) pa_nil))) pa_nil)) (by rfl))
      (C8.pss_cut (ps_while PassesOwn.never (pt_cmpR op_gt (pe_callB call_len_seq (by rfl) B.b_len (by decide +kernel) (pa_cons (pv 4) pa_nil)) pe_int (nomark _)) (pss_cons (ps_set (i := 5) sc_common.nd rfl (Or.inl rfl) (pe_ix ix_tup (pe_call G_div (hr.mono (by decide)) rfl m_div k_div b_div .nil pass0 (pa_cons (pv 3) (pa_cons (pv 4) (pa_cons (pv 2) pa_nil)))) pe_int (fun _ _ => rfl)))
      (pss_one (ps_par (i := 3) (j := 4) (by rfl) sc_common.nd rfl rfl (by decide) rfl rfl (pa_cons (pv 4) (pa_cons (pe_call G_short (hr.mono (by decide)) rfl m_short k_short b_short .nil pass0 (pa_cons (pv 5) (pa_cons (pv 2) pa_nil))) pa_nil)) (by rfl)))))
      (pss_one (ps_ret (pv 3)))))), ?_⟩
    have e24 : (sizeLine : Nat) = 16777216 := sizeLine_eq
    obtain ⟨W, eW⟩ : ∃ W : Nat, W = 2 * (b + 2) * 3 ^ n := ⟨_, rfl⟩
    rw [← eW] at hW k
    have W12 : 12 ≤ W := by
      rw [eW]
      have h3 : 3 ^ 1 ≤ 3 ^ n := Nat.pow_le_pow_right (by decide) n1
      have h4 : 2 * (b + 2) * 3 ^ 1 ≤ 2 * (b + 2) * 3 ^ n := Nat.mul_le_mul_left _ h3
      omega
    have pos3 : ∀ m : Nat, 1 ≤ 3 ^ m := fun m => Nat.pow_pos (by decide)
    have W3 : ∀ {x m : Nat}, (x + 2) * 3 ^ m ≤ W → x + 2 ≤ 7000 := fun {x m} h => by
      have := Nat.mul_le_mul_left (x + 2) (pos3 m)
      omega
    have sm : ∀ {c : Nat} {l : List Int}, c + 2 ≤ 7000 → (∀ k, (gz l k).natAbs < 2 ^ c) → ∀ e ∈ l, e.natAbs < 2 ^ 7950 := fun {c l} hc hb e he => by
      obtain ⟨i, hi, rfl⟩ := List.mem_iff_getElem.mp he
      have := hb i
      rw [gz_lt hi] at this
      exact Nat.lt_of_lt_of_le this (Nat.pow_le_pow_right (by decide) (by omega))
    have b7 : b + 2 ≤ 7000 := W3 (m := n) (by
      rw [eW]
      exact Nat.mul_le_mul_right _ (by omega))
    have zs : ∀ {l : List Int}, RowG 0 l → l = [] ∨ ∃ e ∈ l, e ≠ 0 := fun {l} R => by
      by_cases e : l = []
      · exact .inl e
      · exact .inr (row_ne R e)
    refine ⟨_, rfl, rfl, _, rfl, itD (by decide) ?_⟩
    refine ⟨_, rfl, _, rfl, l1, l2, xs, ys, rfl, h1, h2, by omega, by omega, fun ap H0 s0 => ⟨_, rfl, ?_⟩⟩
    cases ap with
    | true =>
      refine iteT ⟨(by show 1 ≤ sizeLine; omega), fun l hl => ?_⟩
      refine k l [1] 1 _ (s0.trans (same_new (Same.refl _) hl)) upd_same ⟨fun z => absurd rfl z, .inr (by decide)⟩ n1 (fun _ => by simp) (fun i => ?_) (by show 9 ≤ W; omega) ⟨PD.one (by decide) _, PD.one (by decide) _⟩
      by_cases c : i = 0
      · subst c
        decide
      · rw [gz_ge (by show 1 ≤ i; omega)]
        decide
    | false =>
    refine iteF ?_
    refine ⟨_, rfl, _, rfl, l1, 0, xs, rfl, s0 _ _ h1, by omega, fun _ => ⟨zs rx, sm b7 bx⟩, fun la H1 s1 _ ha => ?_⟩
    refine ⟨_, rfl, _, rfl, l2, 0, ys, rfl, s1 _ _ (s0 _ _ h2), by omega, fun _ => ⟨zs ry, sm b7 by_⟩, fun lb H2 s2 _ hb => ⟨_, _, rfl, ?_⟩⟩
    obtain ⟨rx2, ex⟩ := short_row rx
    obtain ⟨ry2, ey⟩ := short_row ry
    have px : ∀ d, PD 0 d (shortP 0 xs) → PD 0 d xs := fun d h => PD.scale (short_scale rx) h
    have py : ∀ d, PD 0 d (shortP 0 ys) → PD 0 d ys := fun d h => PD.scale (short_scale ry) h
    have bx2 : ∀ k, (gz (shortP 0 xs) k).natAbs < 2 ^ b := fun k => Nat.lt_of_le_of_lt (ex k) (bx k)
    have by2 : ∀ k, (gz (shortP 0 ys) k).natAbs < 2 ^ b := fun k => Nat.lt_of_le_of_lt (ey k) (by_ k)
    have lx2 := short_len 0 xs
    have ly2 := short_len 0 ys
    have nx : xs ≠ [] → shortP 0 xs ≠ [] := fun z e => z (by rw [e] at lx2; exact List.eq_nil_of_length_eq_zero lx2.symm)
    have ny : ys ≠ [] → shortP 0 ys ≠ [] := fun z e => z (by rw [e] at ly2; exact List.eq_nil_of_length_eq_zero ly2.symm)
    generalize shortP 0 xs = xs2 at *
    generalize shortP 0 ys = ys2 at *
    have ini : ∀ {m : Nat}, m ≤ n → 2 * (b + 2) * 3 ^ m ≤ W := fun {m} h => by
      rw [eW]
      exact Nat.mul_le_mul_left _ (Nat.pow_le_pow_right (by decide) h)
    have ini1 : ∀ {m : Nat}, m ≤ n → (b + 2) * 3 ^ m ≤ W := fun {m} h => Nat.le_trans (Nat.mul_le_mul_right _ (by omega)) (ini h)
    refine ⟨fun σ H' => ∃ (l : Addr) (gs : List Int) (c : Nat) (z4 z5 : Option V), σ = [some (.ref l1), some (.ref l2), some (.int 0), some (.ref l), z4, z5] ∧ Same H H' ∧ H' l = some (.lst (gs.map V.int)) ∧ RowG 0 gs ∧ gs.length ≤ n ∧ (xs ≠ [] ∨ ys ≠ [] → gs ≠ []) ∧ (∀ k, (gz gs k).natAbs < 2 ^ c) ∧ (c + 2) * 3 ^ gs.length ≤ W ∧ (PD 0 gs xs ∧ PD 0 gs ys), ?_, ?_⟩
    · refine while_go (fun σ H' => ∃ (h l : Addr) (hs ls : List Int) (c : Nat) (z5 : Option V), σ = [some (.ref l1), some (.ref l2), some (.int 0), some (.ref h), some (.ref l), z5] ∧ Same H H' ∧ H' h = some (.lst (hs.map V.int)) ∧ H' l = some (.lst (ls.map V.int)) ∧ RowG 0 hs ∧ RowG 0 ls ∧ hs.length ≤ n ∧ ls.length ≤ n ∧ (xs ≠ [] ∨ ys ≠ [] → hs ≠ [] ∨ ls ≠ []) ∧ (∀ k, (gz hs k).natAbs < 2 ^ c) ∧ (∀ k, (gz ls k).natAbs < 2 ^ c) ∧ (c + 2) * 3 ^ hs.length ≤ W ∧ (hs.length ≤ ls.length → 2 * (c + 2) * 3 ^ ls.length ≤ W) ∧ (∀ d, PD 0 d hs → PD 0 d ls → PD 0 d xs ∧ PD 0 d ys)) (fun σ H' => match σ with | [_, _, _, _, some (.ref l), _] => (match H' l with | some (.lst vs) => vs.length | _ => 0) | _ => 0) ⟨la, lb, xs2, ys2, b, none, rfl, (s0.trans s1).trans s2, s2 _ _ ha, hb, rx2, ry2, by omega, by omega, fun z => z.imp nx ny, bx2, by2, ini1 (by omega), (fun _ => ini (by omega)), fun d a b => ⟨px d a, py d b⟩⟩ ?_
      rintro σ H3 ⟨h, l, hs, ls, c, z5, rfl, s3, hh, hl, rh, rl, lh, ll, ne, bh, bl, w1, w2, pd⟩
      refine ⟨_, rfl, l, _, rfl, .inl (SqL.of hl), _, _, rfl, rfl, _, rfl, ?_⟩
      rw [List.length_map]
      by_cases e : ls = []
      · subst e
        exact itDn (by decide) ⟨h, hs, c, _, _, rfl, s3, hh, rh, lh, (fun z => (ne z).resolve_right fun q => q rfl), bh, w1, pd _ (PD.refl (by decide) _) (PD.nil (by decide) _)⟩
      · have n0 : 0 < ls.length := List.length_pos_iff.mpr e
        refine itD (decide_eq_true (by show (ls.length : Int) > 0; omega)) ?_
        obtain ⟨S, eS⟩ : ∃ S, S = hs.length + 1 - ls.length := ⟨_, rfl⟩
        have sb := step_bits (c := c) (W := W) eS (by
          rcases Nat.lt_or_ge ls.length hs.length with z | z
          · exact .inl ⟨z, w1⟩
          · exact .inr ⟨z, w2 z⟩)
        have s7 := W3 sb
        have c7 := W3 w1
        refine ⟨fun σ' H' => ∃ (h' l' : Addr) (hs' ls' : List Int) (c' : Nat) (z5 : Option V), σ' = [some (.ref l1), some (.ref l2), some (.int 0), some (.ref h'), some (.ref l'), z5] ∧ Same H H' ∧ H' h' = some (.lst (hs'.map V.int)) ∧ H' l' = some (.lst (ls'.map V.int)) ∧ RowG 0 hs' ∧ RowG 0 ls' ∧ hs'.length ≤ n ∧ ls'.length < ls.length ∧ (xs ≠ [] ∨ ys ≠ [] → hs' ≠ [] ∨ ls' ≠ []) ∧ (∀ k, (gz hs' k).natAbs < 2 ^ c') ∧ (∀ k, (gz ls' k).natAbs < 2 ^ c') ∧ (c' + 2) * 3 ^ hs'.length ≤ W ∧ ls'.length < hs'.length ∧ (∀ d, PD 0 d hs' → PD 0 d ls' → PD 0 d xs ∧ PD 0 d ys), ?_, ?_⟩
        · rintro σ' H' ⟨h', l', hs', ls', c', z5', rfl, s', hh', hl', rh', rl', lh', ll', ne', bh', bl', w1', lt', pd'⟩
          refine ⟨ls'.length, ?_, ?_, h', l', hs', ls', c', z5', rfl, s', hh', hl', rh', rl', lh', by omega, ne', bh', bl', w1', (fun z => by omega), pd'⟩
          · show ls'.length < (match H3 l with | some (.lst vs) => vs.length | _ => 0)
            rw [hl]
            show _ < (ls.map V.int).length
            rw [List.length_map]
            exact ll'
          · show ls'.length = (match H' l' with | some (.lst vs) => vs.length | _ => 0)
            rw [hl']
            show _ = (ls'.map V.int).length
            rw [List.length_map]
        · refine ⟨_, rfl, _, rfl, _, rfl, h, l, 0, hs, ls, S, c, rfl, hh, hl, by decide, by omega, by omega, by omega, by omega, rl.tp.resolve_left e, (fun z => absurd rfl z), Nat.pow_pos (by decide), bh, bl, by omega, fun q t l3 l4 N g rest H4 s4 hq hl3 hl4 lr tp rg t0 _ _ gz0 _ _ br idt => ?_⟩
          refine ⟨_, _, _, _, rfl, rfl, SqT.of hq, rfl, ?_⟩
          have rr : RowG 0 rest := ⟨fun z => absurd rfl z, tp⟩
          refine ⟨_, rfl, _, rfl, _, rfl, l4, 0, rest, rfl, hl4, by omega, fun _ => ⟨zs rr, sm (by omega) br⟩, fun l5 H5 s5 _ h5 => ⟨_, _, rfl, ?_⟩⟩
          obtain ⟨r5, e5⟩ := short_row rr
          have l55 := short_len 0 rest
          refine ⟨l, l5, ls, shortP 0 rest, c + S * (c + 2), _, rfl, (s3.trans s4).trans s5, s5 _ _ (s4 _ _ hl), h5, rl, r5, ll, by omega, (fun _ => .inl e), (fun j => Nat.lt_of_lt_of_le (bl j) (Nat.pow_le_pow_right (by decide) (by omega))), (fun j => Nat.lt_of_le_of_lt (e5 j) (br j)), sb, by omega, fun d a b => pd d (PD.step (goodD (p := 0) (by decide)).1 (fun z => t0 (Int.zero_dvd.mp z)) gz0 (fun k => by have := eqm_dvd (idt k); rw [pl_dv] at this; exact this) a (PD.scale (short_scale rr) b)) a⟩
    rintro σ H3 ⟨l, gs, c, z4, z5, rfl, s3, hl, rg, lg, ne, bg, wg, pd⟩
    exact ⟨_, rfl, k l gs c H3 s3 hl rg lg ne bg wg pd⟩
end
end Sq

namespace Sq
open PySem L2 PyProof.Rows
abbrev s_pgcd : Stmt := top 51
/-- how great the integers are, exact fractions -/
theorem wh_bd0 {prs : List (Int × Int)} {ns : List Int} {s : Int} {D b : Nat} (ok : OkL 0 prs) (W : WholeAt 0 prs ns s) (dv : s ∣ (D : Int)) (D1 : 1 ≤ D) (bd : ∀ a ∈ prs, a.1.natAbs * D < 2 ^ b * a.2.natAbs) (k : Nat) : (gz ns k).natAbs < 2 ^ b := by
  by_cases c : k < prs.length
  · have c2 : k < ns.length := by rw [W.len]; exact c
    rw [gz_lt c2]
    have e := W.at_ k _ _ (List.getElem?_eq_getElem c2) (List.getElem?_eq_getElem c)
    have oa := ok _ (List.getElem_mem c)
    have b2 := bd _ (List.getElem_mem c)
    generalize prs[k] = a at *
    generalize ns[k] = n at *
    have sp := W.pos
    have e2 : n.natAbs * a.2.natAbs = a.1.natAbs * s.natAbs := by rw [← Int.natAbs_mul, e, Int.natAbs_mul]
    have h1 : 1 ≤ a.2.natAbs := by have := oa.1; omega
    have h2 : s.natAbs ≤ D := by
      have := Int.le_of_dvd (by omega) dv
      omega
    have h3 : n.natAbs * a.2.natAbs < 2 ^ b * a.2.natAbs := by
      rw [e2]
      exact Nat.lt_of_le_of_lt (Nat.mul_le_mul_left _ h2) b2
    exact Nat.lt_of_mul_lt_mul_right h3
  · rw [gz_ge (by rw [W.len]; omega)]
    exact Nat.pow_pos (by decide)
/-- exact fractions: a polynomial over one bottom -/
structure BdZ (prs : List (Int × Int)) (D b : Nat) : Prop where
  D1 : 1 ≤ D
  D5 : D < 2 ^ 5000
  dv : ∀ a ∈ prs, a.2 ∣ (D : Int)
  bd : ∀ a ∈ prs, a.1.natAbs * D < 2 ^ b * a.2.natAbs
theorem BdZ.num {prs : List (Int × Int)} {D b : Nat} (h : BdZ prs D b) (b6 : b ≤ 6000) (ok : OkL 0 prs) : ∀ a ∈ prs, a.1.natAbs < 2 ^ 6000 := fun a ha => by
  have d := Nat.le_of_dvd (by have := h.D1; omega) (Int.natAbs_dvd_natAbs.mpr (h.dv a ha))
  rw [Int.natAbs_natCast] at d
  have h3 : a.1.natAbs * D < 2 ^ b * D := Nat.lt_of_lt_of_le (h.bd a ha) (Nat.mul_le_mul_left _ d)
  exact Nat.lt_of_lt_of_le (Nat.lt_of_mul_lt_mul_right h3) (Nat.pow_le_pow_right (by decide) b6)
theorem ints_of {C : Addr} {H : Hp} {p : Int} {prs : List (Int × Int)} (p0 : p ≠ 0) {ns : List Int} {b : Int} {ys : List V} (nu : FNs C H p ys prs) (W : WholeAt p prs ns b) : ns = prs.map (·.1) := by
  refine List.ext_getElem? fun i => ?_
  have lw := W.len
  have lf := nu.len
  rw [List.getElem?_map]
  by_cases c : i < prs.length
  · have e := W.at_ i _ _ (List.getElem?_eq_getElem (show i < ns.length by omega)) (List.getElem?_eq_getElem c)
    rcases nu.at_ i _ _ (List.getElem?_eq_getElem (show i < ys.length by omega)) (List.getElem?_eq_getElem c) with ⟨z, _⟩ | ⟨_, _, a2, _⟩
    · exact absurd z p0
    · rw [a2, W.mod p0, Int.mul_one, Int.mul_one] at e
      rw [List.getElem?_eq_getElem (show i < ns.length by omega), List.getElem?_eq_getElem c, e]
      rfl
  · rw [List.getElem?_eq_none (by omega), List.getElem?_eq_none (by omega)]
    rfl
/-- the integers of a polynomial are a row that is cut -/
theorem rowG_of {p : Int} {prs : List (Int × Int)} {ns : List Int} {s : Int} (hg : goodP p = true) (ok : OkL p prs) (W : WholeAt p prs ns s) (t : trimP prs = prs) : RowG p ns := by
  have lw := W.len
  have sp := W.pos
  refine ⟨fun p0 k => ?_, ?_⟩
  · by_cases c : k < ns.length
    · rw [gz_lt c]
      have c2 : k < prs.length := by omega
      have e := W.at_ k _ _ (List.getElem?_eq_getElem c) (List.getElem?_eq_getElem c2)
      obtain ⟨a2, a0, a1⟩ := (ok _ (List.getElem_mem c2)).2.2 p0
      rw [a2, W.mod p0, Int.mul_one, Int.mul_one] at e
      rw [e]
      exact ⟨a0, a1⟩
    · rw [gz_ge (by omega)]
      have := (goodP_pos hg p0).1
      omega
  · by_cases e : prs = []
    · refine .inl (List.eq_nil_of_length_eq_zero ?_)
      rw [lw, e]
      rfl
    · obtain ⟨m, x, e2, x0⟩ := trim_last (p := p) t e
      have n0 := List.length_pos_iff.mpr e
      refine .inr fun z => ?_
      rw [gz_lt (by omega)] at z
      have c2 : ns.length - 1 < prs.length := by omega
      have h := W.at_ (ns.length - 1) _ _ (List.getElem?_eq_getElem (by omega)) (List.getElem?_eq_getElem c2)
      have hx : prs[ns.length - 1] = x := by
        have : prs[ns.length - 1]? = some x := by
          rw [show ns.length - 1 = m.length by rw [lw, e2]; simp, e2]
          exact List.getElem?_concat_length
        rw [List.getElem?_eq_getElem c2] at this
        exact Option.some.inj this
      rw [z, hx, Int.zero_mul] at h
      rcases Int.mul_eq_zero.mp h.symm with h | h
      · exact x0 h
      · omega
/-- the polynomial of a row over its last number -/
def GcdZ (p : Int) (gs : List Int) (rs : List (Int × Int)) : Prop := NDs p (gz gs (gs.length - 1)) gs rs
def spPGcd (C CP CF COF : Addr) : Sp := fun vs H Q E => ∃ (a b : Addr) (p p' : Int) (prs prs' : List (Int × Int)), vs = [.ref a, .ref b] ∧ Pol C CP CF H a p prs ∧ Pol C CP CF H b p' prs' ∧ goodP p = true ∧ trimP prs = prs ∧ trimP prs' = prs' ∧ prs.length ≤ 100 ∧ prs'.length ≤ 100 ∧ (p ≠ p' → E (.ref COF) none H) ∧
  (p = p' → ∃ D D' b n : Nat, (p = 0 → BdZ prs D b ∧ BdZ prs' D' b ∧ prs.length ≤ n ∧ prs'.length ≤ n ∧ 1 ≤ n ∧ n ≤ 100 ∧ 2 * (b + 2) * 3 ^ n ≤ 7000) ∧
    ∀ y gs rs H', Same H H' → Pol C CP CF H' y p rs → trimP rs = rs → RowG p gs → (gs ≠ [] → GcdZ p gs rs) → OkL p rs → rs.length = gs.length → gs.length ≤ 100 → (prs ≠ [] ∨ prs' ≠ [] → gs ≠ []) → (p = 0 → gs.length ≤ n ∧ ∃ c : Nat, (∀ k, (gz gs k).natAbs < 2 ^ c) ∧ (c + 2) * 3 ^ gs.length ≤ 2 * (b + 2) * 3 ^ n) → (∃ ns s ms s2, WholeAt p prs ns s ∧ WholeAt p prs' ms s2 ∧ PD p gs ns ∧ PD p gs ms) → Q (.ref y) H')
/-- the polynomial of a cut row is cut -/
theorem trim_nds {p b : Int} {gs : List Int} {rs : List (Int × Int)} (bo : BotOk p b) (gn : gz gs (gs.length - 1) ≠ 0) (nds : NDs p b gs rs) (ne : rs ≠ []) (hb : b = gz gs (gs.length - 1) := by rfl) : trimP rs = rs := by
  have lr := nds.len
  have n0 := List.length_pos_iff.mpr ne
  have e : rs.dropLast ++ [rs.getLast ne] = rs := List.dropLast_concat_getLast ne
  rw [← e]
  refine trimP_keep fun z => ?_
  rw [List.getLast_eq_getElem] at z
  have ix : rs[rs.length - 1] = rs[gs.length - 1]'(by omega) := by congr 1; omega
  rw [ix] at z
  have h := nds.at_ (gs.length - 1) _ _ (List.getElem?_eq_getElem (show gs.length - 1 < gs.length by omega)) (List.getElem?_eq_getElem (show gs.length - 1 < rs.length by omega))
  rw [gz_lt (by omega)] at gn hb
  generalize rs[gs.length - 1]'(by omega) = x at *
  generalize gs[gs.length - 1]'(by omega) = g at *
  subst hb
  by_cases p0 : p = 0
  · have L := low_lowp b (bo.1 p0).1
    rw [h.1 p0] at z
    have := L.val
    rw [z, Int.zero_mul] at this
    rcases Int.mul_eq_zero.mp this.symm with q | q
    · exact gn q
    · have := L.pos
      omega
  · obtain ⟨_, _, _, k, e1⟩ := h.2 p0
    rw [z, Int.zero_mul] at e1
    have d : p ∣ b := ⟨-k, by rw [Int.mul_neg, Int.mul_comm]; omega⟩
    exact (bo.2 p0).1 (Int.emod_eq_zero_of_dvd d)
section
variable {P : Program} {w : World} {K : PySem.W.Frag} {mg : Str → Option Value} {base : Heap}
theorem sc_pgcd : FnScope ["one", "other", "field", "row"] ["one", "other"] (defScope s_pgcd) := ⟨rfl, rfl, rfl, by decide +kernel, rfl, by decide +kernel, by decide +kernel⟩
theorem ok_pgcd {f C CP CF CRd CNP COF fsame fwhole fcommon fpolyof fpinit : Addr} {fd fdsame fdwhole fdcommon fdpolyof fdpinit : FuncData} (F : Fun K "gcd" "gcd" s_pgcd f fd) (B : QTx mg) (TP : PTx K CP) (TF : FTx K CF) (kl : PySem.W.kitOne K (.type "list") (.ref CRd) = some false) (MP : Mk K CP fpinit) (m_P : mg "Poly" = some (.ref CP)) (G_pinit : FnOk P w K mg base (L2.CX P w) 11 fpinit fdpinit ["self", "field", "coefficients"] (spPolyInit K C CP CF CRd CNP)) (b_pinit : Binds K fdpinit ["self", "field", "coefficients"] []) (G_same : FnOk P w K mg base (L2.CX P w) 3 fsame fdsame ["one", "other"] (spSame K CF COF)) (m_same : mg "check_same_field" = some (.ref fsame)) (k_same : PySem.W.keepIn K (.ref fsame) = true) (b_same : Binds K fdsame ["one", "other"] []) (G_whole : FnOk P w K mg base CX0 1 fwhole fdwhole ["field", "numbers"] (spWhole C CF)) (m_whole : mg "whole" = some (.ref fwhole)) (k_whole : PySem.W.keepIn K (.ref fwhole) = true) (b_whole : Binds K fdwhole ["field", "numbers"] []) (G_commonP : FnOk P w K mg base CX0 4 fcommon fdcommon ["one", "other", "prime"] spCommonP) (G_commonZ : FnOk P w K mg base CX0 6 fcommon fdcommon ["one", "other", "prime"] spCommonZ) (m_common : mg "common_row" = some (.ref fcommon)) (k_common : PySem.W.keepIn K (.ref fcommon) = true) (b_common : Binds K fdcommon ["one", "other", "prime"] []) (G_polyof : FnOk P w K mg base CX0 11 fpolyof fdpolyof ["field", "row", "bottom"] (spPolyOf C CP CF)) (m_polyof : mg "poly_of" = some (.ref fpolyof)) (k_polyof : PySem.W.keepIn K (.ref fpolyof) = true) (b_polyof : Binds K fdpolyof ["field", "row", "bottom"] []) : FnOk P w K mg base (L2.CX P w) 13 f fd ["one", "other"] (spPGcd C CP CF COF) := by
  refine F.okX sc_pgcd (fun vs H Q E h => ?_) (fun cdv A outer s H vs Q E hr h => ?_)
  · obtain ⟨a, b, p, p', prs, prs', rfl, _⟩ := h
    rfl
  · obtain ⟨a, b, p, p', prs, prs', rfl, PA, PB, hg, tA, tB, lA, lB, kO, kQ⟩ := h
    have e24 : (sizeLine : Nat) = 16777216 := sizeLine_eq
    by_cases p0 : p = 0
    · refine ⟨_, (pss_cons (ps_expr (pe_call (E := E) G_same (hr.mono (by decide)) rfl m_same k_same b_same .nil (passes_call (takes_of rfl rfl rfl rfl) fun _ _ _ _ h => h) (pa_cons (pv 0) (pa_cons (pv 1) pa_nil))))
      (pss_cons (ps_set (i := 2) sc_pgcd.nd rfl (Or.inl rfl) (pe_fld (pv 0) rfl))
      (pss_cons (ps_set (i := 3) sc_pgcd.nd rfl (Or.inl rfl) (pe_call G_commonZ (hr.mono (by decide)) rfl m_common k_common b_common .nil pass0 (pa_cons (pe_ix ix_tup (pe_call G_whole (hr.mono (by decide)) rfl m_whole k_whole b_whole .nil pass0 (pa_cons (pv 2) (pa_cons (pe_fld (pv 0) rfl) pa_nil))) pe_int (fun _ _ => rfl)) (pa_cons (pe_ix ix_tup (pe_call G_whole (hr.mono (by decide)) rfl m_whole k_whole b_whole .nil pass0 (pa_cons (pv 2) (pa_cons (pe_fld (pv 1) rfl) pa_nil))) pe_int (fun _ _ => rfl)) (pa_cons (pe_fld (pv 2) rfl) pa_nil)))))
      (pss_cons (ps_if (pt_cmpR op_eq (pe_callB call_len_seq (by rfl) B.b_len (by decide +kernel) (pa_cons (pv 3) pa_nil)) pe_int (nomark _)) (pss_one (ps_ret (pe_make (E := fun _ _ _ => False) MP G_pinit (hr.mono (by decide)) rfl m_P b_pinit .nil passL (pa_cons (pv 2) (pa_cons (pe_lst pa_nil) pa_nil))))) pss_nil)
      (pss_one (ps_ret (pe_call G_polyof (hr.mono (by decide)) rfl m_polyof k_polyof b_polyof .nil pass0 (pa_cons (pv 2) (pa_cons (pv 3) (pa_cons (pe_ix ix_list (pv 3) (pe_un un_neg pe_int) (fun _ _ => rfl)) pa_nil)))))))))), ?_⟩
      refine ⟨_, rfl, _, rfl, a, b, p, p', rfl, PA.hasF TP, PB.hasF TP, kO, fun e => ?_⟩
      subst e
      subst p0
      obtain ⟨D, D', bb, n, bz, kQ⟩ := kQ rfl
      obtain ⟨z1, z2, lA2, lB2, n1, n100, h7⟩ := bz rfl
      have b6 : bb ≤ 6000 := by
        have h3 : 1 ≤ 3 ^ n := Nat.pow_pos (by decide)
        have := Nat.mul_le_mul_left (2 * (bb + 2)) h3
        omega
      have okA := PA.okl
      have okB := PB.okl
      obtain ⟨da, fa, ca, ya, AO⟩ := id PA
      obtain ⟨db, fb, cb, yb, BO⟩ := id PB
      obtain ⟨dfa, hfa⟩ := id AO.fl
      have lya := AO.nu.len
      have lyb := BO.nu.len
      refine ⟨_, rfl, a, CP, da, _, _, rfl, AO.ob, TP.cl, TP.nF, plf_field _ _ _, ?_⟩
      refine ⟨_, rfl, _, rfl, a, CP, da, _, _, rfl, AO.ob, TP.cl, TP.nC, plf_coef _ _ _, ?_⟩
      refine ⟨fa, ca, 0, ya, prs, D, rfl, AO.fl, hg, AO.co, AO.nu, by omega, z1.D1, z1.D5, (fun _ x hx => ⟨z1.dv x hx, z1.num b6 okA x hx⟩), fun q1 l1 xs b1 H1 s1 hq1 hl1 W1 dv1 => ?_⟩
      refine ⟨_, _, _, _, rfl, rfl, SqT.of hq1, rfl, ?_⟩
      have BO1 := BO.same s1
      refine ⟨_, rfl, _, rfl, b, CP, db, _, _, rfl, BO1.ob, TP.cl, TP.nC, plf_coef _ _ _, ?_⟩
      refine ⟨fa, cb, 0, yb, prs', D', rfl, AO.fl.same s1, hg, BO1.co, BO1.nu, by omega, z2.D1, z2.D5, (fun _ x hx => ⟨z2.dv x hx, z2.num b6 okB x hx⟩), fun q2 l2 ys b2 H2 s2 hq2 hl2 W2 dv2 => ?_⟩
      refine ⟨_, _, _, _, rfl, rfl, SqT.of hq2, rfl, ?_⟩
      have u2 := s1.trans s2
      refine ⟨_, rfl, fa, CF, dfa, _, _, rfl, u2 _ _ hfa, TF.cl, TF.nP, pf_prime _, ?_⟩
      have w1 := W1.len
      have w2 := W2.len
      refine ⟨l1, l2, xs, ys, bb, n, rfl, s2 _ _ hl1, hl2, rowG_of hg okA W1 tA, rowG_of hg okB W2 tB, by omega, by omega, n1, n100, h7, wh_bd0 okA W1 dv1 z1.D1 z1.bd, wh_bd0 okB W2 dv2 z2.D1 z2.bd, fun l gs c H3 s3 hl rg lg ne bg wg pd => ?_⟩
      have u3 := u2.trans s3
      have ne2 : prs ≠ [] ∨ prs' ≠ [] → gs ≠ [] := fun z => ne (z.imp (fun z q => z (by rw [q] at w1; exact List.eq_nil_of_length_eq_zero w1.symm)) (fun z q => z (by rw [q] at w2; exact List.eq_nil_of_length_eq_zero w2.symm)))
      have c7 : c ≤ 7000 := by
        have h3 : 1 ≤ 3 ^ gs.length := Nat.pow_pos (by decide)
        have := Nat.mul_le_mul_left (c + 2) h3
        omega
      refine ⟨_, rfl, l, _, rfl, .inl (SqL.of hl), rfl, _, rfl, ?_⟩
      rw [List.length_map]
      by_cases cg : gs = []
      · subst cg
        refine itD (by decide) ?_
        refine ⟨_, rfl, (by show 0 ≤ sizeLine; decide), fun le hle => ?_⟩
        have sl := same_new (o := .lst []) (Same.refl H3) hle
        exact fun y dy ny ndy nee => mkPL_go (prs := []) ((AO.fl.same u3).same sl) hg kl upd_same ⟨rfl, fun i x o e _ => by simp at e⟩ (by simp) ny ndy nee fun H4 s4 po => ⟨rfl, kQ y [] [] H4 ((u3.trans sl).trans s4) po rfl rg (fun z => absurd rfl z) (fun a h => by cases h) rfl (by decide) ne2 (fun _ => ⟨lg, c, bg, wg⟩) ⟨_, _, _, _, W1, W2, pd.1, pd.2⟩⟩
      · have n0 : 0 < gs.length := List.length_pos_iff.mpr cg
        refine itDn (fun z => by have := V.int.inj (of_decide_eq_true z); omega) ?_
        have gn := rg.tp.resolve_left cg
        refine ⟨_, rfl, _, rfl, _, rfl, _, rfl, _, _, _, _, rfl, rfl, SqL.of hl, at_last (by rw [List.length_map]; omega) (map_last (by omega)), ?_⟩
        have okB0 : BotOk 0 (gz gs (gs.length - 1)) := ⟨fun _ => ⟨gn, Nat.lt_of_lt_of_le (bg _) (Nat.pow_le_pow_right (by decide) (by omega))⟩, fun z => absurd rfl z⟩
        refine ⟨fa, l, 0, gz gs (gs.length - 1), gs, rfl, AO.fl.same u3, hg, hl, by omega, okB0, (fun z => absurd rfl z), fun y rs H4 s4 nds okl po => ?_⟩
        have lr : rs.length = gs.length := nds.len
        have rne : rs ≠ [] := fun z => by rw [z] at lr; simp at lr; omega
        have tr : trimP rs = rs := trim_nds okB0 gn nds rne
        rw [tr] at po
        exact kQ y gs rs H4 (u3.trans s4) po tr rg (fun _ => nds) okl lr (by omega) ne2 (fun _ => ⟨lg, c, bg, wg⟩) ⟨_, _, _, _, W1, W2, pd.1, pd.2⟩
    · refine ⟨_, (pss_cons (ps_expr (pe_call (E := E) G_same (hr.mono (by decide)) rfl m_same k_same b_same .nil (passes_call (takes_of rfl rfl rfl rfl) fun _ _ _ _ h => h) (pa_cons (pv 0) (pa_cons (pv 1) pa_nil))))
      (pss_cons (ps_set (i := 2) sc_pgcd.nd rfl (Or.inl rfl) (pe_fld (pv 0) rfl))
      (pss_cons (ps_set (i := 3) sc_pgcd.nd rfl (Or.inl rfl) (pe_call G_commonP (hr.mono (by decide)) rfl m_common k_common b_common .nil pass0 (pa_cons (pe_ix ix_tup (pe_call G_whole (hr.mono (by decide)) rfl m_whole k_whole b_whole .nil pass0 (pa_cons (pv 2) (pa_cons (pe_fld (pv 0) rfl) pa_nil))) pe_int (fun _ _ => rfl)) (pa_cons (pe_ix ix_tup (pe_call G_whole (hr.mono (by decide)) rfl m_whole k_whole b_whole .nil pass0 (pa_cons (pv 2) (pa_cons (pe_fld (pv 1) rfl) pa_nil))) pe_int (fun _ _ => rfl)) (pa_cons (pe_fld (pv 2) rfl) pa_nil)))))
      (pss_cons (ps_if (pt_cmpR op_eq (pe_callB call_len_seq (by rfl) B.b_len (by decide +kernel) (pa_cons (pv 3) pa_nil)) pe_int (nomark _)) (pss_one (ps_ret (pe_make (E := fun _ _ _ => False) MP G_pinit (hr.mono (by decide)) rfl m_P b_pinit .nil passL (pa_cons (pv 2) (pa_cons (pe_lst pa_nil) pa_nil))))) pss_nil)
      (pss_one (ps_ret (pe_call G_polyof (hr.mono (by decide)) rfl m_polyof k_polyof b_polyof .nil pass0 (pa_cons (pv 2) (pa_cons (pv 3) (pa_cons (pe_ix ix_list (pv 3) (pe_un un_neg pe_int) (fun _ _ => rfl)) pa_nil)))))))))), ?_⟩
      have p2 := (goodP_pos hg p0).1
      have pl := prime_lt hg p0
      have p14 : p.natAbs < 2 ^ 14 := by
        have : (2 : Nat) ^ 14 = 16384 := by decide
        omega
      have p62 : p.natAbs < 2 ^ 62 := Nat.lt_of_lt_of_le p14 (Nat.pow_le_pow_right (by decide) (by decide))
      refine ⟨_, rfl, _, rfl, a, b, p, p', rfl, PA.hasF TP, PB.hasF TP, kO, fun e => ?_⟩
      subst e
      obtain ⟨D, D', bb, n, _, kQ⟩ := kQ rfl
      have okA := PA.okl
      have okB := PB.okl
      obtain ⟨da, fa, ca, ya, AO⟩ := id PA
      obtain ⟨db, fb, cb, yb, BO⟩ := id PB
      obtain ⟨dfa, hfa⟩ := id AO.fl
      have lya := AO.nu.len
      have lyb := BO.nu.len
      refine ⟨_, rfl, a, CP, da, _, _, rfl, AO.ob, TP.cl, TP.nF, plf_field _ _ _, ?_⟩
      refine ⟨_, rfl, _, rfl, a, CP, da, _, _, rfl, AO.ob, TP.cl, TP.nC, plf_coef _ _ _, ?_⟩
      refine ⟨fa, ca, p, ya, prs, 1, rfl, AO.fl, hg, AO.co, AO.nu, by omega, by decide, Nat.one_lt_two_pow (by decide), (fun z => absurd z p0), fun q1 l1 xs b1 H1 s1 hq1 hl1 W1 _ => ?_⟩
      refine ⟨_, _, _, _, rfl, rfl, SqT.of hq1, rfl, ?_⟩
      have BO1 := BO.same s1
      refine ⟨_, rfl, _, rfl, b, CP, db, _, _, rfl, BO1.ob, TP.cl, TP.nC, plf_coef _ _ _, ?_⟩
      refine ⟨fa, cb, p, yb, prs', 1, rfl, AO.fl.same s1, hg, BO1.co, BO1.nu, by omega, by decide, Nat.one_lt_two_pow (by decide), (fun z => absurd z p0), fun q2 l2 ys b2 H2 s2 hq2 hl2 W2 _ => ?_⟩
      refine ⟨_, _, _, _, rfl, rfl, SqT.of hq2, rfl, ?_⟩
      have u2 := s1.trans s2
      refine ⟨_, rfl, fa, CF, dfa, _, _, rfl, u2 _ _ hfa, TF.cl, TF.nP, pf_prime _, ?_⟩
      have w1 := W1.len
      have w2 := W2.len
      refine ⟨l1, l2, p, xs, ys, rfl, p2, p62, s2 _ _ hl1, hl2, rowG_of hg okA W1 tA, rowG_of hg okB W2 tB, by omega, by omega, fun l gs H3 s3 hl rg lg ne pd => ?_⟩
      have u3 := u2.trans s3
      have ne2 : prs ≠ [] ∨ prs' ≠ [] → gs ≠ [] := fun z => ne (z.imp (fun z q => z (by rw [q] at w1; exact List.eq_nil_of_length_eq_zero w1.symm)) (fun z q => z (by rw [q] at w2; exact List.eq_nil_of_length_eq_zero w2.symm)))
      have g14 : ∀ k, (gz gs k).natAbs < 2 ^ 14 := fun k => by
        have := rg.rg p0 k
        have : (2 : Nat) ^ 14 = 16384 := by decide
        omega
      refine ⟨_, rfl, l, _, rfl, .inl (SqL.of hl), rfl, _, rfl, ?_⟩
      rw [List.length_map]
      by_cases c : gs = []
      · subst c
        refine itD (by decide) ?_
        refine ⟨_, rfl, (by show 0 ≤ sizeLine; decide), fun le hle => ?_⟩
        have sl := same_new (o := .lst []) (Same.refl H3) hle
        exact fun y dy ny ndy nee => mkPL_go (prs := []) ((AO.fl.same u3).same sl) hg kl upd_same ⟨rfl, fun i x o e _ => by simp at e⟩ (by simp) ny ndy nee fun H4 s4 po => ⟨rfl, kQ y [] [] H4 ((u3.trans sl).trans s4) po rfl rg (fun z => absurd rfl z) (fun a h => by cases h) rfl (by decide) ne2 (fun z => absurd z p0) ⟨_, _, _, _, W1, W2, (pd hg).1, (pd hg).2⟩⟩
      · have n0 : 0 < gs.length := List.length_pos_iff.mpr c
        refine itDn (fun z => by have := V.int.inj (of_decide_eq_true z); omega) ?_
        have gn := rg.tp.resolve_left c
        refine ⟨_, rfl, _, rfl, _, rfl, _, rfl, _, _, _, _, rfl, rfl, SqL.of hl, at_last (by rw [List.length_map]; omega) (map_last (by omega)), ?_⟩
        have okB0 : BotOk p (gz gs (gs.length - 1)) := ⟨fun z => absurd z p0, fun _ => ⟨by rw [Int.emod_eq_of_lt (rg.rg p0 _).1 (rg.rg p0 _).2]; exact gn, Nat.lt_of_lt_of_le (g14 _) (Nat.pow_le_pow_right (by decide) (by decide))⟩⟩
        refine ⟨fa, l, p, gz gs (gs.length - 1), gs, rfl, AO.fl.same u3, hg, hl, by omega, okB0, (fun _ n hn => ?_), fun y rs H4 s4 nds okl po => ?_⟩
        · obtain ⟨i, hi, rfl⟩ := List.mem_iff_getElem.mp hn
          have := g14 i
          rw [gz_lt hi] at this
          exact Nat.lt_of_lt_of_le this (Nat.pow_le_pow_right (by decide) (by decide))
        have lr : rs.length = gs.length := nds.len
        have rne : rs ≠ [] := fun z => by rw [z] at lr; simp at lr; omega
        have tr : trimP rs = rs := trim_nds okB0 gn nds rne
        rw [tr] at po
        exact kQ y gs rs H4 (u3.trans s4) po tr rg (fun _ => nds) okl lr (by omega) ne2 (fun z => absurd z p0) ⟨_, _, _, _, W1, W2, (pd hg).1, (pd hg).2⟩
end
end Sq

namespace Sq
open PySem L2 PyProof.Rows
/-- how great the integers are -/
theorem wh_bd {p : Int} (hg : goodP p = true) {prs prs' : List (Int × Int)} {ns : List Int} {s : Int} {D b : Nat} (ok : OkL p prs) (W : WholeAt p prs ns s) (dv : s ∣ (D : Int)) (D1 : 1 ≤ D) (b14 : 14 ≤ b) (bd : p = 0 → ∀ a ∈ prs, a.2 ∣ (D : Int) ∧ a.1.natAbs * D < 2 ^ b * a.2.natAbs) (k : Nat) : (gz ns k).natAbs < 2 ^ b := by
  by_cases c : k < prs.length
  · have c2 : k < ns.length := by rw [W.len]; exact c
    rw [gz_lt c2]
    have e := W.at_ k _ _ (List.getElem?_eq_getElem c2) (List.getElem?_eq_getElem c)
    have oa := ok _ (List.getElem_mem c)
    have mem := List.getElem_mem c
    generalize prs[k] = a at *
    generalize ns[k] = n at *
    have sp := W.pos
    have e2 : n.natAbs * a.2.natAbs = a.1.natAbs * s.natAbs := by rw [← Int.natAbs_mul, e, Int.natAbs_mul]
    by_cases p0 : p = 0
    · obtain ⟨_, b2⟩ := bd p0 a mem
      have h1 : 1 ≤ a.2.natAbs := by have := oa.1; omega
      have h2 : s.natAbs ≤ D := by
        have := Int.le_of_dvd (by omega) dv
        omega
      have h3 : n.natAbs * a.2.natAbs < 2 ^ b * a.2.natAbs := by
        rw [e2]
        exact Nat.lt_of_le_of_lt (Nat.mul_le_mul_left _ h2) b2
      exact Nat.lt_of_mul_lt_mul_right h3
    · obtain ⟨a2, a0, a1⟩ := oa.2.2 p0
      rw [a2, W.mod p0, Int.mul_one, Int.mul_one] at e
      have := prime_lt hg p0
      have h14 : (2 : Nat) ^ 14 = 16384 := by decide
      have : (2 : Nat) ^ 14 ≤ 2 ^ b := Nat.pow_le_pow_right (by decide) b14
      omega
  · rw [gz_ge (by rw [W.len]; omega)]
    exact Nat.pow_pos (by decide)
/-- the bounds of numbers of a row over a bottom -/
theorem nd_bd {c : Int} {l : List (Int × Int)} {ns : List Int} {X : Nat} (h : NDs 0 c ns l) (c0 : c ≠ 0) (hn : ∀ k, (gz ns k).natAbs ≤ X) : ∀ a ∈ l, a.2 ∣ ((c.natAbs : Nat) : Int) ∧ a.1.natAbs ≤ X := fun a ha => by
  obtain ⟨i, hi⟩ := List.mem_iff_getElem?.mp ha
  have li := get_len hi
  have l2 : i < ns.length := by rw [← h.len]; exact li
  have nd := (h.at_ i _ _ (List.getElem?_eq_getElem l2) hi).1 rfl
  have hx := hn i
  rw [gz_lt l2] at hx
  have L := low_lowp ns[i] c0
  rw [nd]
  refine ⟨?_, Nat.le_trans L.lt hx⟩
  have e : (lowp ns[i] c).1.natAbs * c.natAbs = ns[i].natAbs * (lowp ns[i] c).2.natAbs := by rw [← Int.natAbs_mul, L.val, Int.natAbs_mul]
  have cp : Nat.Coprime (lowp ns[i] c).2.natAbs (lowp ns[i] c).1.natAbs := Nat.Coprime.symm L.cop
  have d : (lowp ns[i] c).2.natAbs ∣ c.natAbs := cp.dvd_of_dvd_mul_left ⟨ns[i].natAbs, by rw [e, Nat.mul_comm]⟩
  exact Int.natAbs_dvd_natAbs.mp (by rw [Int.natAbs_natCast]; exact d)
/-- the bounds of quotient and rest -/
def DivQG (p : Int) (Qs Rs : List (Int × Int)) (D D' b S : Nat) : Prop := p = 0 → ∃ T : Nat, 1 ≤ T ∧ T ≤ 2 ^ (b * S) * D ∧ (∀ a ∈ Qs, a.2 ∣ (T : Int) ∧ a.1.natAbs ≤ 2 ^ (S * (b + 2)) * D') ∧ (∀ a ∈ Rs, a.2 ∣ (T : Int) ∧ a.1.natAbs ≤ 2 ^ (b + S * (b + 2)))
/-- division of polynomials; D, D' are bottoms of the two, b the bits of their integers, S the greatest count of steps -/
structure DivG (p : Int) (prs prs' : List (Int × Int)) (D D' b S : Nat) : Prop where
  D1 : 1 ≤ D
  D9 : D < 2 ^ 900
  E1 : 1 ≤ D'
  E9 : D' < 2 ^ 900
  b14 : 14 ≤ b
  b6 : b ≤ 6000
  st : prs.length + 1 ≤ S + prs'.length
  bS : b + S * (b + 2) ≤ 7000
  pp : p ≠ 0 → b = 14 ∧ S ≤ 100
  bd : p = 0 → ∀ a ∈ prs, a.2 ∣ (D : Int) ∧ a.1.natAbs * D < 2 ^ b * a.2.natAbs
  bd' : p = 0 → ∀ a ∈ prs', a.2 ∣ (D' : Int) ∧ a.1.natAbs * D' < 2 ^ b * a.2.natAbs
def spDivdG (K : PySem.W.Frag) (C CP CF COF CNP : Addr) : Sp := fun vs H Q E => ∃ (a b : Addr) (p p' : Int) (prs prs' : List (Int × Int)), vs = [.ref a, .ref b] ∧ Pol C CP CF H a p prs ∧ Pol C CP CF H b p' prs' ∧ goodP p = true ∧
  (p ≠ p' → E (.ref COF) none H) ∧ (p = p' → prs' = [] → ∀ H', Same H H' → ∀ d, H' d = none → E (.ref CNP) (some d) (upd H' d (fldAt "place" (.int (-1))))) ∧
  (p = p' → prs' ≠ [] → trimP prs' = prs' ∧ prs.length ≤ 100 ∧ prs'.length ≤ 100 ∧ ∃ D D' b S : Nat, DivG p prs prs' D D' b S ∧
    ∀ q y z Qs Rs H', Same H H' → H' q = some (.tup [.ref y, .ref z]) → Pol C CP CF H' y p Qs → Pol C CP CF H' z p Rs → trimP Qs = Qs → trimP Rs = Rs → OkL p Qs → OkL p Rs → Rs.length < prs'.length → Qs.length ≤ S → DivQG p Qs Rs D D' b S → DivV p prs prs' Qs Rs → Q (.ref q) H')
section
variable {P : Program} {w : World} {K : PySem.W.Frag} {mg : Str → Option Value} {base : Heap}
theorem sc_divd : FnScope ["self", "other", "high", "scale", "low", "low_scale", "times", "row", "rest", "quotient", "each"] ["self", "other"] (defScope s_divd) := ⟨rfl, rfl, rfl, by decide +kernel, rfl, by decide +kernel, by decide +kernel⟩
set_option exponentiation.threshold 10000 in
theorem ok_divdG {f C CP CF COF CNP fNP fsame fwhole fdiv fpolyof : Addr} {fd fdNP fdsame fdwhole fddiv fdpolyof : FuncData} (F : Fun K "divided" "Poly.divided" s_divd f fd) (TP : PTx K CP) (TF : FTx K CF) (G_same : FnOk P w K mg base (L2.CX P w) 3 fsame fdsame ["one", "other"] (spSame K CF COF)) (m_same : mg "check_same_field" = some (.ref fsame)) (k_same : PySem.W.keepIn K (.ref fsame) = true) (b_same : Binds K fdsame ["one", "other"] [])
    (m_NP : mg "NoPoly" = some (.ref CNP)) (NP : NTxF K "place" CNP fNP) (G_NP : FnOk P w K mg base CX0 1 fNP fdNP ["self", "place"] (spFInit "place" CNP)) (b_NP : Binds K fdNP ["self", "place"] [])
    (G_whole : FnOk P w K mg base CX0 1 fwhole fdwhole ["field", "numbers"] (spWhole C CF)) (m_whole : mg "whole" = some (.ref fwhole)) (k_whole : PySem.W.keepIn K (.ref fwhole) = true) (b_whole : Binds K fdwhole ["field", "numbers"] []) (G_div : FnOk P w K mg base CX0 2 fdiv fddiv ["high", "low", "prime"] spDiv) (m_div : mg "division" = some (.ref fdiv)) (k_div : PySem.W.keepIn K (.ref fdiv) = true) (b_div : Binds K fddiv ["high", "low", "prime"] []) (G_polyof : FnOk P w K mg base CX0 11 fpolyof fdpolyof ["field", "row", "bottom"] (spPolyOf C CP CF)) (m_polyof : mg "poly_of" = some (.ref fpolyof)) (k_polyof : PySem.W.keepIn K (.ref fpolyof) = true) (b_polyof : Binds K fdpolyof ["field", "row", "bottom"] []) : FnOk P w K mg base (L2.CX P w) 13 f fd ["self", "other"] (spDivdG K C CP CF COF CNP) := by
  refine F.okX sc_divd (fun vs H Q E h => ?_) (fun cdv A outer s H vs Q E hr h => ?_)
  · obtain ⟨a, b, p, p', prs, prs', rfl, _⟩ := h
    rfl
  · obtain ⟨a, b, p, p', prs, prs', rfl, PA, PB, hg, kO, kN, kQ⟩ := h
    refine ⟨_, (pss_cons (ps_expr (pe_call (E := E) G_same (hr.mono (by decide)) rfl m_same k_same b_same .nil (passes_call (takes_of rfl rfl rfl rfl) fun _ _ _ _ h => h) (pa_cons (pv 0) (pa_cons (pv 1) pa_nil))))
      (pss_cons (ps_if (pt_cmpR op_lt (pe_fld (pv 1) rfl) pe_int (nomark _)) (pss_one (ps_raise rfl (takes_of rfl rfl rfl rfl) (pmk_oex NP.oex NP.iC NP.tI G_NP (hr.mono (by decide)) b_NP .nil pass0 rfl m_NP (pa_cons (pe_un un_neg pe_int) pa_nil)))) pss_nil)
      (pss_cons (ps_asg (pe_call G_whole (hr.mono (by decide)) rfl m_whole k_whole b_whole .nil pass0 (pa_cons (pe_fld (pv 0) rfl) (pa_cons (pe_fld (pv 0) rfl) pa_nil))) (pg_tup (by rfl) (pgs_cons (pg_name (i := 2) sc_divd.nd rfl (Or.inl rfl)) (pgs_cons (pg_name (i := 3) sc_divd.nd rfl (Or.inl rfl)) pgs_nil))))
      (pss_cons (ps_asg (pe_call G_whole (hr.mono (by decide)) rfl m_whole k_whole b_whole .nil pass0 (pa_cons (pe_fld (pv 0) rfl) (pa_cons (pe_fld (pv 1) rfl) pa_nil))) (pg_tup (by rfl) (pgs_cons (pg_name (i := 4) sc_divd.nd rfl (Or.inl rfl)) (pgs_cons (pg_name (i := 5) sc_divd.nd rfl (Or.inr rfl)) pgs_nil))))
      (pss_cons (ps_asg (pe_call G_div (hr.mono (by decide)) rfl m_div k_div b_div .nil pass0 (pa_cons (pv 2) (pa_cons (pv 4) (pa_cons (pe_fld (pe_fld (pv 0) rfl) rfl) pa_nil)))) (pg_tup (by rfl) (pgs_cons (pg_name (i := 6) sc_divd.nd rfl (Or.inl rfl)) (pgs_cons (pg_name (i := 7) sc_divd.nd rfl (Or.inl rfl)) (pgs_cons (pg_name (i := 8) sc_divd.nd rfl (Or.inl rfl)) pgs_nil)))))
      (pss_cons (ps_set (i := 9) sc_divd.nd rfl (Or.inl rfl) (pe_call G_polyof (hr.mono (by decide)) rfl m_polyof k_polyof b_polyof .nil pass0 (pa_cons (pe_fld (pv 0) rfl) (pa_cons (pe_lc (own := [("each", 10)]) (g := gName 10) (tt := tYes) rfl sc_divd.nd (pi_list (pv 7)) (blkOk_by (N := ["self", "other", "high", "scale", "low", "low_scale", "times", "row", "rest", "quotient", "each"]) (sc := defScope s_divd) (by decide +kernel)) (fun _ _ _ _ _ => pg_name (i := 10) sc_divd.nd rfl (Or.inl rfl)) (fun _ _ _ _ _ => pts_nil) (fun _ _ _ _ _ => (pe_op op_mulW (pv 10) (pv 5)))) (pa_cons (pe_op op_mulW (pv 6) (pv 3)) pa_nil)))))
      (pss_one (ps_ret (pe_tup (pa_cons (pv 9) (pa_cons (pe_call G_polyof (hr.mono (by decide)) rfl m_polyof k_polyof b_polyof .nil pass0 (pa_cons (pe_fld (pv 0) rfl) (pa_cons (pv 8) (pa_cons (pe_op op_mulW (pv 6) (pv 3)) pa_nil)))) pa_nil))))))))))), ?_⟩
    have e24 : (sizeLine : Nat) = 16777216 := sizeLine_eq
    refine ⟨_, rfl, _, rfl, a, b, p, p', rfl, PA.hasF TP, PB.hasF TP, kO, fun e => ?_⟩
    subst e
    obtain ⟨da, fa, ca, ya, AO⟩ := id PA
    obtain ⟨db, fb, cb, yb, BO⟩ := id PB
    have okA := PA.okl
    have okB := PB.okl
    refine ⟨_, rfl, b, CP, db, _, _, rfl, BO.ob, TP.cl, TP.nD, plf_deg _ _ _, _, _, rfl, rfl, _, rfl, ?_⟩
    by_cases c : prs' = []
    · refine itD (decide_eq_true (by rw [c]; decide)) ?_
      exact ⟨_, rfl, by decide, mkO_readF (kN rfl c H (Same.refl H))⟩
    have n0 : 0 < prs'.length := List.length_pos_iff.mpr c
    refine itDn (fun z => by have := of_decide_eq_true z; omega) ?_
    obtain ⟨tB, lA, lB, D, D', bb, S, G, kR⟩ := kQ rfl c
    obtain ⟨D1, D70, E1, E70, b14, bb6, hS, bS, pp, bd, bd'⟩ := G
    have la := AO.nu.len
    have lb := BO.nu.len
    have D5000 : D < 2 ^ 5000 := Nat.lt_of_lt_of_le D70 (Nat.pow_le_pow_right (by decide) (by decide))
    have E5000 : D' < 2 ^ 5000 := Nat.lt_of_lt_of_le E70 (Nat.pow_le_pow_right (by decide) (by decide))
    have top : ∀ (D : Nat), 1 ≤ D → ∀ x : Int × Int, x.2 ∣ (D : Int) → x.1.natAbs * D < 2 ^ bb * x.2.natAbs → x.1.natAbs < 2 ^ 6000 := fun D D1 x hd h => Nat.lt_of_lt_of_le (m := 2 ^ bb) (by
      have h2 : x.2.natAbs ≤ D := by
        have := Nat.le_of_dvd (by omega) (Int.natAbs_dvd_natAbs.mpr hd)
        omega
      have h3 : x.1.natAbs * D < 2 ^ bb * D := Nat.lt_of_lt_of_le h (Nat.mul_le_mul_left _ h2)
      exact Nat.lt_of_mul_lt_mul_right h3) (Nat.pow_le_pow_right (by decide) bb6)
    refine ⟨_, rfl, a, CP, da, _, _, rfl, AO.ob, TP.cl, TP.nF, plf_field _ _ _, _, rfl, a, CP, da, _, _, rfl, AO.ob, TP.cl, TP.nC, plf_coef _ _ _, fa, ca, p, ya, prs, D, rfl, AO.fl, hg, AO.co, AO.nu, by omega, D1, D5000, fun p0 x hx => ⟨(bd p0 x hx).1, top D D1 x (bd p0 x hx).1 (bd p0 x hx).2⟩, fun q1 l1 ns s1' H1 s1 hq1 hl1 W dvW => ?_⟩
    refine ⟨q1, _, rfl, SqT.of hq1, rfl, _, _, rfl, _, _, rfl, rfl, ?_⟩
    have AO1 := AO.same s1
    have BO1 := BO.same s1
    refine ⟨_, rfl, a, CP, da, _, _, rfl, AO1.ob, TP.cl, TP.nF, plf_field _ _ _, _, rfl, b, CP, db, _, _, rfl, BO1.ob, TP.cl, TP.nC, plf_coef _ _ _, fa, cb, p, yb, prs', D', rfl, AO1.fl, hg, BO1.co, BO1.nu, by omega, E1, E5000, fun p0 x hx => ⟨(bd' p0 x hx).1, top D' E1 x (bd' p0 x hx).1 (bd' p0 x hx).2⟩, fun q2 l2 ms s2' H2 s2 hq2 hl2 W' dvW' => ?_⟩
    refine ⟨q2, _, rfl, SqT.of hq2, rfl, _, _, rfl, _, _, rfl, rfl, ?_⟩
    have AO2 := AO1.same s2
    obtain ⟨dfa, hfa⟩ := id AO2.fl
    have hl12 := s2 _ _ hl1
    have lns := W.len
    have lms := W'.len
    have lead : gz ms (ms.length - 1) ≠ 0 := by
      obtain ⟨m, x, e, x0⟩ := trim_last (p := p) tB c
      have l1 : ms.length - 1 < ms.length := by omega
      have l2 : ms.length - 1 < prs'.length := by omega
      rw [gz_lt l1]
      have h := W'.at_ _ _ _ (List.getElem?_eq_getElem l1) (List.getElem?_eq_getElem l2)
      have ex : prs'[ms.length - 1] = x := by
        have : prs'[ms.length - 1]? = some x := by
          have : ms.length - 1 = m.length := by
            rw [lms, e]
            simp
          rw [this, e]
          simp
        rw [List.getElem?_eq_getElem l2] at this
        exact Option.some.inj this
      rw [ex] at h
      intro z
      rw [z, Int.zero_mul] at h
      have := W'.pos
      rcases Int.mul_eq_zero.mp h.symm with h | h
      · exact x0 h
      · omega
    have low : p ≠ 0 → ∀ k, 0 ≤ gz ms k ∧ gz ms k < p := fun p0 k => by
      have := prime_lt hg p0
      by_cases ck : k < ms.length
      · have c2 : k < prs'.length := by omega
        rw [gz_lt ck]
        have e := W'.at_ k _ _ (List.getElem?_eq_getElem ck) (List.getElem?_eq_getElem c2)
        obtain ⟨a2, a0, a1⟩ := (okB _ (List.getElem_mem c2)).2.2 p0
        rw [a2, W'.mod p0, Int.mul_one, Int.mul_one] at e
        omega
      · rw [gz_ge (by omega)]
        omega
    have pb : p.natAbs < 2 ^ bb := by
      by_cases h : p = 0
      · rw [h]
        exact Nat.pow_pos (by decide)
      · have := prime_lt hg h
        have h14 : (2 : Nat) ^ 14 = 16384 := by decide
        have : (2 : Nat) ^ 14 ≤ 2 ^ bb := Nat.pow_le_pow_right (by decide) b14
        omega
    have bn7 : bb * S ≤ 7000 := by
      have h2 : S * bb ≤ S * (bb + 2) := Nat.mul_le_mul_left _ (by omega)
      rw [Nat.mul_comm]
      omega
    have nb : S * (bb + 2) ≤ 30000 := by omega
    have S437 : S ≤ 437 := by
      have := Nat.mul_le_mul_left S (show 16 ≤ bb + 2 by omega)
      omega
    have pnn : 0 ≤ p := by
      by_cases h : p = 0
      · omega
      · have := prime_lt hg h
        omega
    refine ⟨_, rfl, _, rfl, _, rfl, a, CP, da, _, _, rfl, AO2.ob, TP.cl, TP.nF, plf_field _ _ _, fa, CF, dfa, _, _, rfl, hfa, TF.cl, TF.nP, pf_prime _, l1, l2, p, ns, ms, S, bb, rfl, hl12, hl2, pnn, by omega, by omega, by omega, by omega, lead, low, pb, wh_bd (prs' := prs') hg okA W dvW D1 b14 bd, wh_bd (prs' := prs) hg okB W' dvW' E1 b14 bd', bS, fun q3 t l3 l4 Nn g rest H3 s3 hq3 hl3 hl4 lr _ _ t0 tp Nle gz0 tb gb rb idt => ?_⟩
    refine ⟨q3, _, rfl, SqT.of hq3, rfl, _, _, rfl, _, _, rfl, _, _, rfl, rfl, ?_⟩
    have AO3 := AO2.same s3
    have sp := W.pos
    have sp' := W'.pos
    have tp : p ≠ 0 → ¬ p ∣ t := tp hg
    have sD : s1'.natAbs < 2 ^ 900 := by
      have := Int.le_of_dvd (by omega) dvW
      omega
    have sD' : s2'.natAbs < 2 ^ 900 := by
      have := Int.le_of_dvd (by omega) dvW'
      omega
    have t70 : t.natAbs ≤ 2 ^ 7000 := Nat.le_trans tb (Nat.pow_le_pow_right (by decide) bn7)
    have t71 : t.natAbs < 2 ^ 7001 := Nat.lt_of_le_of_lt t70 (Nat.pow_lt_pow_right (by decide) (by decide))
    have ts : (t * s1').natAbs < 2 ^ 8000 := Nat.lt_of_lt_of_le (wide_lt t71 sD) (Nat.pow_le_pow_right (by decide) (by decide))
    have bot : BotOk p (t * s1') := by
      refine ⟨fun p0 => ⟨Int.mul_ne_zero t0 (by omega), ts⟩, fun p0 => ?_⟩
      rw [W.mod p0, Int.mul_one]
      refine ⟨fun z => tp p0 (Int.dvd_of_emod_eq_zero z), ?_⟩
      rw [(pp p0).1] at tb
      have n14 : 14 * S ≤ 14 * 100 := Nat.mul_le_mul_left _ (pp p0).2
      exact Nat.lt_of_le_of_lt tb (Nat.pow_lt_pow_right (by decide) (by omega))
    refine ⟨_, rfl, a, CP, da, _, _, rfl, AO3.ob, TP.cl, TP.nF, plf_field _ _ _, _, rfl, l3, rfl, ⟨_, SqL.of hl3⟩, fun L hL => ?_⟩
    refine lc_list (xs := vts Nn g) (fun i H' => Same H3 H' ∧ H' L = some (.lst (vts i fun k => g k * s2'))) ?_ ?_ ?_ ?_
    · exact ⟨same_new (Same.refl _) hL, upd_same⟩
    · rintro i H' _ ⟨s4, _⟩
      exact SqL.of (s4 _ _ hl3)
    · rintro i v H4 hi ⟨s4, h4⟩
      have li := get_len hi
      rw [vts_len] at li
      rw [vts_at li] at hi
      have ev : v = V.int (g i) := (Option.some.inj hi).symm
      subst ev
      refine ⟨rfl, _, rfl, _, rfl, _, _, rfl, rfl, mulB (n := 30000) (m := 900) (Nat.lt_of_lt_of_le (gb i) (Nat.pow_le_pow_right (by decide) nb)) sD' (by decide), ?_⟩
      refine ⟨_, h4, by rw [vts_len]; omega, same_at s4 hL, ?_⟩
      rw [vts_succ]
      exact upd_same
    rintro H4 ⟨s4, h4⟩
    rw [vts_len] at h4
    have AO4 := AO3.same s4
    have hqs : vts Nn (fun k => g k * s2') = (((List.range Nn).map fun k => g k * s2').map V.int) := by
      unfold vts
      rw [List.map_map]
      rfl
    have gq : ∀ k, gz ((List.range Nn).map fun k => g k * s2') k = g k * s2' := fun k => by
      by_cases ck : k < Nn
      · rw [gz_lt (by simp; exact ck)]
        simp
      · rw [gz_ge (by simp; omega), gz0 k (by omega), Int.zero_mul]
    rw [hqs] at h4
    refine ⟨_, rfl, _, rfl, _, _, rfl, rfl, mulB (n := 7001) (m := 900) t71 sD (by decide), fa, L, p, t * s1', _, rfl, AO4.fl, hg, h4, by simp; omega, bot, fun p0 n hn => ?_, fun y Q0 H5 s5 nq okQ PQ => ?_⟩
    · obtain ⟨k, hk, rfl⟩ := List.mem_map.mp hn
      rw [W'.mod p0, Int.mul_one]
      exact Nat.lt_of_lt_of_le (gb k) (Nat.pow_le_pow_right (by decide) (Nat.le_trans nb (by decide)))
    have AO5 := AO4.same s5
    have h45 := (s4.trans s5) _ _ hl4
    refine ⟨_, rfl, _, rfl, a, CP, da, _, _, rfl, AO5.ob, TP.cl, TP.nF, plf_field _ _ _, _, rfl, _, rfl, _, rfl, _, _, rfl, rfl, mulB (n := 7001) (m := 900) t71 sD (by decide), fa, l4, p, t * s1', rest, rfl, AO5.fl, hg, h45, by omega, bot, fun p0 n hn => ?_, fun z R0 H6 s6 nr okR PR => ?_⟩
    · obtain ⟨i, hi⟩ := List.mem_iff_getElem?.mp hn
      have li := get_len hi
      have := rb i
      rw [gz_lt li] at this
      rw [List.getElem?_eq_getElem li] at hi
      rw [← Option.some.inj hi]
      exact Nat.lt_of_lt_of_le this (Nat.pow_le_pow_right (by decide) (by omega))
    refine ⟨(by show 2 ≤ sizeLine; decide), fun q hq => ?_⟩
    have s7 := same_new (o := .tup [.ref y, .ref z]) (Same.refl H6) hq
    have trl : ∀ l : List (Int × Int), (trimP l).length ≤ l.length := fun l => by
      unfold trimP
      rw [List.length_reverse]
      exact Nat.le_trans (List.Sublist.length_le (List.dropWhile_sublist _)) (by simp)
    have lr2 := nr.len
    have lq2 := nq.len
    rw [List.length_map, List.length_range] at lq2
    have tq := trl Q0
    have tr := trl R0
    refine kR q y z (trimP Q0) (trimP R0) _ ((((((s1.trans s2).trans s3).trans s4).trans s5).trans s6).trans s7) upd_same ((PQ.same s6).same s7) (PR.same s7) (trim_trim _) (trim_trim _) PQ.okl PR.okl (by omega) (by omega) (fun p0 => ?_) (div_v hg okA okB okQ okR W W' t0 tp idt gq nq nr)
    subst p0
    have sub : ∀ l : List (Int × Int), ∀ a ∈ trimP l, a ∈ l := fun l a h => by
      unfold trimP at h
      have h2 := (List.dropWhile_sublist _).subset (List.mem_reverse.mp h)
      exact List.mem_reverse.mp h2
    have c0 : t * s1' ≠ 0 := Int.mul_ne_zero t0 (by omega)
    have sD1 : s1'.natAbs ≤ D := by
      have := Int.le_of_dvd (by omega) dvW
      omega
    have sD2 : s2'.natAbs ≤ D' := by
      have := Int.le_of_dvd (by omega) dvW'
      omega
    refine ⟨(t * s1').natAbs, by omega, ?_, fun x hx => nd_bd nq c0 (fun k => ?_) x (sub _ _ hx), fun x hx => nd_bd nr c0 (fun k => Nat.le_of_lt (rb k)) x (sub _ _ hx)⟩
    · rw [Int.natAbs_mul]
      exact Nat.mul_le_mul tb sD1
    · rw [gq, Int.natAbs_mul]
      exact Nat.mul_le_mul (Nat.le_of_lt (gb k)) sD2
end
end Sq

namespace Sq
open PySem L2 PyProof.Rows
abbrev s_isop : Stmt := top 48
abbrev s_asp : Stmt := top 50
abbrev s_pmul : Stmt := inClass (top 53) 10
structure IPyP (K : PySem.W.Frag) (C CP : Addr) : Prop where
  ha : PySem.W.findIn K (.ref CP) "__class__" = some (some (.builtin "object.__class__"))
  hn : PySem.W.specialIn K (.builtin "object.__class__") "__get__" = some (some (.builtin "getset_descriptor.__get__"))
  htk : PySem.W.takesIn K (.builtin "object.__class__") = some true
  hm : PySem.W.mroIn K CP (.type "object") = some true
  ki : PySem.W.kitOne K (.type "int") (.ref CP) = some false
  kr : PySem.W.kitOne K (.ref C) (.ref CP) = some false
theorem num_goT {K : PySem.W.Frag} {C CF CNN x : Addr} {H : Hp} {p : Int} {v : V} {a : Int × Int} {Q : VK} {E : XK} {σ : L2.St} (hx : FldAt CF H x p) (hg : goodP p = true) (gv : Giv K C H p v (some a)) (k : ∀ y H', Same H H' → FN C H' p y a.1 a.2 → Q y H') :
    tNil σ H fun xs H2 => (fun vs H3 => spNum K C CF CNN (.ref x :: (vs ++ [])) H3 Q E) (v :: xs) H2 := num_go hx hg gv k
theorem num_goC {K : PySem.W.Frag} {C CF CNN x : Addr} {H : Hp} {p : Int} {v : V} {a : Int × Int} {Q : VK} {E : XK} {σ : L2.St} (hx : FldAt CF H x p) (hg : goodP p = true) (gv : Giv K C H p v (some a)) (k : ∀ y H', Same H H' → FN C H' p y a.1 a.2 → Q y H') :
    tCons (tC v) tNil σ H fun vs H2 => spNum K C CF CNN (.ref x :: (vs ++ [])) H2 Q E := num_go hx hg gv k
theorem num_noT {K : PySem.W.Frag} {C CF CNN x : Addr} {H : Hp} {p : Int} {v : V} {Q : VK} {E : XK} {σ : L2.St} (hx : FldAt CF H x p) (hg : goodP p = true) (gv : Giv K C H p v none) (k : E (.ref CNN) none H) :
    tNil σ H fun xs H2 => (fun vs H3 => spNum K C CF CNN (.ref x :: (vs ++ [])) H3 Q E) (v :: xs) H2 := num_no hx hg gv k
theorem num_not {K : PySem.W.Frag} {C CP : Addr} {H : Hp} {v : V} {t u : Int} (T : CTx K C) (Y : ITy K C) (YP : IPyP K C CP) (h : NumAt C H v t u) : NotC K H v CP := by
  rcases h with ⟨r, rfl, R⟩ | ⟨rfl, _⟩
  · exact ⟨_, R.ty T Y, YP.kr⟩
  · exact ⟨_, .base (.int _), YP.ki⟩
/-- what is multiplied with: a polynomial at its address, or a number -/
def OpdP (K : PySem.W.Frag) (C CP CF : Addr) (H : Hp) (p : Int) (v : V) (p' : Int) (prs : List (Int × Int)) : Prop := (∃ b, v = .ref b ∧ Pol C CP CF H b p' prs) ∨ (p' = p ∧ ∃ n, Giv K C H p v (some n) ∧ prs = trimP [n])
def spIsOp (K : PySem.W.Frag) (C CP : Addr) : Sp := fun vs H Q _ => ∃ v, vs = [v] ∧ ((∃ b dx fs, v = .ref b ∧ H b = some (.ins CP dx fs)) ∨ ∃ t u, NumAt C H v t u) ∧ Q (.bl true) H
def spAsP (K : PySem.W.Frag) (C CP CF : Addr) : Sp := fun vs H Q _ => ∃ (x : Addr) (v : V) (p p' : Int) (prs : List (Int × Int)), vs = [.ref x, v] ∧ FldAt CF H x p ∧ goodP p = true ∧ OpdP K C CP CF H p v p' prs ∧ ∀ y H', Same H H' → Pol C CP CF H' y p' prs → Q (.ref y) H'
/-- the bounds for a product -/
def MulB (p : Int) (prs prs' : List (Int × Int)) : Prop := prs.length ≤ 400 ∧ prs'.length ≤ 400 ∧ (prs ≠ [] ∨ prs' ≠ []) ∧ ∃ D D' : Nat, 1 ≤ D ∧ 1 ≤ D' ∧ D < 2 ^ 3900 ∧ D' < 2 ^ 3900 ∧ (p = 0 → ∀ a ∈ prs, a.2 ∣ (D : Int) ∧ a.1.natAbs < 2 ^ 5000) ∧ (p = 0 → ∀ a ∈ prs', a.2 ∣ (D' : Int) ∧ a.1.natAbs < 2 ^ 5000)
def MulV (p : Int) (prs prs' Qs : List (Int × Int)) : Prop := ∀ (R : Type) (_ : Lean.Grind.CommRing R) (v : Int × Int → R), Vp p R v → ∀ k, vg v Qs k = cvv (vg v prs) (vg v prs') k
def spPMul (K : PySem.W.Frag) (C CP CF COF : Addr) : Sp := fun vs H Q E => ∃ (a : Addr) (v : V) (p p' : Int) (prs prs' : List (Int × Int)), vs = [.ref a, v] ∧ Pol C CP CF H a p prs ∧ goodP p = true ∧ OpdP K C CP CF H p v p' prs' ∧
  (p ≠ p' → ∀ H', Same H H' → E (.ref COF) none H') ∧ (p = p' → MulB p prs prs' ∧ ∀ y Qs H', Same H H' → Pol C CP CF H' y p Qs → trimP Qs = Qs → OkL p Qs → Qs.length ≤ prs.length + prs'.length - 1 → MulV p prs prs' Qs → Q (.ref y) H')
theorem cv_sz (ns ms : List Int) (k : Nat) : ∀ i, cv ns ms k i = sz (fun j => if j ≤ k then gz ns j * gz ms (k - j) else 0) i
  | 0 => rfl
  | i + 1 => by
    show cv ns ms k i + _ = sz _ i + _
    rw [cv_sz ns ms k i]
    rfl
theorem sz_cut {f : Nat → Int} {m : Nat} : ∀ {n}, m ≤ n → (∀ j, m ≤ j → f j = 0) → sz f n = sz f m
  | 0, h, _ => by
    have : m = 0 := by omega
    rw [this]
  | n + 1, h, hz => by
    by_cases c : m = n + 1
    · rw [c]
    · show sz f n + f n = _
      rw [sz_cut (by omega) hz, hz n (by omega), Int.add_zero]
/-- the coefficient of a product of rows, as the sum that it is -/
theorem cv_pl (ns ms : List Int) (k : Nat) : cv ns ms k ns.length = sz (fun j => gz ns j * gz ms (k - j)) (k + 1) := by
  rw [cv_sz]
  have e : sz (fun j => gz ns j * gz ms (k - j)) (k + 1) = sz (fun j => if j ≤ k then gz ns j * gz ms (k - j) else 0) (k + 1) := sz_congr fun j hj => by rw [if_pos (by omega)]
  rw [e]
  by_cases c : ns.length ≤ k + 1
  · refine (sz_cut c fun j hj => ?_).symm
    rw [gz_ge hj, Int.zero_mul]
    split <;> rfl
  · exact sz_cut (by omega) fun j hj => by rw [if_neg (by omega)]
theorem mul_v {p : Int} (hg : goodP p = true) {prs prs' Q0 : List (Int × Int)} {ns ms qs : List Int} {s s' : Int} (ok : OkL p prs) (ok' : OkL p prs') (okQ : OkL p Q0) (W : WholeAt p prs ns s) (W' : WholeAt p prs' ms s') (hq : ∀ k, gz qs k = cv ns ms k ns.length) (nq : NDs p (s * s') qs Q0) : MulV p prs prs' (trimP Q0) := by
  intro R i v X k
  have sp := W.pos
  have sp' := W'.pos
  have b0 : s * s' ≠ 0 := Int.mul_ne_zero (by omega) (by omega)
  have tsn : (ic (s * s') : R) ≠ 0 := X.ne b0 fun p0 d => by
    rw [W.mod p0, W'.mod p0] at d
    have := prime_lt hg p0
    have := Int.le_of_dvd (by decide) d
    omega
  rw [(trimP_spec X _ Q0 rfl okQ).1]
  refine X.cancel ?_ tsn
  rw [nd_vg X b0 nq k, hq, cv_pl, sv_int]
  unfold cvv
  rw [Lean.Grind.CommRing.mul_comm _ (ic (s * s')), ← sv_mul]
  refine sv_congr fun j _ => ?_
  have b1 := wh_vg X hg ok W j
  have b2 := wh_vg X hg ok' W' (k - j)
  have ets : (ic (s * s') : R) = ic s * ic s' := ic_mul s s'
  rw [ic_mul, ← b1, ← b2, ets]
  grind
theorem wh_top {p : Int} (hg : goodP p = true) {prs : List (Int × Int)} {ns : List Int} {s : Int} {D : Nat} (ok : OkL p prs) (W : WholeAt p prs ns s) (dv : s ∣ (D : Int)) (D1 : 1 ≤ D) (D2 : D < 2 ^ 3900) (bd : p = 0 → ∀ a ∈ prs, a.2 ∣ (D : Int) ∧ a.1.natAbs < 2 ^ 5000) : ∀ n ∈ ns, n.natAbs < 2 ^ 8900 := fun n hn => by
  obtain ⟨k, hk⟩ := List.mem_iff_getElem?.mp hn
  have c2 := get_len hk
  have c : k < prs.length := by rw [← W.len]; exact c2
  have e := W.at_ k _ _ hk (List.getElem?_eq_getElem c)
  have oa := ok _ (List.getElem_mem c)
  have mem := List.getElem_mem c
  generalize prs[k] = a at *
  have sp := W.pos
  by_cases p0 : p = 0
  · obtain ⟨_, b2⟩ := bd p0 a mem
    have e2 : n.natAbs * a.2.natAbs = a.1.natAbs * s.natAbs := by rw [← Int.natAbs_mul, e, Int.natAbs_mul]
    have h1 : 1 ≤ a.2.natAbs := by have := oa.1; omega
    have h2 : s.natAbs ≤ D := by
      have := Int.le_of_dvd (by omega) dv
      omega
    have h3 : n.natAbs ≤ a.1.natAbs * s.natAbs := by
      calc n.natAbs = n.natAbs * 1 := (Nat.mul_one _).symm
        _ ≤ n.natAbs * a.2.natAbs := Nat.mul_le_mul_left _ h1
        _ = a.1.natAbs * s.natAbs := e2
    refine Nat.lt_of_le_of_lt h3 ?_
    have : a.1.natAbs * s.natAbs < 2 ^ 5000 * 2 ^ 3900 := by
      have hs : s.natAbs < 2 ^ 3900 := by omega
      have hp : 0 < (2 : Nat) ^ 3900 := Nat.pow_pos (by decide)
      exact Nat.lt_of_le_of_lt (Nat.mul_le_mul_left _ (Nat.le_of_lt hs)) (Nat.mul_lt_mul_of_pos_right b2 hp)
    rw [← Nat.pow_add] at this
    exact this
  · obtain ⟨a2, a0, a1⟩ := oa.2.2 p0
    rw [a2, W.mod p0, Int.mul_one, Int.mul_one] at e
    have := prime_lt hg p0
    have : (2 : Nat) ^ 14 = 16384 := by decide
    exact Nat.lt_of_lt_of_le (show n.natAbs < 2 ^ 14 by omega) (Nat.pow_le_pow_right (by decide) (by decide))
theorem cv_abs {b : Nat} {ns ms : List Int} (h1 : ∀ n ∈ ns, n.natAbs < 2 ^ b) (h2 : ∀ m ∈ ms, m.natAbs < 2 ^ b) (k : Nat) : ∀ i, (cv ns ms k i).natAbs ≤ i * 2 ^ (2 * b)
  | 0 => by simp [cv]
  | i + 1 => by
    show (cv ns ms k i + _).natAbs ≤ _
    have ih := cv_abs h1 h2 k i
    have z : ∀ {l : List Int} {j : Nat}, (∀ n ∈ l, n.natAbs < 2 ^ b) → (l.getD j 0).natAbs ≤ 2 ^ b := fun {l j} h => by
      by_cases c : j < l.length
      · rw [List.getD_eq_getElem?_getD, List.getElem?_eq_getElem c]
        exact Nat.le_of_lt (h _ (List.getElem_mem c))
      · rw [List.getD_eq_getElem?_getD, List.getElem?_eq_none (by omega)]
        exact Nat.zero_le _
    have pr : (if i ≤ k then ns.getD i 0 * ms.getD (k - i) 0 else 0).natAbs ≤ 2 ^ (2 * b) := by
      split
      · rw [Int.natAbs_mul, Nat.two_mul, Nat.pow_add]
        exact Nat.mul_le_mul (z h1) (z h2)
      · exact Nat.zero_le _
    rw [Nat.succ_mul]
    omega
section
variable {P : Program} {w : World} {K : PySem.W.Frag} {mg : Str → Option Value} {base : Heap}
theorem sc_isop : FnScope ["value"] ["value"] (defScope s_isop) := ⟨rfl, rfl, rfl, by decide +kernel, rfl, by decide +kernel, by decide +kernel⟩
theorem ok_isop {f C CP fisnum : Addr} {fd fdisnum : FuncData} (F : Fun K "_is_operand" "_is_operand" s_isop f fd) (I : ITx mg) (T : CTx K C) (Y : ITy K C) (Z : KZx K C) (TP : PTx K CP) (YP : IPyP K C CP) (m_P : mg "Poly" = some (.ref CP)) (G_isnum : FnOk P w K mg base CX0 2 fisnum fdisnum ["value"] (spIsNum K C)) (m_isnum : mg "is_number" = some (.ref fisnum)) (k_isnum : PySem.W.keepIn K (.ref fisnum) = true) (b_isnum : Binds K fdisnum ["value"] []) : FnOk P w K mg base CX0 3 f fd ["value"] (spIsOp K C CP) := by
  refine F.ok sc_isop (fun vs H Q E h => ?_) (fun cdv A outer s H vs Q E hr h => ?_)
  · obtain ⟨v, rfl, _⟩ := h
    rfl
  · obtain ⟨v, rfl, h, k⟩ := h
    refine ⟨_, (pss_one (ps_ret (pe_or (pe_callB call_isi (by rfl) I.b_isinstance (by decide +kernel) (pa_cons (pv 0) (pa_cons (pe_glob (v := .ref CP) rfl m_P rfl) pa_nil))) (pe_one (pe_call G_isnum (hr.mono (by decide)) rfl m_isnum k_isnum b_isnum .nil pass0 (pa_cons (pv 0) pa_nil)))))), ?_⟩
    rcases h with ⟨b, dx, fs, rfl, hb⟩ | ⟨t, u, h⟩
    · exact ⟨_, rfl, _, _, _, _, true, rfl, .own CP, .base (.ins hb TP.cl YP.ha YP.hn YP.htk YP.hm), kit_self, _, rfl, iteT k⟩
    · obtain ⟨ty, tyx, kt⟩ := num_not T Y YP h
      refine ⟨_, rfl, _, _, _, _, false, rfl, .own CP, tyx, kt, _, rfl, iteF ?_⟩
      rcases h with ⟨r, rfl, R⟩ | ⟨rfl, _⟩
      · refine ⟨_, rfl, _, _, true, rfl, R.ty T Y, kit_self, ?_, k⟩
        exact ⟨_, false, false, R.ty T Y, Y.kI, Y.kB, rfl⟩
      · exact ⟨_, rfl, _, _, false, rfl, .base (.int _), Z.kint, .int _, k⟩
theorem sc_asp : FnScope ["field", "operand"] ["field", "operand"] (defScope s_asp) := ⟨rfl, rfl, rfl, by decide +kernel, rfl, by decide +kernel, by decide +kernel⟩
theorem ok_asp {f C CP CF CRd CNN fpinit frd fnum : Addr} {fd fdpinit fdrd fdnum : FuncData} (F : Fun K "_as_poly" "_as_poly" s_asp f fd) (I : ITx mg) (T : CTx K C) (Y : ITy K C) (TP : PTx K CP) (TF : FTx K CF) (YP : IPyP K C CP) (MP : Mk K CP fpinit) (G_pinitR : FnOk P w K mg base CX0 4 fpinit fdpinit ["self", "field", "coefficients"] (spPInitR C CP CF CRd)) (b_pinit : Binds K fdpinit ["self", "field", "coefficients"] []) (m_P : mg "Poly" = some (.ref CP))
    (MRd : Mk K CRd frd) (G_rd : FnOk P w K mg base CX0 1 frd fdrd ["self", "row"] (spReady CRd K)) (b_rd : Binds K fdrd ["self", "row"] []) (m_Rd : mg "Ready" = some (.ref CRd)) (Me_num : Meth K CF "number" fnum) (G_num : FnOk P w K mg base (L2.CX P w) 8 fnum fdnum ["self", "value"] (spNum K C CF CNN)) (b_num : Binds K fdnum ["self", "value"] []) : FnOk P w K mg base CX0 9 f fd ["field", "operand"] (spAsP K C CP CF) := by
  refine F.ok sc_asp (fun vs H Q E h => ?_) (fun cdv A outer s H vs Q E hr h => ?_)
  · obtain ⟨x, v, p, p', prs, rfl, _⟩ := h
    rfl
  · obtain ⟨x, v, p, p', prs, rfl, hx, hg, op, k⟩ := h
    refine ⟨_, (pss_cons (ps_if (pt_val (pe_callB call_isi (by rfl) I.b_isinstance (by decide +kernel) (pa_cons (pv 1) (pa_cons (pe_glob (v := .ref CP) rfl m_P rfl) pa_nil)))) (pss_one (ps_ret (pv 1))) pss_nil)
      (pss_one (ps_ret (pe_make MP G_pinitR (hr.mono (by decide)) rfl m_P b_pinit .nil pass0 (pa_cons (pv 0) (pa_cons (pe_make MRd G_rd (hr.mono (by decide)) rfl m_Rd b_rd .nil pass0 (pa_cons (pe_lst (pa_cons (pe_meth (E := fun _ _ _ => False) (pv 0) TF.cl Me_num G_num (hr.mono (by decide)) b_num .nil passL (pa_cons (pv 1) pa_nil)) pa_nil)) pa_nil)) pa_nil)))))), ?_⟩
    rcases op with ⟨b, rfl, PB⟩ | ⟨rfl, n, gv, rfl⟩
    · obtain ⟨db, fb, cb, yb, BO⟩ := id PB
      exact ⟨_, rfl, _, _, _, _, true, rfl, .own CP, .base (.ins BO.ob TP.cl YP.ha YP.hn YP.htk YP.hm), kit_self, _, rfl, iteT ⟨_, rfl, k b H (Same.refl _) PB⟩⟩
    · obtain ⟨t, u, nu, _⟩ := id gv
      obtain ⟨ty, tyx, kt⟩ := num_not T Y YP nu
      refine ⟨_, rfl, _, _, _, _, false, rfl, .own CP, tyx, kt, _, rfl, iteF ?_⟩
      obtain ⟨df, hf⟩ := id hx
      refine ⟨_, rfl, _, rfl, x, df, _, rfl, hf, pf_no _ (by decide +kernel), _, rfl, num_goT hx hg gv fun y0 H1 s1 f1 => ?_⟩
      refine ⟨(by show 1 ≤ sizeLine; decide), fun l hl => ?_⟩
      have sl := same_new (o := .lst [y0]) (Same.refl H1) hl
      have hl1 : upd H1 l (.lst [y0]) l = some (.lst [y0]) := upd_same
      generalize upd H1 l (.lst [y0]) = H2 at *
      have fn : FNs C H2 p' [y0] [n] := FNs.nil.snoc (f1.same sl)
      refine fun r dr nr ndr ner => mkR_go (.inl hl1) nr ndr ner fun H3 s3 rd => ⟨rfl, fun y dy ny ndy ney => ?_⟩
      exact mkPR_go (hx.same ((s1.trans sl).trans s3)) hg rd (fn.same s3) (by simp) ny ndy ney fun H4 s4 po => ⟨rfl, k y H4 (((s1.trans sl).trans s3).trans s4) po⟩
theorem sc_pmul : FnScope ["self", "other", "right", "row", "scale", "right_row", "right_scale"] ["self", "other"] (defScope s_pmul) := ⟨rfl, rfl, rfl, by decide +kernel, rfl, by decide +kernel, by decide +kernel⟩
set_option exponentiation.threshold 10000 in
theorem ok_pmul {f C CP CF COF fisop fasp fsame fwhole fmult fpolyof : Addr} {fd fdisop fdasp fdsame fdwhole fdmult fdpolyof : FuncData} (F : Fun K "__mul__" "Poly.__mul__" s_pmul f fd) (TP : PTx K CP) (G_isop : FnOk P w K mg base CX0 3 fisop fdisop ["value"] (spIsOp K C CP)) (m_isop : mg "is_operand_polys" = some (.ref fisop)) (k_isop : PySem.W.keepIn K (.ref fisop) = true) (b_isop : Binds K fdisop ["value"] [])
    (G_asp : FnOk P w K mg base CX0 9 fasp fdasp ["field", "operand"] (spAsP K C CP CF)) (m_asp : mg "_as_poly" = some (.ref fasp)) (k_asp : PySem.W.keepIn K (.ref fasp) = true) (b_asp : Binds K fdasp ["field", "operand"] []) (G_same : FnOk P w K mg base (L2.CX P w) 3 fsame fdsame ["one", "other"] (spSame K CF COF)) (m_same : mg "check_same_field" = some (.ref fsame)) (k_same : PySem.W.keepIn K (.ref fsame) = true) (b_same : Binds K fdsame ["one", "other"] [])
    (G_whole : FnOk P w K mg base CX0 1 fwhole fdwhole ["field", "numbers"] (spWhole C CF)) (m_whole : mg "whole" = some (.ref fwhole)) (k_whole : PySem.W.keepIn K (.ref fwhole) = true) (b_whole : Binds K fdwhole ["field", "numbers"] []) (G_mult : FnOk P w K mg base CX0 1 fmult fdmult ["ones", "others"] spMult) (m_mult : mg "multiplied" = some (.ref fmult)) (k_mult : PySem.W.keepIn K (.ref fmult) = true) (b_mult : Binds K fdmult ["ones", "others"] []) (G_polyof : FnOk P w K mg base CX0 11 fpolyof fdpolyof ["field", "row", "bottom"] (spPolyOf C CP CF)) (m_polyof : mg "poly_of" = some (.ref fpolyof)) (k_polyof : PySem.W.keepIn K (.ref fpolyof) = true) (b_polyof : Binds K fdpolyof ["field", "row", "bottom"] []) : FnOk P w K mg base (L2.CX P w) 13 f fd ["self", "other"] (spPMul K C CP CF COF) := by
  refine F.okX sc_pmul (fun vs H Q E h => ?_) (fun cdv A outer s H vs Q E hr h => ?_)
  · obtain ⟨a, v, p, p', prs, prs', rfl, _⟩ := h
    rfl
  · obtain ⟨a, v, p, p', prs, prs', rfl, PA, hg, op, kO, kQ⟩ := h
    refine ⟨_, (pss_cons (ps_if (pt_not (pt_val (pe_call G_isop (hr.mono (by decide)) rfl m_isop k_isop b_isop .nil pass0 (pa_cons (pv 1) pa_nil)))) (pss_one ps_never) pss_nil)
      (pss_cons (ps_set (i := 2) sc_pmul.nd rfl (Or.inl rfl) (pe_call G_asp (hr.mono (by decide)) rfl m_asp k_asp b_asp .nil pass0 (pa_cons (pe_fld (pv 0) rfl) (pa_cons (pv 1) pa_nil))))
      (pss_cons (ps_expr (pe_call (E := E) G_same (hr.mono (by decide)) rfl m_same k_same b_same .nil (passes_call (takes_of rfl rfl rfl rfl) fun _ _ _ _ h => h) (pa_cons (pv 0) (pa_cons (pv 2) pa_nil))))
      (pss_cons (ps_asg (pe_call G_whole (hr.mono (by decide)) rfl m_whole k_whole b_whole .nil pass0 (pa_cons (pe_fld (pv 0) rfl) (pa_cons (pe_fld (pv 0) rfl) pa_nil))) (pg_tup (by rfl) (pgs_cons (pg_name (i := 3) sc_pmul.nd rfl (Or.inl rfl)) (pgs_cons (pg_name (i := 4) sc_pmul.nd rfl (Or.inl rfl)) pgs_nil))))
      (pss_cons (ps_asg (pe_call G_whole (hr.mono (by decide)) rfl m_whole k_whole b_whole .nil pass0 (pa_cons (pe_fld (pv 0) rfl) (pa_cons (pe_fld (pv 2) rfl) pa_nil))) (pg_tup (by rfl) (pgs_cons (pg_name (i := 5) sc_pmul.nd rfl (Or.inl rfl)) (pgs_cons (pg_name (i := 6) sc_pmul.nd rfl (Or.inl rfl)) pgs_nil))))
      (pss_one (ps_ret (pe_call G_polyof (hr.mono (by decide)) rfl m_polyof k_polyof b_polyof .nil pass0 (pa_cons (pe_fld (pv 0) rfl) (pa_cons (pe_call G_mult (hr.mono (by decide)) rfl m_mult k_mult b_mult .nil pass0 (pa_cons (pv 3) (pa_cons (pv 5) pa_nil))) (pa_cons (pe_op op_mulW (pv 4) (pv 6)) pa_nil))))))))))), ?_⟩
    have e24 : (sizeLine : Nat) = 16777216 := sizeLine_eq
    obtain ⟨da, fa, ca, ya, AO⟩ := id PA
    have isop : (∃ b dx fs, v = .ref b ∧ H b = some (.ins CP dx fs)) ∨ ∃ t u, NumAt C H v t u := by
      rcases op with ⟨b, e, db, fb, cb, yb, BO⟩ | ⟨_, n, ⟨t, u, nu, _⟩, _⟩
      · exact .inl ⟨b, _, _, e, BO.ob⟩
      · exact .inr ⟨t, u, nu⟩
    refine ⟨_, rfl, v, rfl, isop, _, rfl, iteF ?_⟩
    refine ⟨_, rfl, a, CP, da, _, _, rfl, AO.ob, TP.cl, TP.nF, plf_field _ _ _, _, rfl, fa, v, p, p', prs', rfl, AO.fl, hg, op, fun b H1 s1 PB => ?_⟩
    have PA1 := PA.same s1
    refine ⟨_, rfl, _, rfl, a, b, p, p', rfl, PA1.hasF TP, PB.hasF TP, fun ne => kO ne H1 s1, fun e => ?_⟩
    subst e
    obtain ⟨⟨lA, lB, ne, D, D', D1, D1', D2, D2', bd, bd'⟩, kR⟩ := kQ rfl
    have AO1 := AO.same s1
    obtain ⟨db, fb, cb, yb, BO⟩ := id PB
    have okA := PA.okl
    have okB := PB.okl
    have la := AO.nu.len
    have lb := BO.nu.len
    have up : ∀ x : Nat, x < 2 ^ 3900 → x < 2 ^ 5000 := fun x h => Nat.lt_of_lt_of_le h (Nat.pow_le_pow_right (by decide) (by decide))
    have up6 : ∀ x : Nat, x < 2 ^ 5000 → x < 2 ^ 6000 := fun x h => Nat.lt_of_lt_of_le h (Nat.pow_le_pow_right (by decide) (by decide))
    refine ⟨_, rfl, a, CP, da, _, _, rfl, AO1.ob, TP.cl, TP.nF, plf_field _ _ _, _, rfl, a, CP, da, _, _, rfl, AO1.ob, TP.cl, TP.nC, plf_coef _ _ _, fa, ca, p, ya, prs, D, rfl, AO1.fl, hg, AO1.co, AO1.nu, by omega, D1, up _ D2, fun p0 x hx => ⟨(bd p0 x hx).1, up6 _ (bd p0 x hx).2⟩, fun q1 l1 ns s1' H2 s2 hq1 hl1 W dvW => ?_⟩
    refine ⟨q1, _, rfl, SqT.of hq1, rfl, _, _, rfl, _, _, rfl, rfl, ?_⟩
    have AO2 := AO1.same s2
    have BO2 := BO.same s2
    refine ⟨_, rfl, a, CP, da, _, _, rfl, AO2.ob, TP.cl, TP.nF, plf_field _ _ _, _, rfl, b, CP, db, _, _, rfl, BO2.ob, TP.cl, TP.nC, plf_coef _ _ _, fa, cb, p, yb, prs', D', rfl, AO2.fl, hg, BO2.co, BO2.nu, by omega, D1', up _ D2', fun p0 x hx => ⟨(bd' p0 x hx).1, up6 _ (bd' p0 x hx).2⟩, fun q2 l2 ms s2' H3 s3 hq2 hl2 W' dvW' => ?_⟩
    refine ⟨q2, _, rfl, SqT.of hq2, rfl, _, _, rfl, _, _, rfl, rfl, ?_⟩
    have AO3 := AO2.same s3
    have hl13 := s3 _ _ hl1
    have lns := W.len
    have lms := W'.len
    have n1 : 1 ≤ ns.length + ms.length := by
      rcases ne with h | h
      · have := List.length_pos_iff.mpr h
        omega
      · have := List.length_pos_iff.mpr h
        omega
    have tn := wh_top hg okA W dvW D1 D2 bd
    have tm := wh_top hg okB W' dvW' D1' D2' bd'
    refine ⟨_, rfl, a, CP, da, _, _, rfl, AO3.ob, TP.cl, TP.nF, plf_field _ _ _, _, rfl, _, rfl, l1, l2, ns, ms, rfl, hl13, hl2, n1, by omega, fun n hn => Nat.lt_of_lt_of_le (tn n hn) (Nat.pow_le_pow_right (by decide) (by decide)), fun n hn => Nat.lt_of_lt_of_le (tm n hn) (Nat.pow_le_pow_right (by decide) (by decide)), fun l3 H4 s4 hl3 => ?_⟩
    have AO4 := AO3.same s4
    have sp := W.pos
    have sp' := W'.pos
    have sD : s1'.natAbs < 2 ^ 3900 := by
      have := Int.le_of_dvd (by omega) dvW
      omega
    have sD' : s2'.natAbs < 2 ^ 3900 := by
      have := Int.le_of_dvd (by omega) dvW'
      omega
    have ts : (s1' * s2').natAbs < 2 ^ 8000 := Nat.lt_of_lt_of_le (wide_lt sD sD') (Nat.pow_le_pow_right (by decide) (by decide))
    have bot : BotOk p (s1' * s2') := by
      refine ⟨fun p0 => ⟨Int.mul_ne_zero (by omega) (by omega), ts⟩, fun p0 => ?_⟩
      rw [W.mod p0, W'.mod p0]
      have := prime_lt hg p0
      exact ⟨by rw [Int.mul_one, Int.emod_eq_of_lt (by decide) (by omega)]; decide, fit_one⟩
    have hqs : vts (ns.length + ms.length - 1) (fun k => cv ns ms k ns.length) = (((List.range (ns.length + ms.length - 1)).map fun k => cv ns ms k ns.length).map V.int) := by
      unfold vts
      rw [List.map_map]
      rfl
    have gq : ∀ k, gz ((List.range (ns.length + ms.length - 1)).map fun k => cv ns ms k ns.length) k = cv ns ms k ns.length := fun k => by
      by_cases ck : k < ns.length + ms.length - 1
      · rw [gz_lt (by simp; exact ck)]
        simp
      · rw [gz_ge (by simp; omega), cv_pl]
        refine (sz_zero fun j hj => ?_).symm
        by_cases cj : j < ns.length
        · rw [gz_ge (l := ms) (by omega), Int.mul_zero]
        · rw [gz_ge (l := ns) (by omega), Int.zero_mul]
    rw [hqs] at hl3
    refine ⟨_, rfl, _, rfl, _, _, rfl, rfl, mulB (n := 3900) (m := 3900) sD sD' (by decide), fa, l3, p, s1' * s2', _, rfl, AO4.fl, hg, hl3, by simp; omega, bot, fun p0 n hn => ?_, fun y Q0 H5 s5 nq okQ PQ => ?_⟩
    · obtain ⟨k, hk, rfl⟩ := List.mem_map.mp hn
      have h1 := cv_abs tn tm k ns.length
      have h10 : (2 : Nat) ^ 10 = 1024 := by decide
      have h2 : ns.length * 2 ^ (2 * 8900) ≤ 2 ^ 10 * 2 ^ (2 * 8900) := Nat.mul_le_mul_right _ (by omega)
      rw [← Nat.pow_add] at h2
      exact Nat.lt_of_le_of_lt (Nat.le_trans h1 h2) (Nat.pow_lt_pow_right (by decide) (by decide))
    have lq := nq.len
    rw [List.length_map, List.length_range] at lq
    have trl : (trimP Q0).length ≤ Q0.length := by
      unfold trimP
      rw [List.length_reverse]
      exact Nat.le_trans (List.Sublist.length_le (List.dropWhile_sublist _)) (by simp)
    exact kR y (trimP Q0) H5 ((((s1.trans s2).trans s3).trans s4).trans s5) PQ (trim_trim _) PQ.okl (by omega) (mul_v hg okA okB okQ W W' gq nq)
end
end Sq

namespace Sq
open PySem L2 PyProof.Rows PySem.Spec
abbrev s_pfdiv : Stmt := inClass (top 53) 14
abbrev s_monic : Stmt := inClass (top 53) 16
/-! ### own operators: in a try's body; with another own class on the right -/
def tOp2S (C : Addr) (sp : Sp) (W : L2.St → XK) (ta tb : TE) : TE := fun σ H Q => tOp (rOwn2 C sp (W σ)) ta tb σ H Q
section
variable {X : Cx} {CX : CXT} {k : Nat} {C D f : Addr} {fd : FuncData} {ps : List Str} {sp : Sp} {W : L2.St → XK} {E : XK} {a b : Expr} {ta tb : TE} {pos : Pos} {op : Operator}
theorem pe_op2S (hc : PySem.W.selfFirst X.K C = true) (O : OwnOp X.K C f (PySem.dunder op.info.2)) (G : FnOk X.prog X.w X.K X.mg X.base CX k f fd ps sp) (hr : Room k X.A) (hb : Binds X.K fd ps []) (ok : ∀ σ, PassesAt CX X σ (W σ)) (ha : PE X a ta) (hb2 : PE X b tb) : PE X (.BinOp a op b pos) (tOp2S C sp W ta tb) := by
  refine ⟨fun pins s σ H Q I h => ?_⟩
  refine wpAny_BinOp (binT (R := fun x y H2 => rOwn2 C sp (W σ) x y H2 Q) ha hb2 I h fun v u s2 x y H2 I2 rx ry q => ?_)
  obtain ⟨a, b, dx, dy, fs, gs, rfl, rfl, ha, hb', hsp⟩ := q
  cases rx
  cases ry
  obtain ⟨od, J⟩ := inst_at I2 ha
  obtain ⟨od', J'⟩ := inst_at I2 hb'
  obtain ⟨m, hF⟩ := I2.fr
  refine PySem.W.binop_K hF I2.ok.mod.kin J J'.type hc O.at_ O.fn ?_
  exact wpAny_mono (run_fnS (us := [.ref a, .ref b]) (vs := [.ref a, .ref b]) G hr hb (ok σ) I2 (.cons rfl (.cons rfl .nil)) hsp) (fun _ _ h => cmpBack_of h) fun _ _ z => z
structure OthOp (K : PySem.W.Frag) (C D : Addr) (nm : String) : Prop where
  sfD : PySem.W.selfFirst K D = true
  oD : ∃ g, OwnOp K D g (PySem.dunder nm)
  hsub : PySem.W.subIn K (.ref D) (.ref C) = some false
  hr : ∃ g : Addr, PySem.W.findIn K (.ref C) (dunderR nm) = some (some (.ref g))
  hrD : ∃ g : Addr, PySem.W.findIn K (.ref D) (dunderR nm) = some (some (.ref g))
  ne : C ≠ D
def rOwnO (C D : Addr) (sp : Sp) (E : XK) : R2 := fun x y H Q => ∃ a b dx dy fs gs, x = .ref a ∧ y = .ref b ∧ H a = some (.ins C dx fs) ∧ H b = some (.ins D dy gs) ∧ sp [x, y] H Q E
theorem bin1_oth {M : Model} {A : Around} {Ee : Value → Shared → Prop} {s : Shared} {K : PySem.W.Frag} {a b : Addr} {ox oy : Obj} {od od' : Option Obj} {nm : String} {Q : Option Value → Shared → Prop} (Y : K.In s.heap) (I : PySem.W.InstAt s.heap a ox C od) (J : PySem.W.InstAt s.heap b oy D od')
    (hc : PySem.W.selfFirst K C = true) (O : OwnOp K C f (PySem.dunder nm)) (N : OthOp K C D nm) (h : wpAny M A (call (.ref f) [.ref a, .ref b]) (PySem.W.CmpBack fun v s' => Q (some v) s') Ee s) : wpAny M A (binaryOp1 nm (.ref a) (.ref b)) Q Ee s := by
  obtain ⟨cd, rest, hcd, hm⟩ := PySem.W.ksp_first hc
  obtain ⟨cd2, rest2, hcd2, hm2⟩ := PySem.W.ksp_first N.sfD
  obtain ⟨g, oD⟩ := N.oD
  obtain ⟨g3, h3⟩ := N.hr
  obtain ⟨g4, h4⟩ := N.hrD
  have L1 : PySem.W.Looks M s.heap (typeOf (.ref a)) (.ref C) := I.type
  have Lb : PySem.W.Looks M s.heap (typeOf (.ref b)) (.ref D) := J.type
  have L2 : PySem.W.Looks M s.heap (fillsNumberSlot (.ref C) nm) true := PySem.W.fills_K Y hcd hm O.at_
  have L3 : PySem.W.Looks M s.heap (fillsNumberSlot (.ref D) nm) true := PySem.W.fills_K Y hcd2 hm2 oD.at_
  have L4 : PySem.W.Looks M s.heap (isSubtype (.ref D) (.ref C)) false := PySem.W.looks_subIn Y N.hsub
  have L5 : PySem.W.Looks M s.heap (numberSlotInPython (.ref C) nm) true := PySem.W.ksp_inPy Y O.at_ h3 (.inr ⟨g3, rfl⟩)
  have L6 : PySem.W.Looks M s.heap (numberSlotInPython (.ref D) nm) true := PySem.W.ksp_inPy Y oD.at_ h4 (.inr ⟨g4, rfl⟩)
  have one : wpAny M A (tryMethod (.ref a) (PySem.dunder nm) (.ref b)) (fun r s' => ∃ v, r = some v ∧ Q (some v) s') Ee s := PySem.W.ksp_try Y I O.at_ O.fn h
  have ne : (Value.ref C == Value.ref D) = false := Bool.eq_false_iff.mpr fun q => by
    have := beq_iff_eq.mp q
    injection this with e
    exact N.ne e
  simp only [binaryOp1]
  refine wpAny_bind (L1.here (wpAny_bind (Lb.here (wpAny_bind (L2.here ?_)))))
  simp only [ne, Bool.false_eq_true, if_false]
  refine wpAny_bind (L3.here ?_)
  simp only [Bool.and_self, if_true]
  refine wpAny_bind (L4.here ?_)
  simp only [Bool.false_eq_true, if_false, pure_bind, Bool.not_false, Bool.and_self, if_true]
  refine wpAny_bind (L5.here ?_)
  simp only [if_true]
  refine wpAny_bind (L6.here ?_)
  simp only [Bool.not_true, Bool.false_eq_true, if_false, pure_bind]
  exact wpAny_bind (wpAny_mono one (fun r s' hr => by obtain ⟨v, rfl, q⟩ := hr; exact wpAny_pure q) fun _ _ z => z)
theorem op_ownO (hc : PySem.W.selfFirst X.K C = true) (O : OwnOp X.K C f (PySem.dunder op.info.2)) (N : OthOp X.K C D op.info.2) (G : FnOk X.prog X.w X.K X.mg X.base CX k f fd ps sp) (hr : Room k X.A) (hb : Binds X.K fd ps []) (hx : Passes CX X E) :
    OpR X (binaryOp op) (rOwnO C D sp E) := by
  rintro pins s σ H x y v u Q I rx ry ⟨a, b, dx, dy, fs, gs, rfl, rfl, ha, hb', hsp⟩
  cases rx
  cases ry
  obtain ⟨od, J⟩ := inst_at I ha
  obtain ⟨od', J'⟩ := inst_at I hb'
  exact bin_of1 (bin1_oth I.kIn J J' hc O N (wpAny_mono (run_fn (us := [.ref a, .ref b]) (vs := [.ref a, .ref b]) G hr hb .nil hx I (.cons rfl (.cons rfl .nil)) hsp) (fun _ _ h => back_some h) fun _ _ z => z))
end
theorem trim1 (a : Int × Int) : trimP [a] = [] ∨ trimP [a] = [a] := by
  unfold trimP
  by_cases c : (a.1 == 0) = true
  · left
    simp [c]
  · right
    simp [c]
theorem mon_v {p : Int} (hg : goodP p = true) {prs Qs : List (Int × Int)} {l inv : Int × Int} (okp : OkL p prs) (ol : OkP p l) (l0 : l.1 ≠ 0) (nd : ND p l.2 l.1 inv) (oi : OkP p inv) (mv : MulV p prs (trimP [inv]) Qs) : ∀ (R : Type) (_ : Lean.Grind.CommRing R) (v : Int × Int → R), Vp p R v → ∀ k, vg v Qs k * v l = vg v prs k := fun R iR v X k => by
  obtain ⟨e, _⟩ := trimP_spec X 1 [inv] rfl (fun a h => by simp at h; subst h; exact oi)
  have e0 : vg v (trimP [inv]) 0 = v inv := by rw [e]; rfl
  have e1 : ∀ j, j ≠ 0 → vg v (trimP [inv]) j = 0 := fun j hj => by
    rw [e]
    exact vg_ge X (by simp; omega)
  have a := X.nd nd l0
  have b := X.mul ol
  have n2 : (ic l.2 : R) ≠ 0 := ne_one X hg ol.1 fun p0 => (ol.2.2 p0).1
  have one : v inv * v l = 1 := by
    refine X.cancel (c := ic l.2) ?_ n2
    rw [Lean.Grind.Semiring.one_mul, ← a, ← b]
    grind
  rw [mv R iR v X k]
  unfold cvv
  rw [sv_one (m := k) (by omega) (fun j h1 h2 => by rw [e1 (k - j) (by omega)]; grind), Nat.sub_self, e0]
  calc vg v prs k * v inv * v l = vg v prs k * (v inv * v l) := by grind
    _ = vg v prs k := by rw [one]; grind
/-- one of the two that division gives -/
def spPickG (K : PySem.W.Frag) (C CP CF COF CNP : Addr) (i : Nat) : Sp := fun vs H Q E => spDivdG K C CP CF COF CNP vs H (fun v H' => ∀ q y z, v = .ref q → H' q = some (.tup [.ref y, .ref z]) → Q (.ref (if i = 0 then y else z)) H') E
def spMonic (C CP CF : Addr) : Sp := fun vs H Q _ => ∃ (a : Addr) (p : Int) (prs : List (Int × Int)), vs = [.ref a] ∧ Pol C CP CF H a p prs ∧ goodP p = true ∧ (prs = [] → ∀ y H', Same H H' → Pol C CP CF H' y p [] → Q (.ref y) H') ∧
  (∀ m l, prs = m ++ [l] → l.1 ≠ 0 ∧ Fit l.1 ∧ Fit l.2 ∧ prs.length ≤ 300 ∧ (∃ D : Nat, 1 ≤ D ∧ D < 2 ^ 3900 ∧ (p = 0 → ∀ a ∈ prs, a.2 ∣ (D : Int) ∧ a.1.natAbs < 2 ^ 5000)) ∧
    ∀ y Qs H', Same H H' → Pol C CP CF H' y p Qs → trimP Qs = Qs → OkL p Qs → Qs.length ≤ prs.length → (∀ (R : Type) (_ : Lean.Grind.CommRing R) (v : Int × Int → R), Vp p R v → ∀ k, vg v Qs k * v l = vg v prs k) → Q (.ref y) H')
section
variable {P : Program} {w : World} {K : PySem.W.Frag} {mg : Str → Option Value} {base : Heap}
theorem sc_pfdiv : FnScope ["self", "other"] ["self", "other"] (defScope s_pfdiv) := ⟨rfl, rfl, rfl, by decide +kernel, rfl, by decide +kernel, by decide +kernel⟩
theorem ok_pfdivG {f C CP CF COF CNP fdivd : Addr} {fd fddivd : FuncData} (F : Fun K "__floordiv__" "Poly.__floordiv__" s_pfdiv f fd) (I : ITx mg) (TP : PTx K CP) (YP : IPyP K C CP) (m_P : mg "Poly" = some (.ref CP)) (Me_divd : Meth K CP "divided" fdivd) (G_divd : FnOk P w K mg base (L2.CX P w) 13 fdivd fddivd ["self", "other"] (spDivdG K C CP CF COF CNP)) (b_divd : Binds K fddivd ["self", "other"] []) : FnOk P w K mg base (L2.CX P w) 14 f fd ["self", "other"] (spPickG K C CP CF COF CNP 0) := by
  refine F.okX sc_pfdiv (fun vs H Q E h => ?_) (fun cdv A outer s H vs Q E hr h => ?_)
  · obtain ⟨a, b, p, p', prs, prs', rfl, _⟩ := h
    rfl
  · obtain ⟨a, b, p, p', prs, prs', rfl, PA, PB, hg, kO, kN, kQ⟩ := h
    refine ⟨_, (pss_cons (ps_if (pt_not (pt_val (pe_callB call_isi (by rfl) I.b_isinstance (by decide +kernel) (pa_cons (pv 1) (pa_cons (pe_glob (v := .ref CP) rfl m_P rfl) pa_nil))))) (pss_one ps_never) pss_nil)
      (pss_one (ps_ret (pe_ix ix_tup (pe_meth (E := E) (pv 0) TP.cl Me_divd G_divd (hr.mono (by decide)) b_divd .nil (passes_call (takes_of rfl rfl rfl rfl) fun _ _ _ _ h => h) (pa_cons (pv 1) pa_nil)) pe_int (fun _ _ => rfl))))), ?_⟩
    obtain ⟨db, fb, cb, yb, BO⟩ := id PB
    obtain ⟨da, fa, ca, ya, AO⟩ := id PA
    refine ⟨_, rfl, _, _, _, _, true, rfl, .own CP, .base (.ins BO.ob TP.cl YP.ha YP.hn YP.htk YP.hm), kit_self, _, rfl, iteF ?_⟩
    refine ⟨_, rfl, a, da, _, rfl, AO.ob, plf_no _ _ _ (by decide +kernel) (by decide +kernel) (by decide +kernel), _, rfl, a, b, p, p', prs, prs', rfl, PA, PB, hg, kO, kN, fun e n => ?_⟩
    obtain ⟨t, l1, l2, D, D', bb, S, G, k⟩ := kQ e n
    exact ⟨t, l1, l2, D, D', bb, S, G, fun q y z Qs Rs H' s hq h1 h2 h3 h4 h5 h6 h7 h8 h9 h10 => ⟨q, _, _, _, rfl, rfl, SqT.of hq, rfl, k q y z Qs Rs H' s hq h1 h2 h3 h4 h5 h6 h7 h8 h9 h10 q y z rfl hq⟩⟩
theorem sc_monic : FnScope ["self"] ["self"] (defScope s_monic) := ⟨rfl, rfl, rfl, by decide +kernel, rfl, by decide +kernel, by decide +kernel⟩
theorem ok_monic {f C CP CF CRd CNP CNN COF fpinit fpmul fover : Addr} {fd fdpinit fdpmul fdover : FuncData} (F : Fun K "monic" "Poly.monic" s_monic f fd) (T : CTx K C) (Y : ITy K C) (Z : KZx K C) (TP : PTx K CP) (TF : FTx K CF) (kl : PySem.W.kitOne K (.type "list") (.ref CRd) = some false) (MP : Mk K CP fpinit) (m_P : mg "Poly" = some (.ref CP))
    (G_pinit : FnOk P w K mg base (L2.CX P w) 11 fpinit fdpinit ["self", "field", "coefficients"] (spPolyInit K C CP CF CRd CNP)) (b_pinit : Binds K fdpinit ["self", "field", "coefficients"] []) (sfP : PySem.W.selfFirst K CP = true) (O_pmul : OwnOp K CP fpmul (PySem.dunder Operator.Mult.info.2)) (NIp : IntOp K CP Operator.Mult.info.2) (NOp : OthOp K CP C Operator.Mult.info.2)
    (G_pmul : FnOk P w K mg base (L2.CX P w) 13 fpmul fdpmul ["self", "other"] (spPMul K C CP CF COF)) (b_pmul : Binds K fdpmul ["self", "other"] []) (Me_over : Meth K CF "over" fover) (G_fover : FnOk P w K mg base (L2.CX P w) 9 fover fdover ["self", "one", "other"] (spOver K C CF CNN)) (b_fover : Binds K fdover ["self", "one", "other"] []) : FnOk P w K mg base (L2.CX P w) 15 f fd ["self"] (spMonic C CP CF) := by
  refine F.okX sc_monic (fun vs H Q E h => ?_) (fun cdv A outer s H vs Q E hr h => ?_)
  · obtain ⟨a, p, prs, rfl, _⟩ := h
    rfl
  · obtain ⟨a, p, prs, rfl, PA, hg, k0, kL⟩ := h
    refine ⟨_, (pss_cons (ps_if (pt_cmpR op_lt (pe_fld (pv 0) rfl) pe_int (nomark _)) (pss_one (ps_ret (pe_make (E := fun _ _ _ => False) MP G_pinit (hr.mono (by decide)) rfl m_P b_pinit .nil passL (pa_cons (pe_fld (pv 0) rfl) (pa_cons (pe_lst pa_nil) pa_nil))))) pss_nil)
      (pss_one (ps_ret (pe_op (op_or (op_ownI (E := fun _ _ _ => False) (op := .Mult) sfP O_pmul NIp G_pmul (hr.mono (by decide)) b_pmul passL) (op_ownO (E := fun _ _ _ => False) (op := .Mult) sfP O_pmul NOp G_pmul (hr.mono (by decide)) b_pmul passL)) (pv 0) (pe_meth (E := fun _ _ _ => False) (pe_fld (pv 0) rfl) TF.cl Me_over G_fover (hr.mono (by decide)) b_fover .nil passL (pa_cons pe_int (pa_cons (pe_ix ix_tup (pe_fld (pv 0) rfl) (pe_un un_neg pe_int) (fun _ _ => rfl)) pa_nil))))))), ?_⟩
    obtain ⟨da, fa, ca, ya, AO⟩ := id PA
    have la := AO.nu.len
    refine ⟨_, rfl, a, CP, da, _, _, rfl, AO.ob, TP.cl, TP.nD, plf_deg _ _ _, _, _, rfl, rfl, _, rfl, ?_⟩
    by_cases c : prs = []
    · refine itD (decide_eq_true (by rw [c]; decide)) ?_
      refine ⟨_, rfl, a, CP, da, _, _, rfl, AO.ob, TP.cl, TP.nF, plf_field _ _ _, (by show 0 ≤ sizeLine; decide), fun l hl => ?_⟩
      have sl := same_new (o := .lst []) (Same.refl H) hl
      refine fun y dy ny ndy ne => mkPL_go (prs := []) (AO.fl.same sl) hg kl upd_same ⟨rfl, fun i x o e _ => by simp at e⟩ (by simp) ny ndy ne fun H1 s1 po => ⟨rfl, k0 c y H1 (sl.trans s1) po⟩
    have n0 : 0 < prs.length := List.length_pos_iff.mpr c
    refine itDn (fun z => by have := of_decide_eq_true z; omega) ?_
    have e0 : prs.dropLast ++ [prs.getLast c] = prs := List.dropLast_concat_getLast c
    generalize prs.getLast c = l at e0
    generalize prs.dropLast = m at e0
    obtain ⟨l0, f1, f2, l300, ⟨D, D1, D2, bd⟩, kR⟩ := kL m l e0.symm
    have li : m.length < ya.length := by rw [la, ← e0]; simp
    have el : prs[m.length]? = some l := by rw [← e0]; simp
    have fl := AO.nu.at_ _ _ _ (List.getElem?_eq_getElem li) el
    have ol : OkP p l := fl.okp
    have hat : atI ya (-1) = some ya[m.length] := by
      have lm : ya.length = m.length + 1 := by rw [la, ← e0]; simp
      refine at_last (by omega) ?_
      rw [show ya.length - 1 = m.length by omega]
      exact List.getElem?_eq_getElem li
    obtain ⟨dfa, hfa⟩ := id AO.fl
    have okp := AO.nu.okl
    have l2 : l.1 = 0 → False := l0
    have cop : Int.gcd l.1 l.2 = 1 := by
      by_cases p0 : p = 0
      · exact ol.2.1 p0
      · rw [(ol.2.2 p0).1, Int.gcd_one]
    have npm : ∀ {z : Int}, p ≠ 0 → 0 < z → z < p → z % p ≠ 0 := fun {z} _ a b => by rw [Int.emod_eq_of_lt (by omega) b]; omega
    have one_p : p ≠ 0 → (1 : Int) % p ≠ 0 := fun p0 => npm p0 (by decide) (by have := prime_lt hg p0; omega)
    have fin : ∀ (inv : Int × Int) (v2 : V) (H1 : Hp), Same H H1 → ND p l.2 l.1 inv → OkP p inv → Giv K C H1 p v2 (some inv) → (p = 0 → inv.2.natAbs < 2 ^ 1500 ∧ inv.1.natAbs < 2 ^ 1500) → spPMul K C CP CF COF [.ref a, v2] H1 Q (fun _ _ _ => False) := fun inv v2 H1 s1 nd oi gv ib => by
      refine ⟨a, v2, p, p, prs, trimP [inv], rfl, PA.same s1, hg, .inr ⟨rfl, inv, gv, rfl⟩, fun z => absurd rfl z, fun _ => ⟨⟨by omega, ?_, .inl c, D, inv.2.natAbs, D1, ?_, D2, ?_, bd, ?_⟩, fun y Qs H2 s2 po tt ok le mv => ?_⟩⟩
      · rcases trim1 inv with e | e <;> rw [e] <;> simp
      · have := oi.1
        omega
      · by_cases p0 : p = 0
        · exact Nat.lt_of_lt_of_le (ib p0).1 (Nat.pow_le_pow_right (by decide) (by decide))
        · rw [(oi.2.2 p0).1]
          exact Nat.lt_of_lt_of_le (show (1 : Int).natAbs < 2 ^ 1 by decide) (Nat.pow_le_pow_right (by decide) (by decide))
      · intro p0 x hx
        have : x = inv := by
          rcases trim1 inv with e | e <;> rw [e] at hx
          · cases hx
          · exact List.mem_singleton.mp hx
        subst this
        exact ⟨Int.dvd_natAbs.mpr (Int.dvd_refl _), Nat.lt_of_lt_of_le (ib p0).2 (Nat.pow_le_pow_right (by decide) (by decide))⟩
      · refine kR y Qs H2 (s1.trans s2) po tt ok ?_ fun R iR v X k => mon_v hg okp ol l0 nd oi mv R iR v X k
        have : (trimP [inv]).length ≤ 1 := by rcases trim1 inv with e | e <;> rw [e] <;> simp
        omega
    refine ⟨_, rfl, _, rfl, a, CP, da, _, _, rfl, AO.ob, TP.cl, TP.nF, plf_field _ _ _, fa, dfa, _, rfl, hfa, pf_no _ (by decide +kernel), _, rfl, a, CP, da, _, _, rfl, AO.ob, TP.cl, TP.nC, plf_coef _ _ _, _, rfl, ca, ya, _, _, rfl, rfl, SqT.of AO.co, hat, ?_⟩
    refine ⟨fa, .int 1, ya[m.length], p, rfl, AO.fl, hg, .inr ⟨1, 1, .inr ⟨rfl, rfl⟩, Int.le_refl 1, fit_one, fit_one, fun p0 z => absurd z (one_p p0), fun _ => .inr ⟨l.1, l.2, fl.num, ol.1, cop, f1, f2, fun p0 => ⟨fun z => absurd z l0, fun _ z Tz Uz H1 lo rt s1 => ?_⟩, fun p0 z => ?_, fun p0 _ z => ?_, fun p0 _ _ r H1 r0 r1 hk s1 => ?_⟩⟩⟩
    · rw [Int.one_mul, Int.one_mul] at lo
      obtain ⟨dz, hz⟩ := id rt
      have bt := Nat.lt_of_le_of_lt lo.lt f2
      have bu := Nat.lt_of_le_of_lt lo.lu f1
      exact .inr ⟨a, z, da, dz, _, _, rfl, rfl, s1 _ _ AO.ob, hz, fin (Tz, Uz) (.ref z) H1 s1 ⟨fun _ => low_is l0 lo, fun n => absurd p0 n⟩ ⟨lo.pos, fun _ => lo.cop, fun n => absurd p0 n⟩ ⟨Tz, Uz, .inl ⟨z, rfl, rt⟩, lo.pos, bt, bu, fun _ => ⟨rfl, lo.cop⟩, fun n => absurd p0 n⟩ fun _ => ⟨bu, bt⟩⟩
    · rw [(ol.2.2 p0).1] at z
      exact absurd z (one_p p0)
    · obtain ⟨_, a0, a1⟩ := ol.2.2 p0
      exact absurd z (npm p0 (by omega) a1)
    · have := (prime_lt hg p0)
      have fr : Fit r := Nat.lt_of_lt_of_le (show r.natAbs < 2 ^ 14 by omega) (Nat.pow_le_pow_right (by decide) (by decide))
      obtain ⟨kk, hk⟩ := hk
      rw [Int.one_mul, Int.one_mul] at hk
      exact .inl ⟨a, r, da, _, rfl, rfl, s1 _ _ AO.ob, fin (r, 1) (.int r) H1 s1 ⟨fun n => absurd n p0, fun _ => ⟨rfl, r0, r1, kk, hk⟩⟩ ⟨Int.le_refl 1, fun n => absurd n p0, fun _ => ⟨rfl, r0, r1⟩⟩ ⟨r, 1, .inr ⟨rfl, rfl⟩, Int.le_refl 1, fr, fit_one, fun n => absurd n p0, fun _ => ⟨one_p p0, rfl, r0, r1, 0, by omega⟩⟩ fun n => absurd n p0⟩
end
end Sq

namespace Sq
open PySem L2 PyProof.Rows
abbrev s_pcoef : Stmt := inClass (top 53) 3
/-- the coefficient of the power k -/
def pget (prs : List (Int × Int)) (k : Int) : Int × Int := prs.getD k.toNat (0, 1)
def spPCoef (K : PySem.W.Frag) (C CP CF CNC : Addr) : Sp := fun vs H Q E => ∃ (x : Addr) (p : Int) (prs : List (Int × Int)) (v : V), vs = [.ref x, v] ∧ Pol C CP CF H x p prs ∧ goodP p = true ∧ prs.length ≤ 1000000 ∧ IsTy K H v ∧ ((∀ k, v = .int k → k < 0) → E (.ref CNC) none H) ∧
  (∀ k, v = .int k → 0 ≤ k → ∀ y H', Same H H' → FN C H' p y (pget prs k).1 (pget prs k).2 → Q y H')
theorem FN.in_ {C : Addr} {H : Hp} {p t u : Int} {v : V} (h : FN C H p v t u) (p0 : p ≠ 0) : v = .int t ∧ u = 1 ∧ 0 ≤ t ∧ t < p := by
  rcases h with ⟨q, _⟩ | ⟨_, r⟩
  · exact absurd q p0
  · exact r
theorem fit01 : Fit 0 := Nat.lt_of_lt_of_le (show (0 : Int).natAbs < 2 ^ 1 from by decide) (Nat.pow_le_pow_right (by decide) (by decide))
theorem nrm0 {p : Int} : nrm p 0 = 0 := by
  unfold nrm
  split
  · rfl
  · exact Int.zero_emod p
section
variable {P : Program} {w : World} {K : PySem.W.Frag} {mg : Str → Option Value} {base : Heap}
theorem sc_pcoef : FnScope ["self", "k"] ["self", "k"] (defScope s_pcoef) := ⟨rfl, rfl, rfl, by decide +kernel, rfl, by decide +kernel, by decide +kernel⟩
theorem ok_pcoef {f C CF CP CNC CNN fnum fII : Addr} {fd fdnum fdII : FuncData} (F : Fun K "coefficient" "Poly.coefficient" s_pcoef f fd) (TF : FTx K CF) (TP : PTx K CP) (RN : RNx K mg "NoCount" CNC)
    (Me_num : Meth K CF "number" fnum) (G_num : FnOk P w K mg base (L2.CX P w) 8 fnum fdnum ["self", "value"] (spNum K C CF CNN)) (b_num : Binds K fdnum ["self", "value"] [])
    (G_II : FnOk P w K mg base CX0 1 fII fdII ["value"] (spIsInt K)) (m_II : mg "is_an_integer" = some (.ref fII)) (k_II : PySem.W.keepIn K (.ref fII) = true) (b_II : Binds K fdII ["value"] []) : FnOk P w K mg base (L2.CX P w) 9 f fd ["self", "k"] (spPCoef K C CP CF CNC) := by
  refine F.okX sc_pcoef (fun vs H Q E h => ?_) (fun cdv A outer s H vs Q E hr h => ?_)
  · obtain ⟨x, p, prs, v, rfl, _⟩ := h
    rfl
  · obtain ⟨x, p, prs, v, rfl, ⟨dx, fx, ct, ys, PO⟩, hg, hl, tv, kE, kQ⟩ := h
    refine ⟨_, (pss_cons (ps_if (PW.pt (pw_or (pt_not (pt_val (pe_call G_II (hr.mono (by decide)) rfl m_II k_II b_II .nil pass0 (pa_cons (pv 1) pa_nil)))) (pw_or1 (pt_cmpR op_lt (pv 1) pe_int (nomark _))))) (pss_one (ps_raise rfl (takes_of rfl rfl rfl rfl) (pmk_own0 PySem.F.excBase_ValueError RN.q RN.m RN.k (raises_own RN.ex RN.ty) rfl))) pss_nil)
      (pss_cons (ps_if (pt_cmpR op_gt (pv 1) (pe_fld (pv 0) rfl) (nomark _)) (pss_one (ps_ret (pe_meth (E := fun _ _ _ => False) (pe_fld (pv 0) rfl) TF.cl Me_num G_num (hr.mono (by decide)) b_num .nil passL (pa_cons pe_int pa_nil)))) pss_nil)
      (pss_one (ps_ret (pe_ix ix_tup (pe_fld (pv 0) rfl) (pv 1) (fun _ _ => rfl)))))), ?_⟩
    refine ⟨_, rfl, v, rfl, tv, _, rfl, ?_⟩
    cases ev : isI v with
    | false => exact iteT (kE fun k e => by rw [e] at ev; cases ev)
    | true =>
      obtain ⟨k, rfl⟩ := isI_int ev
      refine iteF ⟨_, rfl, _, _, rfl, rfl, _, rfl, ?_⟩
      by_cases c0 : k < 0
      · exact itD (decide_eq_true c0) (kE fun k' e => by cases e; exact c0)
      · refine itDn (by simpa using c0) ?_
        refine ⟨_, rfl, _, rfl, x, CP, dx, _, _, rfl, PO.ob, TP.cl, TP.nD, plf_deg _ _ _, _, _, rfl, rfl, _, rfl, ?_⟩
        by_cases c1 : k > (prs.length : Int) - 1
        · refine itD (decide_eq_true c1) ?_
          obtain ⟨df, hf⟩ := id PO.fl
          refine ⟨_, rfl, x, CP, dx, _, _, rfl, PO.ob, TP.cl, TP.nF, plf_field _ _ _, fx, df, _, rfl, hf, pf_no _ (by decide +kernel), num_goC PO.fl hg (giv_int hg fit01) fun y H1 s1 fn => ?_⟩
          refine kQ k rfl (by omega) y H1 s1 ?_
          have e : pget prs k = (0, 1) := by
            unfold pget
            rw [List.getD_eq_getElem?_getD, List.getElem?_eq_none (by omega)]
            rfl
          rw [e]
          rw [nrm0] at fn
          exact fn
        · refine itDn (by simpa using c1) ?_
          have lk : k.toNat < prs.length := by omega
          have ly : k.toNat < ys.length := by rw [PO.nu.len]; exact lk
          refine ⟨_, rfl, x, CP, dx, _, _, rfl, PO.ob, TP.cl, TP.nC, plf_coef _ _ _, _, rfl, _, _, _, _, rfl, rfl, SqT.of PO.co, at_of (j := k.toNat) (by omega) (List.getElem?_eq_getElem ly), ?_⟩
          refine kQ k rfl (by omega) _ _ (Same.refl H) ?_
          have e : pget prs k = prs[k.toNat] := by
            unfold pget
            rw [List.getD_eq_getElem?_getD, List.getElem?_eq_getElem lk]
            rfl
          rw [e]
          exact PO.nu.at_ _ _ _ (List.getElem?_eq_getElem ly) (List.getElem?_eq_getElem lk)
end
end Sq

namespace Sq
open PySem L2 PyProof.Rows
section
variable {R : Type} [Lean.Grind.CommRing R] {p : Int} {v : Int × Int → R}
theorem sm_ic (f : Nat → Int) : ∀ n, (ic (sm n f) : R) = sv (fun j => ic (f j)) n
  | 0 => ic_zero
  | n + 1 => by
    show (ic (sm n f + f n) : R) = sv (fun j => ic (f j)) n + ic (f n)
    rw [ic_add, sm_ic f n]
/-- a multiple up to a number, by values -/
theorem pd_vals (X : Vp p R v) (hg : goodP p = true) {prs rs : List (Int × Int)} {ns gs : List Int} {s L : Int} (ok : OkL p prs) (W : WholeAt p prs ns s) (pd : PD p gs ns) (L0 : L ≠ 0) (nds : NDs p L gs rs) : ∃ (c : R) (N : Nat) (h : Nat → R), c ≠ 0 ∧ (∀ k, N ≤ k → h k = 0) ∧ ∀ k, c * vg v prs k = cvv h (vg v rs) k := by
  obtain ⟨u, N, h, hu, hf, hd⟩ := pd
  have u0 : u ≠ 0 := fun z => hu (by rw [z]; exact Int.dvd_zero p)
  have cu : (ic u : R) ≠ 0 := X.ne u0 fun _ => hu
  have sp := W.pos
  have cs : (ic s : R) ≠ 0 := X.ne (by omega) fun p0 d => by
    rw [W.mod p0] at d
    exact (goodD hg).2 d
  refine ⟨ic u * ic s, N, fun j => ic (h j) * ic L, fun z => (X.dom z).elim cu cs, fun k hk => by show (ic (h k) * ic L : R) = 0; rw [hf k hk, ic_zero]; grind, fun k => ?_⟩
  have e := X.eqm (x := u * gz ns k) (y := dv h (gz gs) k) (by
    obtain ⟨c, hc⟩ := hd k
    exact ⟨c, by rw [Int.mul_comm c p]; omega⟩)
  have a := wh_vg X hg ok W k
  unfold dv at e
  rw [ic_mul, sm_ic] at e
  have e2 : (ic u * ic s * vg v prs k : R) = ic u * ic (gz ns k) := by rw [← a]; grind
  rw [e2, e]
  unfold cvv
  refine sv_congr fun j _ => ?_
  have b := nd_vg X L0 nds (k - j)
  rw [ic_mul, ← b]
  grind
/-- the rest of a multiple is 0 -/
theorem exact_vals (X : Vp p R v) {c : R} {N : Nat} {h : Nat → R} {prs rs Qs Rs : List (Int × Int)} (c0 : c ≠ 0) (hf : ∀ k, N ≤ k → h k = 0) (hm : ∀ k, c * vg v prs k = cvv h (vg v rs) k) (hd : ∀ k, vg v prs k = cvv (vg v Qs) (vg v rs) k + vg v Rs k) (lr : Rs.length < rs.length) (top : vg v rs (rs.length - 1) ≠ 0) : ∀ k, vg v Rs k = 0 := by
  obtain ⟨D, eD⟩ : ∃ D : Nat → R, ∀ j, D j = h j - c * vg v Qs j := ⟨_, fun _ => rfl⟩
  have cD : ∀ k, cvv D (vg v rs) k = c * vg v Rs k := fun k => by
    have e : cvv D (vg v rs) k = cvv h (vg v rs) k + (-c) * cvv (vg v Qs) (vg v rs) k := by
      unfold cvv
      rw [← sv_mul, ← sv_add]
      refine sv_congr fun j _ => ?_
      rw [eD]
      grind
    rw [e, ← hm, hd]
    grind
  have step : ∀ n j, N + Qs.length ≤ j + n → D j = 0 := by
    intro n
    induction n with
    | zero =>
      intro j hj
      rw [eD, hf j (by omega), vg_ge X (by omega)]
      grind
    | succ n ih =>
      intro j hj
      have one : cvv D (vg v rs) (j + (rs.length - 1)) = D j * vg v rs (rs.length - 1) := by
        unfold cvv
        rw [sv_one (m := j) (by omega) fun i hi ne => ?_]
        · rw [show j + (rs.length - 1) - j = rs.length - 1 by omega]
        · by_cases ci : j < i
          · rw [ih i (by omega)]
            grind
          · rw [vg_ge X (l := rs) (by omega)]
            grind
      rw [cD, vg_ge X (l := Rs) (by omega)] at one
      have z : D j * vg v rs (rs.length - 1) = 0 := by rw [← one]; grind
      exact (X.dom z).resolve_right top
  intro k
  have z : cvv D (vg v rs) k = 0 := sv_zero fun j _ => by
    rw [step (N + Qs.length) j (by omega)]
    grind
  rw [cD] at z
  exact (X.dom z).resolve_left c0
end
/-- division by the common divisor leaves nothing -/
theorem exact_nil {p : Int} (hg : goodP p = true) {prs rs Qs Rs : List (Int × Int)} {ns gs : List Int} {s : Int} (ok : OkL p prs) (W : WholeAt p prs ns s) (pd : PD p gs ns) (rg : RowG p gs) (ne : gs ≠ []) (nds : GcdZ p gs rs) (okr : OkL p rs) (tr : trimP rs = rs) (okR : OkL p Rs) (tR : trimP Rs = Rs) (dv : DivV p prs rs Qs Rs) (lr : Rs.length < rs.length) : Rs = [] := by
  obtain ⟨R, iR, v, X⟩ := vp_ex hg
  have gn := rg.tp.resolve_left ne
  obtain ⟨c, N, h, c0, hf, hm⟩ := pd_vals X hg ok W pd gn nds
  have rne : rs ≠ [] := fun z => by rw [z] at lr; exact absurd lr (Nat.not_lt_zero _)
  obtain ⟨m, x, e, x0⟩ := trim_last (p := p) tr rne
  have top : vg v rs (rs.length - 1) ≠ 0 := fun z => by
    have hx : OkP p x := okr x (by rw [e]; simp)
    rw [e, vg_snoc, if_pos (by simp)] at z
    exact x0 ((v_zero X hg hx).mp z)
  have z := exact_vals X c0 hf hm (dv R iR v X) lr top
  exact rows_eq X hg okR (fun a h => by cases h) tR rfl fun k => by
    rw [z k, vg_ge X (Nat.zero_le _)]
end Sq

namespace Sq
open PySem L2 PyProof.Rows
section
variable {R : Type} [Lean.Grind.CommRing R]
theorem sv_grow (f : Nat → R) {n : Nat} : ∀ d, (∀ i, n ≤ i → f i = 0) → sv f (n + d) = sv f n
  | 0, _ => rfl
  | d + 1, h => by
    show sv f (n + d) + f (n + d) = _
    rw [sv_grow f d h, h (n + d) (by omega)]
    grind
theorem sv_ext {n N : Nat} (h : n ≤ N) (f : Nat → R) : sv f n = sv (fun i => if i < n then f i else 0) N := by
  obtain ⟨d, rfl⟩ : ∃ d, N = n + d := ⟨N - n, by omega⟩
  rw [sv_grow _ d fun i hi => if_neg (by omega)]
  exact sv_congr fun i hi => (if_pos hi).symm
theorem sv_swap (f : Nat → Nat → R) (a : Nat) : ∀ b, sv (fun j => sv (fun i => f j i) a) b = sv (fun i => sv (fun j => f j i) b) a
  | 0 => by
    show (0 : R) = sv (fun _ => 0) a
    rw [sv_zero fun _ _ => rfl]
  | b + 1 => by
    show sv (fun j => sv (fun i => f j i) a) b + sv (fun i => f b i) a = sv (fun i => sv (fun j => f j i) b + f b i) a
    rw [sv_swap f a b, sv_add]
theorem cvv_wide (f g h : Nat → R) (k : Nat) : cvv f (cvv g h) k = sv (fun j => sv (fun i => if i + j ≤ k then f j * (g i * h (k - j - i)) else 0) (k + 1)) (k + 1) := by
  unfold cvv
  refine sv_congr fun j hj => ?_
  rw [← sv_mul, sv_ext (show k - j + 1 ≤ k + 1 by omega)]
  refine sv_congr fun i hi => ?_
  by_cases c : i + j ≤ k
  · rw [if_pos c, if_pos (by omega)]
  · rw [if_neg c, if_neg (by omega)]
theorem cvv_swap (f g h : Nat → R) (k : Nat) : cvv f (cvv g h) k = cvv g (cvv f h) k := by
  rw [cvv_wide, cvv_wide, sv_swap]
  refine sv_congr fun i _ => sv_congr fun j _ => ?_
  by_cases c : j + i ≤ k
  · rw [if_pos (by omega), if_pos (by omega), show k - j - i = k - i - j by omega]
    grind
  · rw [if_neg (by omega), if_neg (by omega)]
theorem cvv_congr {f f' g g' : Nat → R} {k : Nat} (h1 : ∀ j, j ≤ k → f j = f' j) (h2 : ∀ j, j ≤ k → g j = g' j) : cvv f g k = cvv f' g' k :=
  sv_congr fun j hj => by rw [h1 j (by omega), h2 (k - j) (by omega)]
def e0 (j : Nat) : R := if j = 0 then 1 else 0
theorem cvv_e0 (f : Nat → R) (k : Nat) : cvv f e0 k = f k := by
  show sv (fun j => f j * e0 (k - j)) k + f k * e0 (k - k) = f k
  rw [sv_zero fun j hj => by
    show f j * (if k - j = 0 then (1 : R) else 0) = 0
    rw [if_neg (by omega)]
    grind, Nat.sub_self]
  show 0 + f k * (if (0 : Nat) = 0 then (1 : R) else 0) = f k
  rw [if_pos rfl]
  grind
theorem cvv_comm (f g : Nat → R) (k : Nat) : cvv f g k = cvv g f k := by
  have h := cvv_swap f g e0 k
  rw [cvv_congr (fun _ _ => rfl) (fun j _ => cvv_e0 g j), cvv_congr (fun _ _ => rfl) (fun j _ => cvv_e0 f j)] at h
  exact h
theorem cvv_assoc (f g h : Nat → R) (k : Nat) : cvv f (cvv g h) k = cvv (cvv f g) h k := by
  rw [cvv_congr (f := f) (fun _ _ => rfl) (fun j _ => cvv_comm g h j), cvv_swap, cvv_comm]
theorem cvv_scale (c : R) (f g : Nat → R) (k : Nat) : cvv f (fun j => g j * c) k = cvv f g k * c := by
  show sv _ (k + 1) = sv _ (k + 1) * c
  have : sv (fun j => f j * (g (k - j) * c)) (k + 1) = sv (fun j => c * (f j * g (k - j))) (k + 1) := sv_congr fun j _ => by grind
  rw [this, sv_mul]
  grind
end
/-- top over bottom is ts over bs -/
def Crs (p : Int) (prs prs' ts bs : List (Int × Int)) : Prop := ∀ (R : Type) (_ : Lean.Grind.CommRing R) (v : Int × Int → R), Vp p R v → ∀ k, cvv (vg v prs) (vg v bs) k = cvv (vg v prs') (vg v ts) k
theorem okp_at {p : Int} (hg : goodP p = true) {l : List (Int × Int)} (ok : OkL p l) (i : Nat) : OkP p (l.getD i (0, 1)) := by
  rw [List.getD_eq_getElem?_getD]
  cases c : l[i]? with
  | none => exact ok01 hg
  | some b => exact ok b (List.mem_of_getElem? c)
theorem crs_of {p : Int} (hg : goodP p = true) {prs prs' rs Qt Qb ts bs : List (Int × Int)} {inv : Int × Int} (okt : OkL p Qt) (okb : OkL p Qb) (oi : OkP p inv) (dt : DivV p prs rs Qt []) (db : DivV p prs' rs Qb []) (tt : ∀ i, ts.getD i (0, 1) = timesP p (Qt.getD i (0, 1)) inv) (tb : ∀ i, bs.getD i (0, 1) = timesP p (Qb.getD i (0, 1)) inv) : Crs p prs prs' ts bs := fun R iR v X k => by
  have z : ∀ j, vg v [] j = 0 := fun j => vg_ge X (Nat.zero_le _)
  have vt : ∀ j, vg v ts j = vg v Qt j * v inv := fun j => by
    show v (ts.getD j (0, 1)) = v (Qt.getD j (0, 1)) * v inv
    rw [tt j, X.times (okp_at hg okt j) oi]
  have vb : ∀ j, vg v bs j = vg v Qb j * v inv := fun j => by
    show v (bs.getD j (0, 1)) = v (Qb.getD j (0, 1)) * v inv
    rw [tb j, X.times (okp_at hg okb j) oi]
  have a : ∀ j, vg v prs j = cvv (vg v Qt) (vg v rs) j := fun j => by
    rw [dt R iR v X j, z j]
    grind
  have b : ∀ j, vg v prs' j = cvv (vg v Qb) (vg v rs) j := fun j => by
    rw [db R iR v X j, z j]
    grind
  rw [cvv_congr (fun j _ => a j) (fun j _ => vb j), cvv_congr (fun j _ => b j) (fun j _ => vt j), cvv_scale, cvv_scale]
  have e : cvv (cvv (vg v Qt) (vg v rs)) (vg v Qb) k = cvv (cvv (vg v Qb) (vg v rs)) (vg v Qt) k := by
    rw [cvv_comm, cvv_swap, cvv_comm]
  rw [e]
theorem inv_one {p : Int} (hg : goodP p = true) {l inv : Int × Int} (ol : OkP p l) (l0 : l.1 ≠ 0) (oi : OkP p inv) (nd : ND p l.2 l.1 inv) : timesP p l inv = (1, 1) := by
  obtain ⟨R, iR, v, X⟩ := vp_ex hg
  have o1 : OkP p (1, 1) := ⟨by decide, fun _ => by decide, fun p0 => ⟨rfl, by decide, by have := prime_lt hg p0; show (1 : Int) < p; omega⟩⟩
  refine X.inj (ol.times hg oi) o1 ?_
  rw [X.times ol oi]
  have a := X.nd nd l0
  have b := X.mul ol
  have n2 : (ic l.2 : R) ≠ 0 := ne_one X hg ol.1 fun p0 => (ol.2.2 p0).1
  have one : v inv * v l = 1 := by
    refine X.cancel (c := ic l.2) ?_ n2
    rw [Lean.Grind.Semiring.one_mul, ← a, ← b]
    grind
  have c := X.mul o1
  have i1 : (ic (1 : Int) : R) = 1 := ic_one
  have c : v (1, 1) * ic (1 : Int) = ic (1 : Int) := c
  rw [i1] at c
  grind
end Sq

namespace Sq
open PySem L2 PyProof.Rows
/-- the gcd's polynomial over its greatest number -/
theorem bdz_gcd {gs : List Int} {rs : List (Int × Int)} {c : Nat} (rg : RowG 0 gs) (ne : gs ≠ []) (bg : ∀ k, (gz gs k).natAbs < 2 ^ c) (c5 : c ≤ 900) (nds : GcdZ 0 gs rs) : BdZ rs (gz gs (gs.length - 1)).natAbs c := by
  have gn := rg.tp.resolve_left ne
  have lr := nds.len
  have low : ∀ a ∈ rs, ∃ n : Int, n.natAbs < 2 ^ c ∧ Low n (gz gs (gs.length - 1)) a.1 a.2 := fun a ha => by
    obtain ⟨i, hi, rfl⟩ := List.mem_iff_getElem.mp ha
    have ig : i < gs.length := by omega
    have h := (nds.at_ i _ _ (List.getElem?_eq_getElem ig) (List.getElem?_eq_getElem hi)).1 rfl
    have b := bg i
    rw [gz_lt ig] at b
    exact ⟨gs[i], b, by rw [h]; exact low_lowp _ gn⟩
  refine ⟨by omega, Nat.lt_of_lt_of_le (bg _) (Nat.pow_le_pow_right (by decide) (by omega)), fun a ha => ?_, fun a ha => ?_⟩
  · obtain ⟨n, _, L⟩ := low a ha
    have e : a.1.natAbs * (gz gs (gs.length - 1)).natAbs = n.natAbs * a.2.natAbs := by rw [← Int.natAbs_mul, L.val, Int.natAbs_mul]
    have cp : Nat.Coprime a.2.natAbs a.1.natAbs := Nat.Coprime.symm L.cop
    have d : a.2.natAbs ∣ (gz gs (gs.length - 1)).natAbs := cp.dvd_of_dvd_mul_left ⟨n.natAbs, by rw [e, Nat.mul_comm]⟩
    exact Int.natAbs_dvd_natAbs.mp (by rw [Int.natAbs_natCast]; exact d)
  · obtain ⟨n, b, L⟩ := low a ha
    have e : a.1.natAbs * (gz gs (gs.length - 1)).natAbs = n.natAbs * a.2.natAbs := by rw [← Int.natAbs_mul, L.val, Int.natAbs_mul]
    rw [e]
    have := L.pos
    exact Nat.mul_lt_mul_of_pos_right b (by omega)
/-- a gcd that is a number is 1 -/
theorem one_gcd {p : Int} (hg : goodP p = true) {gs : List Int} {rs : List (Int × Int)} (rg : RowG p gs) (l1 : gs.length = 1) (nds : GcdZ p gs rs) (ok : OkL p rs) : rs = [(1, 1)] := by
  have gn := rg.tp.resolve_left fun z => by rw [z] at l1; cases l1
  have lr := nds.len
  match gs, rs, l1, lr with
  | [g], [a], _, _ =>
    have h := nds.at_ 0 g a rfl rfl
    have gn : g ≠ 0 := gn
    have h : ND p g g a := h
    by_cases p0 : p = 0
    · have L := low_lowp g gn
      have e := h.1 p0
      rw [e]
      have v := L.val
      have q : (lowp g g).1 = (lowp g g).2 := Int.eq_of_mul_eq_mul_right gn (by rw [v, Int.mul_comm])
      have cp : Nat.gcd (lowp g g).1.natAbs (lowp g g).2.natAbs = 1 := L.cop
      rw [q, Nat.gcd_self] at cp
      have := L.pos
      have e2 : (lowp g g).2 = 1 := by omega
      have e1 : (lowp g g).1 = 1 := by omega
      rw [show lowp g g = (1, 1) from Prod.ext e1 e2]
    · obtain ⟨a2, a0, a1, k, hk⟩ := h.2 p0
      obtain ⟨g0, g1⟩ := rg.rg p0 0
      have g0 : 0 ≤ g := g0
      have g1 : g < p := g1
      have d : p ∣ (a.1 - 1) * g := ⟨k, by rw [Int.sub_mul, Int.one_mul, hk, Int.mul_comm p]; omega⟩
      have e1 : a.1 = 1 := by
        rcases (goodD hg).1 _ _ d with z | z
        · have p2 := (goodP_pos hg p0).1
          obtain ⟨j, hj⟩ := z
          have j0 : j = 0 := by
            rcases Int.lt_trichotomy j 0 with c | c | c
            · have : p * j ≤ p * (-1) := Int.mul_le_mul_of_nonneg_left (by omega) (by omega)
              have a1z : a.1 = 1 - p := by
                have : p * j ≤ -p := by omega
                omega
              omega
            · exact c
            · have : p * 1 ≤ p * j := Int.mul_le_mul_of_nonneg_left (by omega) (by omega)
              omega
          rw [j0, Int.mul_zero] at hj
          omega
        · have := Int.emod_eq_zero_of_dvd z
          rw [Int.emod_eq_of_lt g0 g1] at this
          exact absurd this gn
      rw [show a = (1, 1) from Prod.ext e1 a2]
/-- sizes that do for what follows -/
theorem low_sizes {b c n L W : Nat} (eW : W = 2 * (b + 2) * 3 ^ n) (hW : W ≤ 2000) (l2 : 2 ≤ L) (ln : L ≤ n) (hc : (c + 2) * 3 ^ L ≤ W) : c ≤ 220 ∧ b ≤ 220 ∧ n ≤ 5 := by
  have h9 : (3 : Nat) ^ 2 ≤ 3 ^ L := Nat.pow_le_pow_right (by decide) l2
  have h9n : (3 : Nat) ^ 2 ≤ 3 ^ n := Nat.pow_le_pow_right (by decide) (by omega)
  have a1 := Nat.mul_le_mul_left (c + 2) h9
  have a2 := Nat.mul_le_mul_left (2 * (b + 2)) h9n
  have a3 : 2 * 2 * 3 ^ n ≤ 2 * (b + 2) * 3 ^ n := Nat.mul_le_mul_right _ (by omega)
  refine ⟨by omega, by omega, ?_⟩
  rcases Nat.lt_or_ge 5 n with h | h
  · have : (3 : Nat) ^ 6 ≤ 3 ^ n := Nat.pow_le_pow_right (by decide) h
    omega
  · exact h
end Sq

namespace Sq
open PySem L2 PyProof.Rows
theorem BdZ.up {prs : List (Int × Int)} {D b bb : Nat} (h : BdZ prs D b) (le : b ≤ bb) : ∀ a ∈ prs, a.2 ∣ (D : Int) ∧ a.1.natAbs * D < 2 ^ bb * a.2.natAbs :=
  fun a ha => ⟨h.dv a ha, Nat.lt_of_lt_of_le (h.bd a ha) (Nat.mul_le_mul_right _ (Nat.pow_le_pow_right (by decide) le))⟩
/-- what _in_lowest_terms asks of one of its polynomials -/
def LowZ (prs : List (Int × Int)) (D b n : Nat) : Prop := BdZ prs D b ∧ D < 2 ^ 60 ∧ prs.length ≤ n
theorem divG_gcd {p : Int} (hg : goodP p = true) {prs rs : List (Int × Int)} {gs : List Int} {D b n : Nat} (l100 : prs.length ≤ 100) (z : p = 0 → LowZ prs D b n ∧ 1 ≤ n ∧ (2 * (b + 2) * 3 ^ n ≤ 2000 ∨ (gs.length = 1 ∧ n ≤ 6 ∧ b ≤ 100))) (rg : RowG p gs) (ne : gs ≠ []) (nds : GcdZ p gs rs) (ok : OkL p rs) (lr : rs.length = gs.length) (gb : p = 0 → gs.length ≤ n ∧ ∃ c : Nat, (∀ k, (gz gs k).natAbs < 2 ^ c) ∧ (c + 2) * 3 ^ gs.length ≤ 2 * (b + 2) * 3 ^ n) :
    ∃ D1 D2 bb S : Nat, DivG p prs rs D1 D2 bb S ∧ (p = 0 → D1 < 2 ^ 60 ∧ D2 < 2 ^ 221 ∧ S * (bb + 2) ≤ 1200) ∧ S ≤ prs.length := by
  have n0 := List.length_pos_iff.mpr ne
  by_cases p0 : p = 0
  · subst p0
    obtain ⟨⟨zb, zD, zl⟩, n1, hW⟩ := z rfl
    obtain ⟨gl, c, bg, hc⟩ := gb rfl
    have D9 : D < 2 ^ 900 := Nat.lt_of_lt_of_le zD (Nat.pow_le_pow_right (by decide) (by decide))
    have n3 : n ≤ 3 ^ n := Nat.le_of_lt (Nat.lt_pow_self (by decide))
    by_cases l1 : gs.length = 1
    · have e := one_gcd hg rg l1 nds ok
      have nb : n * (b + 2) ≤ 1000 := by
        rcases hW with hW | ⟨_, h6, h100⟩
        case inr => exact Nat.le_trans (Nat.mul_le_mul h6 (show b + 2 ≤ 102 by omega)) (by decide)
        have := Nat.mul_le_mul_left (b + 2) n3
        rw [Nat.mul_comm n]
        have h2 : 2 * (b + 2) * 3 ^ n = 2 * ((b + 2) * 3 ^ n) := Nat.mul_assoc _ _ _
        omega
      have n5 : n ≤ 6 := by
        rcases hW with hW | ⟨_, h6, h100⟩
        case inr => exact h6
        rcases Nat.lt_or_ge 6 n with h | h
        · have : (3 : Nat) ^ 7 ≤ 3 ^ n := Nat.pow_le_pow_right (by decide) h
          have a3 : 2 * 2 * 3 ^ n ≤ 2 * (b + 2) * 3 ^ n := Nat.mul_le_mul_right _ (by omega)
          omega
        · exact h
      have b1000 : b + 2 ≤ 1000 := by
        have := Nat.mul_le_mul_right (b + 2) n1
        omega
      have mx : n * (max 14 b + 2) ≤ 1200 := by
        rcases Nat.le_total 14 b with h | h
        · rw [Nat.max_eq_right h]
          omega
        · rw [Nat.max_eq_left h]
          omega
      have m14 : 14 ≤ max 14 b := Nat.le_max_left _ _
      have mb : b ≤ max 14 b := Nat.le_max_right _ _
      have m6 : max 14 b ≤ 1000 := Nat.max_le.mpr ⟨by decide, by omega⟩
      have Sn : prs.length + 1 - rs.length ≤ n := by omega
      have mx := Nat.le_trans (Nat.mul_le_mul_right (max 14 b + 2) Sn) mx
      refine ⟨D, 1, max 14 b, prs.length + 1 - rs.length, ⟨zb.D1, D9, by decide, Nat.one_lt_two_pow (by decide), m14, by omega, by omega, by omega, fun q => absurd rfl q, fun _ => zb.up mb, fun _ a ha => ?_⟩, fun _ => ⟨zD, Nat.one_lt_two_pow (by decide), mx⟩, by omega⟩
      rw [e] at ha
      rw [List.mem_singleton.mp ha]
      exact ⟨Int.one_dvd _, by
        show 1 * 1 < 2 ^ max 14 b * 1
        have := Nat.one_lt_two_pow (n := max 14 b) (by omega)
        omega⟩
    · obtain ⟨c2, b2, n5⟩ := low_sizes (W := 2 * (b + 2) * 3 ^ n) rfl (hW.resolve_right fun z => l1 z.1) (by omega) gl hc
      have zz := bdz_gcd rg ne bg (by omega) nds
      have E2 : (gz gs (gs.length - 1)).natAbs < 2 ^ 221 := Nat.lt_of_lt_of_le (bg _) (Nat.pow_le_pow_right (by decide) (by omega))
      have m6 : max 14 (max b c) ≤ 220 := Nat.max_le.mpr ⟨by decide, Nat.max_le.mpr ⟨b2, c2⟩⟩
      have m14 : 14 ≤ max 14 (max b c) := Nat.le_max_left _ _
      have mb : b ≤ max 14 (max b c) := Nat.le_trans (Nat.le_max_left b c) (Nat.le_max_right _ _)
      have mc : c ≤ max 14 (max b c) := Nat.le_trans (Nat.le_max_right b c) (Nat.le_max_right _ _)
      generalize max 14 (max b c) = bb at *
      have mx : (prs.length + 1 - rs.length) * (bb + 2) ≤ 4 * 222 := Nat.mul_le_mul (by omega) (by omega)
      exact ⟨D, _, bb, prs.length + 1 - rs.length, ⟨zb.D1, D9, zz.D1, Nat.lt_of_lt_of_le E2 (Nat.pow_le_pow_right (by decide) (by decide)), m14, by omega, by omega, by omega, fun q => absurd rfl q, fun _ => zb.up mb, fun _ => zz.up mc⟩, fun _ => ⟨zD, E2, by omega⟩, by omega⟩
  · have Sn : (prs.length + 1 - rs.length) * (14 + 2) ≤ 100 * 16 := Nat.mul_le_mul (by omega) (by omega)
    exact ⟨1, 1, 14, prs.length + 1 - rs.length, ⟨by decide, Nat.one_lt_two_pow (by decide), by decide, Nat.one_lt_two_pow (by decide), by decide, by decide, by omega, by omega, fun _ => ⟨rfl, by omega⟩, fun q => absurd q p0, fun q => absurd q p0⟩, fun q => absurd q p0, by omega⟩
end Sq

namespace Sq
open PySem L2 PyProof.Rows PySem.Spec
abbrev s_low : Stmt := top 55
/-- what a NoFraction with a word is -/
def NoFr (CNF : Addr) (H : Hp) (E : XK) : Prop := ∀ H' s d, Same H H' → H' d = none → E (.ref CNF) (some d) (upd H' d (fldAt "word" (.str s)))
theorem NoFr.mono {CNF : Addr} {H H1 : Hp} {E : XK} (h : NoFr CNF H E) (s : Same H H1) : NoFr CNF H1 E := fun H' w d s' hd => h H' w d (s.trans s') hd
theorem NoFr.go {CNF : Addr} {H : Hp} {E : XK} (h : NoFr CNF H E) (s : Str) : ∀ a, H a = none → spFInit "word" CNF (.ref a :: ([.str s] ++ [])) (upd H a (exo a CNF none))
    (fun v H2 => v = .non ∧ ∃ (d : Addr) (fs : List (Str × V)), H2 a = some (exo a CNF (some d)) ∧ H2 d = some (exd d fs) ∧ H d = none ∧ E (.ref CNF) (some d) (upd (L2.del H2 a) d (.xd fs))) (fun _ _ _ => False) := mkO_readF fun d hd => h H s d (Same.refl H) hd
/-- what may be said of all numbers of a fraction -/
def BdL (p : Int) (l : List (Int × Int)) : Prop := p = 0 → ∀ a ∈ l, Bd 3900 a
theorem BdL.timesP {p : Int} {Qs Ts : List (Int × Int)} {inv : Int × Int} (okq : OkL p Qs) (oi : OkP p inv) (h : ∀ i, Ts.getD i (0, 1) = Sq.timesP p (Qs.getD i (0, 1)) inv) (bq : p = 0 → ∀ a ∈ Qs, Bd 1450 a) (bi : p = 0 → Bd 1500 inv) : BdL p Ts := fun p0 a ha => by
  obtain ⟨i, hi, rfl⟩ := List.mem_iff_getElem.mp ha
  have e := h i
  rw [List.getD_eq_getElem?_getD, List.getElem?_eq_getElem hi] at e
  have e : Ts[i] = Sq.timesP p (Qs.getD i (0, 1)) inv := e
  rw [e]
  have q : Bd 1450 (Qs.getD i (0, 1)) ∧ 1 ≤ (Qs.getD i (0, 1)).2 := by
    rw [List.getD_eq_getElem?_getD]
    cases c : Qs[i]? with
    | none => exact ⟨⟨Nat.lt_of_lt_of_le (by decide : (0 : Int).natAbs < 2 ^ 1) (Nat.pow_le_pow_right (by decide) (by decide)), Nat.lt_of_lt_of_le (by decide : (1 : Int).natAbs < 2 ^ 1) (Nat.pow_le_pow_right (by decide) (by decide))⟩, by decide⟩
    | some b => exact ⟨bq p0 b (List.mem_of_getElem? c), (okq b (List.mem_of_getElem? c)).1⟩
  subst p0
  exact (times_bd q.1 (bi rfl) q.2 oi.1).le (by decide)
/-- a product by one number, number by number -/
theorem one_times {p : Int} (hg : goodP p = true) {Qs Ts : List (Int × Int)} {inv : Int × Int} (okq : OkL p Qs) (okT : OkL p Ts) (oi : OkP p inv) (mv : MulV p Qs [inv] Ts) : ∀ i, Ts.getD i (0, 1) = timesP p (Qs.getD i (0, 1)) inv := fun i => by
  obtain ⟨R, iR, v, X⟩ := vp_ex hg
  have okat : ∀ {l : List (Int × Int)}, OkL p l → OkP p (l.getD i (0, 1)) := fun {l} ok => by
    rw [List.getD_eq_getElem?_getD]
    cases c : l[i]? with
    | none => exact ok01 hg
    | some b => exact ok b (List.mem_of_getElem? c)
  have e1 : ∀ j, j ≠ 0 → vg v [inv] j = 0 := fun j hj => vg_ge X (by simp; omega)
  refine X.inj (okat okT) ((okat okq).times hg oi) ?_
  rw [X.times (okat okq) oi]
  have m := mv R iR v X i
  show vg v Ts i = vg v Qs i * v inv
  rw [m]
  unfold cvv
  rw [sv_one (m := i) (by omega) (fun j h1 h2 => by rw [e1 (i - j) (by omega)]; grind), Nat.sub_self]
  rfl
def spLowG (C CP CF CNF COF : Addr) : Sp := fun vs H Q E => ∃ (a b : Addr) (p p' : Int) (prs prs' : List (Int × Int)), vs = [.ref a, .ref b] ∧ Pol C CP CF H a p prs ∧ Pol C CP CF H b p' prs' ∧ goodP p = true ∧ trimP prs = prs ∧ trimP prs' = prs' ∧ prs.length ≤ 100 ∧ prs'.length ≤ 100 ∧ (p ≠ p' → E (.ref COF) none H) ∧
  (p = p' → (∃ D D' b n : Nat, p = 0 → LowZ prs D b n ∧ LowZ prs' D' b n ∧ 1 ≤ n ∧ (2 * (b + 2) * 3 ^ n ≤ 2000 ∨ (prs'.length ≤ 1 ∧ n ≤ 6 ∧ b ≤ 100 ∧ 2 * (b + 2) * 3 ^ n ≤ 7000))) ∧ ((prs ≠ [] ∧ prs' ≠ [] ∧ (pget prs' 0).1 ≠ 0) ∨ NoFr CNF H E) ∧
    ∀ q x y ts bs H', Same H H' → H' q = some (.tup [.ref x, .ref y]) → Pol C CP CF H' x p ts → Pol C CP CF H' y p bs → trimP ts = ts → trimP bs = bs → ts.length ≤ prs.length → bs.length ≤ prs'.length → BdL p ts → BdL p bs → Crs p prs prs' ts bs → pget bs 0 = (1, 1) → Q (.ref q) H')
/-- the pole is ruled out -/
theorem no_pole {p : Int} (hg : goodP p = true) {prs' rs Qb : List (Int × Int)} (ok' : OkL p prs') (okr : OkL p rs) (okq : OkL p Qb) (dv : DivV p prs' rs Qb []) (h : (pget prs' 0).1 ≠ 0) : (pget Qb 0).1 ≠ 0 := fun z => by
  obtain ⟨R, iR, v, X⟩ := vp_ex hg
  have e := dv R iR v X 0
  have at0 : ∀ {l : List (Int × Int)}, OkL p l → OkP p (pget l 0) ∧ vg v l 0 = v (pget l 0) := fun {l} ok => by
    refine ⟨?_, rfl⟩
    cases l with
    | nil => exact ok01 hg
    | cons a r => exact ok a List.mem_cons_self
  obtain ⟨o1, e1⟩ := at0 okq
  obtain ⟨o2, e2⟩ := at0 ok'
  have z1 : v (pget Qb 0) = 0 := (v_zero X hg o1).mpr z
  have c0 : cvv (vg v Qb) (vg v rs) 0 = vg v Qb 0 * vg v rs 0 := by
    show (0 : R) + vg v Qb 0 * vg v rs (0 - 0) = _
    grind
  rw [c0, e1, z1, vg_ge X (l := []) (Nat.zero_le _), e2] at e
  exact h ((v_zero X hg o2).mp (by rw [e]; grind))
theorem mulG {K : PySem.W.Frag} {C CP CF COF x : Addr} {H : Hp} {p : Int} {inv : Int × Int} {v2 : V} {Qs : List (Int × Int)} {Q : VK} (px : Pol C CP CF H x p Qs) (hg : goodP p = true) (lQ : Qs.length ≤ 100) (gv : Giv K C H p v2 (some inv)) (oi : OkP p inv) (in0 : inv.1 ≠ 0) (ib : p = 0 → inv.2.natAbs < 2 ^ 1500 ∧ inv.1.natAbs < 2 ^ 1500) (bq : p = 0 → ∃ T : Nat, 1 ≤ T ∧ T < 2 ^ 3900 ∧ ∀ a ∈ Qs, a.2 ∣ (T : Int) ∧ a.1.natAbs < 2 ^ 5000) (k : ∀ y Ts H', Same H H' → Pol C CP CF H' y p Ts → trimP Ts = Ts → Ts.length ≤ Qs.length → (∀ i, Ts.getD i (0, 1) = timesP p (Qs.getD i (0, 1)) inv) → Q (.ref y) H') : spPMul K C CP CF COF [.ref x, v2] H Q (fun _ _ _ => False) := by
  have et : trimP [inv] = [inv] := trimP_keep (l := []) (a := inv) in0
  have T : ∃ T : Nat, 1 ≤ T ∧ T < 2 ^ 3900 ∧ (p = 0 → ∀ a ∈ Qs, a.2 ∣ (T : Int) ∧ a.1.natAbs < 2 ^ 5000) := by
    by_cases p0 : p = 0
    · obtain ⟨T, h1, h2, h3⟩ := bq p0
      exact ⟨T, h1, h2, fun _ => h3⟩
    · exact ⟨1, by decide, Nat.one_lt_two_pow (by decide), fun z => absurd z p0⟩
  obtain ⟨T, T1, T2, T3⟩ := T
  have o1 := oi.1
  have i39 : inv.2.natAbs < 2 ^ 3900 := by
    by_cases p0 : p = 0
    · exact Nat.lt_of_lt_of_le (ib p0).1 (Nat.pow_le_pow_right (by decide) (by decide))
    · rw [(oi.2.2 p0).1]
      exact Nat.one_lt_two_pow (by decide)
  refine ⟨x, v2, p, p, Qs, [inv], rfl, px, hg, .inr ⟨rfl, inv, gv, et.symm⟩, fun e => absurd rfl e, fun _ => ⟨⟨by omega, by simp, .inr (by simp), T, inv.2.natAbs, T1, by omega, T2, i39, T3, fun p0 a ha => ?_⟩, fun y Ts H' s po tt okT le mv => k y Ts H' s po tt ?_ (one_times hg px.okl okT oi mv)⟩⟩
  · rw [List.mem_singleton.mp ha]
    exact ⟨Int.dvd_natAbs.mpr (Int.dvd_refl _), Nat.lt_of_lt_of_le (ib p0).2 (Nat.pow_le_pow_right (by decide) (by decide))⟩
  · have : ([inv] : List (Int × Int)).length = 1 := rfl
    omega
theorem bq_of {prs rs Qs Rs : List (Int × Int)} {D1 D2 bb S : Nat} (s : D1 < 2 ^ 60 ∧ D2 < 2 ^ 221 ∧ S * (bb + 2) ≤ 1200) (q : DivQG 0 Qs Rs D1 D2 bb S) : ∃ T : Nat, 1 ≤ T ∧ T < 2 ^ 1400 ∧ ∀ a ∈ Qs, a.2 ∣ (T : Int) ∧ a.1.natAbs < 2 ^ 1450 := by
  obtain ⟨T, t1, t2, h, _⟩ := q rfl
  obtain ⟨s1, s2, s3⟩ := s
  have e : bb * S ≤ 1200 := by
    have := Nat.mul_le_mul_left S (show bb ≤ bb + 2 by omega)
    rw [Nat.mul_comm]
    omega
  refine ⟨T, t1, ?_, fun a ha => ⟨(h a ha).1, ?_⟩⟩
  · have h1 : 2 ^ (bb * S) * D1 ≤ 2 ^ 1200 * 2 ^ 60 := Nat.mul_le_mul (Nat.pow_le_pow_right (by decide) e) (Nat.le_of_lt s1)
    rw [← Nat.pow_add] at h1
    exact Nat.lt_of_le_of_lt (Nat.le_trans t2 h1) (Nat.pow_lt_pow_right (by decide) (by decide))
  · have h1 : 2 ^ (S * (bb + 2)) * D2 ≤ 2 ^ 1200 * 2 ^ 221 := Nat.mul_le_mul (Nat.pow_le_pow_right (by decide) s3) (Nat.le_of_lt s2)
    rw [← Nat.pow_add] at h1
    exact Nat.lt_of_le_of_lt (Nat.le_trans (h a ha).2 h1) (Nat.pow_lt_pow_right (by decide) (by decide))
theorem bq_wide {Qs : List (Int × Int)} (h : ∃ T : Nat, 1 ≤ T ∧ T < 2 ^ 1400 ∧ ∀ a ∈ Qs, a.2 ∣ (T : Int) ∧ a.1.natAbs < 2 ^ 1450) : ∃ T : Nat, 1 ≤ T ∧ T < 2 ^ 3900 ∧ ∀ a ∈ Qs, a.2 ∣ (T : Int) ∧ a.1.natAbs < 2 ^ 5000 := by
  obtain ⟨T, h1, h2, h3⟩ := h
  exact ⟨T, h1, Nat.lt_of_lt_of_le h2 (Nat.pow_le_pow_right (by decide) (by decide)), fun a ha => ⟨(h3 a ha).1, Nat.lt_of_lt_of_le (h3 a ha).2 (Nat.pow_le_pow_right (by decide) (by decide))⟩⟩
theorem bq_bd {p : Int} {Qs Rs : List (Int × Int)} {D1 D2 bb S : Nat} (p0 : p = 0) (s : D1 < 2 ^ 60 ∧ D2 < 2 ^ 221 ∧ S * (bb + 2) ≤ 1200) (ok : OkL p Qs) (q : DivQG p Qs Rs D1 D2 bb S) : ∀ a ∈ Qs, Bd 1450 a := fun a ha => by
  subst p0
  obtain ⟨T, h1, h2, h3⟩ := bq_of (prs := []) (rs := []) s q
  obtain ⟨dv, nm⟩ := h3 a ha
  have d := Nat.le_of_dvd (by omega) (Int.natAbs_dvd_natAbs.mpr dv)
  rw [Int.natAbs_natCast] at d
  exact ⟨nm, Nat.lt_of_le_of_lt d (Nat.lt_of_lt_of_le h2 (Nat.pow_le_pow_right (by decide) (by decide)))⟩
theorem nd_ne {p : Int} (hg : goodP p = true) {l inv : Int × Int} (ol : OkP p l) (l0 : l.1 ≠ 0) (oi : OkP p inv) (nd : ND p l.2 l.1 inv) : inv.1 ≠ 0 := fun z => by
  have h2 := ol.1
  by_cases p0 : p = 0
  · have v := (low_lowp l.2 l0).val
    rw [← nd.1 p0, z, Int.zero_mul] at v
    have := oi.1
    rcases Int.mul_eq_zero.mp v.symm with q | q <;> omega
  · obtain ⟨_, _, _, k, hk⟩ := nd.2 p0
    rw [z, Int.zero_mul, (ol.2.2 p0).1] at hk
    exact (goodD hg).2 ⟨-k, by rw [Int.mul_neg, Int.mul_comm]; omega⟩
section
variable {P : Program} {w : World} {K : PySem.W.Frag} {mg : Str → Option Value} {base : Heap}
theorem sc_low : FnScope ["top", "bottom", "common", "low_bottom", "first", "factor"] ["top", "bottom"] (defScope s_low) := ⟨rfl, rfl, rfl, by decide +kernel, rfl, by decide +kernel, by decide +kernel⟩
theorem ok_lowG {f C CP CF COF CNF CNN CNC CNP fNF fsame fpgcd fpfdiv fpmul fpcoef fover freq : Addr} {fd fdNF fdsame fdpgcd fdpfdiv fdpmul fdpcoef fdover fdreq : FuncData} (F : Fun K "_in_lowest_terms" "_in_lowest_terms" s_low f fd) (T : CTx K C) (Y : ITy K C) (Z : KZx K C) (TP : PTx K CP) (TF : FTx K CF)
    (G_same : FnOk P w K mg base (L2.CX P w) 3 fsame fdsame ["one", "other"] (spSame K CF COF)) (m_same : mg "check_same_field" = some (.ref fsame)) (k_same : PySem.W.keepIn K (.ref fsame) = true) (b_same : Binds K fdsame ["one", "other"] [])
    (m_NF : mg "NoFraction" = some (.ref CNF)) (NF : NTxF K "word" CNF fNF) (G_NF : FnOk P w K mg base CX0 1 fNF fdNF ["self", "word"] (spFInit "word" CNF)) (b_NF : Binds K fdNF ["self", "word"] [])
    (G_pgcd : FnOk P w K mg base (L2.CX P w) 13 fpgcd fdpgcd ["one", "other"] (spPGcd C CP CF COF)) (m_pgcd : mg "gcd_polys" = some (.ref fpgcd)) (k_pgcd : PySem.W.keepIn K (.ref fpgcd) = true) (b_pgcd : Binds K fdpgcd ["one", "other"] [])
    (sfP : PySem.W.selfFirst K CP = true) (O_pfdiv : OwnOp K CP fpfdiv (PySem.dunder Operator.FloorDiv.info.2)) (G_pfdiv : FnOk P w K mg base (L2.CX P w) 14 fpfdiv fdpfdiv ["self", "other"] (spPickG K C CP CF COF CNP 0)) (b_pfdiv : Binds K fdpfdiv ["self", "other"] [])
    (Me_pcoef : Meth K CP "coefficient" fpcoef) (G_pcoef : FnOk P w K mg base (L2.CX P w) 9 fpcoef fdpcoef ["self", "k"] (spPCoef K C CP CF CNC)) (b_pcoef : Binds K fdpcoef ["self", "k"] [])
    (O_pmul : OwnOp K CP fpmul (PySem.dunder Operator.Mult.info.2)) (NIp : IntOp K CP Operator.Mult.info.2) (NOp : OthOp K CP C Operator.Mult.info.2) (O_req : OwnOp K C freq "__eq__") (nf1 : PySem.W.notFirst K C (.type "int") = true) (G_req : FnOk P w K mg base CX0 2 freq fdreq ["self", "other"] (spR_eq K C)) (b_req : Binds K fdreq ["self", "other"] [])
    (G_pmul : FnOk P w K mg base (L2.CX P w) 13 fpmul fdpmul ["self", "other"] (spPMul K C CP CF COF)) (b_pmul : Binds K fdpmul ["self", "other"] []) (Me_over : Meth K CF "over" fover) (G_fover : FnOk P w K mg base (L2.CX P w) 9 fover fdover ["self", "one", "other"] (spOver K C CF CNN)) (b_fover : Binds K fdover ["self", "one", "other"] []) : FnOk P w K mg base (L2.CX P w) 15 f fd ["top", "bottom"] (spLowG C CP CF CNF COF) := by
  refine F.okX sc_low (fun vs H Q E h => ?_) (fun cdv A outer s H vs Q E hr h => ?_)
  · obtain ⟨a, b, p, p', prs, prs', rfl, _⟩ := h
    rfl
  · obtain ⟨a, b, p, p', prs, prs', rfl, PA, PB, hg, tA, tB, lA, lB, kO, kQ⟩ := h
    refine ⟨_, (pss_cons (ps_expr (pe_call (E := E) G_same (hr.mono (by decide)) rfl m_same k_same b_same .nil (passes_call (takes_of rfl rfl rfl rfl) fun _ _ _ _ h => h) (pa_cons (pv 0) (pa_cons (pv 1) pa_nil))))
      (pss_cons (ps_if (pt_cmpR op_lt (pe_fld (pv 1) rfl) pe_int (nomark _)) (pss_one (ps_raise rfl (takes_of rfl rfl rfl rfl) (pmk_oex NF.oex NF.iC NF.tI G_NF (hr.mono (by decide)) b_NF .nil pass0 rfl m_NF (pa_cons pe_str pa_nil)))) pss_nil)
      (pss_cons (ps_if (pt_cmpR op_lt (pe_fld (pv 0) rfl) pe_int (nomark _)) (pss_one (ps_raise rfl (takes_of rfl rfl rfl rfl) (pmk_oex NF.oex NF.iC NF.tI G_NF (hr.mono (by decide)) b_NF .nil pass0 rfl m_NF (pa_cons pe_str pa_nil)))) pss_nil)
      (pss_cons (ps_set (i := 2) sc_low.nd rfl (Or.inl rfl) (pe_call (E := fun _ _ _ => False) G_pgcd (hr.mono (by decide)) rfl m_pgcd k_pgcd b_pgcd .nil passL (pa_cons (pv 0) (pa_cons (pv 1) pa_nil))))
      (pss_cons (ps_set (i := 3) sc_low.nd rfl (Or.inl rfl) (pe_op (op_own2 (E := fun _ _ _ => False) (op := .FloorDiv) sfP O_pfdiv G_pfdiv (hr.mono (by decide)) b_pfdiv passL) (pv 1) (pv 2)))
      (pss_cons (ps_set (i := 4) sc_low.nd rfl (Or.inl rfl) (pe_meth (E := fun _ _ _ => False) (pv 3) TP.cl Me_pcoef G_pcoef (hr.mono (by decide)) b_pcoef .nil passL (pa_cons pe_int pa_nil)))
      (pss_cons (ps_if (pt_cmpR (op_or op_eq (op_ownEq O_req G_req (hr.mono (by decide)) b_req pass0)) (pv 4) pe_int (nomark _)) (pss_one (ps_raise rfl (takes_of rfl rfl rfl rfl) (pmk_oex NF.oex NF.iC NF.tI G_NF (hr.mono (by decide)) b_NF .nil pass0 rfl m_NF (pa_cons pe_str pa_nil)))) pss_nil)
      (pss_cons (ps_set (i := 5) sc_low.nd rfl (Or.inl rfl) (pe_meth (E := fun _ _ _ => False) (pe_fld (pv 0) rfl) TF.cl Me_over G_fover (hr.mono (by decide)) b_fover .nil passL (pa_cons pe_int (pa_cons (pv 4) pa_nil))))
      (pss_one (ps_ret (pe_tup (pa_cons (pe_op (op_or (op_ownI (E := fun _ _ _ => False) (op := .Mult) sfP O_pmul NIp G_pmul (hr.mono (by decide)) b_pmul passL) (op_ownO (E := fun _ _ _ => False) (op := .Mult) sfP O_pmul NOp G_pmul (hr.mono (by decide)) b_pmul passL)) (pe_op (op_own2 (E := fun _ _ _ => False) (op := .FloorDiv) sfP O_pfdiv G_pfdiv (hr.mono (by decide)) b_pfdiv passL) (pv 0) (pv 2)) (pv 5)) (pa_cons (pe_op (op_or (op_ownI (E := fun _ _ _ => False) (op := .Mult) sfP O_pmul NIp G_pmul (hr.mono (by decide)) b_pmul passL) (op_ownO (E := fun _ _ _ => False) (op := .Mult) sfP O_pmul NOp G_pmul (hr.mono (by decide)) b_pmul passL)) (pv 3) (pv 5)) pa_nil))))))))))))), ?_⟩
    have e24 : (sizeLine : Nat) = 16777216 := sizeLine_eq
    obtain ⟨da, fa, ca, ya, AO⟩ := id PA
    obtain ⟨db, fb, cb, yb, BO⟩ := id PB
    refine ⟨_, rfl, _, rfl, a, b, p, p', rfl, PA.hasF TP, PB.hasF TP, kO, fun e => ?_⟩
    subst e
    obtain ⟨⟨D, D', b0, n, sz⟩, kN, kQ⟩ := kQ rfl
    refine ⟨_, rfl, b, CP, db, _, _, rfl, BO.ob, TP.cl, TP.nD, plf_deg _ _ _, _, _, rfl, rfl, _, rfl, ?_⟩
    by_cases cB : prs' = []
    · refine itD (decide_eq_true (by rw [cB]; decide)) ?_
      exact ⟨by decide, (kN.resolve_left fun z => z.2.1 cB).go "bottom"⟩
    have nB : 0 < prs'.length := List.length_pos_iff.mpr cB
    refine itDn (fun z => by have := of_decide_eq_true z; omega) ?_
    refine ⟨_, rfl, a, CP, da, _, _, rfl, AO.ob, TP.cl, TP.nD, plf_deg _ _ _, _, _, rfl, rfl, _, rfl, ?_⟩
    by_cases cA : prs = []
    · refine itD (decide_eq_true (by rw [cA]; decide)) ?_
      exact ⟨by decide, (kN.resolve_left fun z => z.1 cA).go "top"⟩
    have nA : 0 < prs.length := List.length_pos_iff.mpr cA
    refine itDn (fun z => by have := of_decide_eq_true z; omega) ?_
    have okA := PA.okl
    have okB := PB.okl
    refine ⟨_, rfl, _, rfl, a, b, p, p, prs, prs', rfl, PA, PB, hg, tA, tB, lA, lB, fun e => absurd rfl e, fun _ => ⟨D, D', b0, n, fun z => ?_, fun g gs rs H1 s1 pg tr rg nds okr lr lg ng gb pdv => ?_⟩⟩
    · obtain ⟨⟨z1, z2, z3⟩, ⟨w1, w2, w3⟩, n1, hW⟩ := sz z
      have n100 : n ≤ 100 := by
        rcases hW with hW | ⟨_, h6, _⟩
        case inr => omega
        have n3 : n ≤ 3 ^ n := Nat.le_of_lt (Nat.lt_pow_self (by decide))
        have h5 : (3 : Nat) ^ n ≤ 500 := by
          have a3 : 2 * 2 * 3 ^ n ≤ 2 * (b0 + 2) * 3 ^ n := Nat.mul_le_mul_right _ (by omega)
          omega
        rcases Nat.lt_or_ge 6 n with h | h
        · have : (3 : Nat) ^ 7 ≤ 3 ^ n := Nat.pow_le_pow_right (by decide) h
          omega
        · omega
      have h7 : 2 * (b0 + 2) * 3 ^ n ≤ 7000 := by
        rcases hW with hW | ⟨_, _, _, h7⟩
        · omega
        · exact h7
      exact ⟨z1, w1, z3, w3, n1, n100, h7⟩
    have gne := ng (.inl cA)
    have nds := nds gne
    obtain ⟨ns, s0, ms, s2, W1, W2, pd1, pd2⟩ := pdv
    have rne : rs ≠ [] := fun z => by rw [z] at lr; exact gne (List.eq_nil_of_length_eq_zero lr.symm)
    have gl1 : prs'.length ≤ 1 → gs.length = 1 := fun l => by
      have g0 : 0 < gs.length := List.length_pos_iff.mpr gne
      rcases Nat.lt_or_ge prs'.length rs.length with h | h
      · exact absurd (exact_nil (Qs := []) hg okB W2 pd2 rg gne nds okr tr okB tB (fun R iR v X k => by
          have z : cvv (vg v []) (vg v rs) k = 0 := sv_zero fun j _ => by rw [vg_ge X (Nat.zero_le _)]; grind
          rw [z]; grind) h) cB
      · omega
    obtain ⟨A1, A2, ba, Sa, GA, sA, lSa⟩ := divG_gcd hg lA (fun z => ⟨(sz z).1, (sz z).2.2.1, (sz z).2.2.2.imp id fun q => ⟨gl1 q.1, q.2.1, q.2.2.1⟩⟩) rg gne nds okr lr gb
    obtain ⟨B1, B2, bb, Sb, GB, sB, lSb⟩ := divG_gcd hg lB (fun z => ⟨(sz z).2.1, (sz z).2.2.1, (sz z).2.2.2.imp id fun q => ⟨gl1 q.1, q.2.1, q.2.2.1⟩⟩) rg gne nds okr lr gb
    obtain ⟨dg, fg, cg, yg, GO⟩ := id pg
    have PB1 := PB.same s1
    obtain ⟨db1, fb1, cb1, yb1, BO1⟩ := id PB1
    refine ⟨_, rfl, _, rfl, b, g, db1, dg, _, _, rfl, rfl, BO1.ob, GO.ob, b, g, p, p, prs', rs, rfl, PB1, pg, hg, fun e => absurd rfl e, fun _ e => absurd e rne, fun _ _ => ⟨tr, lB, by omega, B1, B2, bb, Sb, GB, fun q y z Qb Rb H2 s2 hq py pz tQb tRb okQb okRb lRb lQb bQb dvb => fun q' y' z' eq hq' => ?_⟩⟩
    cases eq
    rw [hq] at hq'
    obtain ⟨rfl, rfl⟩ : y = y' ∧ z = z' := by injection hq' with h; injection h with h; injection h with h1 h2; injection h1 with h1; injection h2 with h2 _; injection h2 with h2; exact ⟨h1, h2⟩
    have rb0 := exact_nil hg okB W2 pd2 rg gne nds okr tr okRb tRb dvb lRb
    subst rb0
    obtain ⟨dq, fq, cq, yq, QO⟩ := id py
    refine ⟨_, rfl, y, dq, _, rfl, QO.ob, plf_no _ _ _ (by decide +kernel) (by decide +kernel) (by decide +kernel), y, p, Qb, .int 0, rfl, py, hg, by omega, IsTy.int 0, fun k => absurd (k 0 rfl) (by decide), fun k hk k0 fv H3 s3 fn => ?_⟩
    cases hk
    refine ⟨_, rfl, fn_eq0 nf1 fn ⟨_, rfl, ?_⟩⟩
    have ol : OkP p (pget Qb 0) := fn.okp
    have nQb : (pget Qb 0).1 ≠ 0 → pget Qb 0 ∈ Qb := fun h => by
      cases Qb with
      | nil => exact absurd rfl h
      | cons a r => exact List.mem_cons_self
    have s13 := (s1.trans s2).trans s3
    by_cases t0 : (pget Qb 0).1 = 0
    · refine itD (decide_eq_true t0) ⟨by decide, ((kN.resolve_left fun z => no_pole hg okB okr okQb dvb z.2.2 t0).mono s13).go "pole"⟩
    refine itDn (fun z => t0 (of_decide_eq_true z)) ?_
    have bqq : ∀ {prs Qs Rs : List (Int × Int)} {D1 D2 bb S : Nat} (z : p = 0), DivG p prs rs D1 D2 bb S → (D1 < 2 ^ 60 ∧ D2 < 2 ^ 221 ∧ S * (bb + 2) ≤ 1200) → DivQG p Qs Rs D1 D2 bb S → ∃ T : Nat, 1 ≤ T ∧ T < 2 ^ 3900 ∧ ∀ a ∈ Qs, a.2 ∣ (T : Int) ∧ a.1.natAbs < 2 ^ 5000 := fun z _ s q => by
      subst z
      exact bq_wide (bq_of (prs := []) (rs := []) s q)
    have fits : Fit (pget Qb 0).1 ∧ Fit (pget Qb 0).2 := by
      by_cases z : p = 0
      · have q := bQb
        subst z
        obtain ⟨T, h1, h2, h3⟩ := bq_of (prs := []) (rs := []) (sB rfl) q
        obtain ⟨dv, nm⟩ := h3 _ (nQb t0)
        have d := Nat.le_of_dvd (by omega) (Int.natAbs_dvd_natAbs.mpr dv)
        rw [Int.natAbs_natCast] at d
        exact ⟨Nat.lt_of_lt_of_le nm (Nat.pow_le_pow_right (by decide) (by decide)), Nat.lt_of_le_of_lt d (Nat.lt_of_lt_of_le h2 (Nat.pow_le_pow_right (by decide) (by decide)))⟩
      · obtain ⟨a2, a0, a1⟩ := ol.2.2 z
        have pl := prime_lt hg z
        have p14 : (pget Qb 0).1.natAbs < 2 ^ 14 := by
          have : (2 : Nat) ^ 14 = 16384 := by decide
          omega
        exact ⟨Nat.lt_of_lt_of_le p14 (Nat.pow_le_pow_right (by decide) (by decide)), by rw [a2]; exact fit_one⟩
    obtain ⟨f1, f2⟩ := fits
    generalize el : pget Qb 0 = l at *
    have el0 : Qb.getD 0 (0, 1) = l := el
    have cop : Int.gcd l.1 l.2 = 1 := by
      by_cases p0 : p = 0
      · exact ol.2.1 p0
      · rw [(ol.2.2 p0).1, Int.gcd_one]
    have npm : ∀ {z : Int}, p ≠ 0 → 0 < z → z < p → z % p ≠ 0 := fun {z} _ a b => by rw [Int.emod_eq_of_lt (by omega) b]; omega
    have one_p : p ≠ 0 → (1 : Int) % p ≠ 0 := fun p0 => npm p0 (by decide) (by have := (goodP_pos hg p0).1; omega)
    have AO3 := AO.same s13
    obtain ⟨dfa, hfa⟩ := id AO3.fl
    refine ⟨_, rfl, a, CP, da, _, _, rfl, AO3.ob, TP.cl, TP.nF, plf_field _ _ _, fa, dfa, _, rfl, hfa, pf_no _ (by decide +kernel), _, rfl, ?_⟩
    refine ⟨fa, .int 1, fv, p, rfl, AO3.fl, hg, .inr ⟨1, 1, .inr ⟨rfl, rfl⟩, Int.le_refl 1, fit_one, fit_one, fun p0 z => absurd z (one_p p0), fun _ => .inr ⟨l.1, l.2, fn.num, ol.1, cop, f1, f2, fun p0 => ⟨fun z => absurd z t0, fun _ z Tz Uz H4 lo rt s4 => ?_⟩, fun p0 z => ?_, fun p0 _ z => ?_, fun p0 _ _ r H4 r0 r1 hk s4 => ?_⟩⟩⟩
    · rw [Int.one_mul, Int.one_mul] at lo
      obtain ⟨dz, hz⟩ := id rt
      have bt := Nat.lt_of_le_of_lt lo.lt f2
      have bu := Nat.lt_of_le_of_lt lo.lu f1
      have gv : Giv K C H4 p (.ref z) (some (Tz, Uz)) := ⟨Tz, Uz, .inl ⟨z, rfl, rt⟩, lo.pos, bt, bu, fun _ => ⟨rfl, lo.cop⟩, fun n => absurd p0 n⟩
      have oi : OkP p (Tz, Uz) := ⟨lo.pos, fun _ => lo.cop, fun n => absurd p0 n⟩
      have in0 := nd_ne hg ol t0 oi ⟨fun _ => low_is t0 lo, fun n => absurd p0 n⟩
      have one1 := inv_one hg ol t0 oi ⟨fun _ => low_is t0 lo, fun n => absurd p0 n⟩
      rw [← el0] at one1
      have ib : p = 0 → Uz.natAbs < 2 ^ 1500 ∧ Tz.natAbs < 2 ^ 1500 := fun _ => ⟨bu, bt⟩
      have bdt : ∀ {prs Qs Rs Ts : List (Int × Int)} {D1 D2 bb S : Nat}, DivG p prs rs D1 D2 bb S → (p = 0 → D1 < 2 ^ 60 ∧ D2 < 2 ^ 221 ∧ S * (bb + 2) ≤ 1200) → OkL p Qs → DivQG p Qs Rs D1 D2 bb S → (∀ i, Ts.getD i (0, 1) = timesP p (Qs.getD i (0, 1)) _) → BdL p Ts := fun {prs Qs Rs Ts D1 D2 bb S} _ sz okq q tm => BdL.timesP okq oi tm (fun z => bq_bd z (sz z) okq q) (fun z => ⟨(ib z).2, (ib z).1⟩)
      have s14 := ((s1.trans s2).trans s3).trans s4
      have AO4 := AO.same s14
      have PA4 := PA.same s14
      have pg4 := pg.same ((s2.trans s3).trans s4)
      have GO4 := GO.same ((s2.trans s3).trans s4)
      have py4 := py.same (s3.trans s4)
      refine ⟨_, rfl, _, rfl, a, g, da, dg, _, _, rfl, rfl, AO4.ob, GO4.ob, a, g, p, p, prs, rs, rfl, PA4, pg4, hg, fun e => absurd rfl e, fun _ e => absurd e rne, fun _ _ => ⟨tr, lA, by omega, A1, A2, ba, Sa, GA, fun q5 y5 z5 Qt Rt H5 s5 hq5 py5 pz5 tQt tRt okQt okRt lRt lQt bQt dvt => fun q' y' z' eq hq' => ?_⟩⟩
      cases eq
      rw [hq5] at hq'
      obtain ⟨rfl, rfl⟩ : y5 = y' ∧ z5 = z' := by injection hq' with h; injection h with h; injection h with h1 h2; injection h1 with h1; injection h2 with h2 _; injection h2 with h2; exact ⟨h1, h2⟩
      obtain ⟨d5, f5, c5, w5, O5⟩ := id py5
      refine ⟨_, rfl, .inr ⟨y5, z, d5, dz, _, _, rfl, rfl, O5.ob, s5 _ _ hz, mulG py5 hg (by omega) (gv.same s5) oi in0 ib (fun z => bqq z GA (sA z) bQt) fun u1 T1 H6 s6 pu1 tu1 lu1 tm1 => ?_⟩⟩
      have py6 := (py4.same s5).same s6
      obtain ⟨d6, f6, c6, w6, O6⟩ := id py6
      refine ⟨_, rfl, _, rfl, .inr ⟨y, z, d6, dz, _, _, rfl, rfl, O6.ob, (s5.trans s6) _ _ hz, mulG py6 hg (by omega) ((gv.same s5).same s6) oi in0 ib (fun z => bqq z GB (sB z) bQb) fun u2 T2 H7 s7 pu2 tu2 lu2 tm2 => ?_⟩⟩
      refine ⟨(by show 2 ≤ sizeLine; omega), fun tq htq => ?_⟩
      have s8 := same_new (o := .tup [.ref u1, .ref u2]) (Same.refl H7) htq
      exact kQ tq u1 u2 T1 T2 _ ((((s14.trans s5).trans s6).trans s7).trans s8) upd_same ((pu1.same s7).same s8) (pu2.same s8) tu1 tu2 (by omega) (by omega) (bdt GA (sA) okQt bQt tm1) (bdt GB (sB) okQb bQb tm2) (crs_of hg okQt okQb oi (by rw [exact_nil hg okA W1 pd1 rg gne nds okr tr okRt tRt dvt lRt] at dvt; exact dvt) dvb tm1 tm2) ((tm2 0).trans one1)
    · rw [(ol.2.2 p0).1] at z
      exact absurd z (one_p p0)
    · obtain ⟨_, a0, a1⟩ := ol.2.2 p0
      exact absurd z (npm p0 (by omega) a1)
    · have pl := prime_lt hg p0
      have fr : Fit r := Nat.lt_of_lt_of_le (show r.natAbs < 2 ^ 14 by omega) (Nat.pow_le_pow_right (by decide) (by decide))
      obtain ⟨kk, hk⟩ := hk
      rw [Int.one_mul, Int.one_mul] at hk
      have gv : Giv K C H4 p (.int r) (some (r, 1)) := ⟨r, 1, .inr ⟨rfl, rfl⟩, Int.le_refl 1, fr, fit_one, fun n => absurd n p0, fun _ => ⟨one_p p0, rfl, r0, r1, 0, by omega⟩⟩
      have oi : OkP p (r, 1) := ⟨Int.le_refl 1, fun n => absurd n p0, fun _ => ⟨rfl, r0, r1⟩⟩
      have in0 := nd_ne hg ol t0 oi ⟨fun n => absurd n p0, fun _ => ⟨rfl, r0, r1, kk, hk⟩⟩
      have one1 := inv_one hg ol t0 oi ⟨fun n => absurd n p0, fun _ => ⟨rfl, r0, r1, kk, hk⟩⟩
      rw [← el0] at one1
      have ib : p = 0 → (1 : Int).natAbs < 2 ^ 1500 ∧ r.natAbs < 2 ^ 1500 := fun n => absurd n p0
      have bdt : ∀ {prs Qs Rs Ts : List (Int × Int)} {D1 D2 bb S : Nat}, DivG p prs rs D1 D2 bb S → (p = 0 → D1 < 2 ^ 60 ∧ D2 < 2 ^ 221 ∧ S * (bb + 2) ≤ 1200) → OkL p Qs → DivQG p Qs Rs D1 D2 bb S → (∀ i, Ts.getD i (0, 1) = timesP p (Qs.getD i (0, 1)) _) → BdL p Ts := fun {prs Qs Rs Ts D1 D2 bb S} _ sz okq q tm => BdL.timesP okq oi tm (fun z => bq_bd z (sz z) okq q) (fun z => ⟨(ib z).2, (ib z).1⟩)
      have s14 := ((s1.trans s2).trans s3).trans s4
      have AO4 := AO.same s14
      have PA4 := PA.same s14
      have pg4 := pg.same ((s2.trans s3).trans s4)
      have GO4 := GO.same ((s2.trans s3).trans s4)
      have py4 := py.same (s3.trans s4)
      refine ⟨_, rfl, _, rfl, a, g, da, dg, _, _, rfl, rfl, AO4.ob, GO4.ob, a, g, p, p, prs, rs, rfl, PA4, pg4, hg, fun e => absurd rfl e, fun _ e => absurd e rne, fun _ _ => ⟨tr, lA, by omega, A1, A2, ba, Sa, GA, fun q5 y5 z5 Qt Rt H5 s5 hq5 py5 pz5 tQt tRt okQt okRt lRt lQt bQt dvt => fun q' y' z' eq hq' => ?_⟩⟩
      cases eq
      rw [hq5] at hq'
      obtain ⟨rfl, rfl⟩ : y5 = y' ∧ z5 = z' := by injection hq' with h; injection h with h; injection h with h1 h2; injection h1 with h1; injection h2 with h2 _; injection h2 with h2; exact ⟨h1, h2⟩
      obtain ⟨d5, f5, c5, w5, O5⟩ := id py5
      refine ⟨_, rfl, .inl ⟨y5, r, d5, _, rfl, rfl, O5.ob, mulG py5 hg (by omega) (gv.same s5) oi in0 ib (fun z => bqq z GA (sA z) bQt) fun u1 T1 H6 s6 pu1 tu1 lu1 tm1 => ?_⟩⟩
      have py6 := (py4.same s5).same s6
      obtain ⟨d6, f6, c6, w6, O6⟩ := id py6
      refine ⟨_, rfl, _, rfl, .inl ⟨y, r, d6, _, rfl, rfl, O6.ob, mulG py6 hg (by omega) ((gv.same s5).same s6) oi in0 ib (fun z => bqq z GB (sB z) bQb) fun u2 T2 H7 s7 pu2 tu2 lu2 tm2 => ?_⟩⟩
      refine ⟨(by show 2 ≤ sizeLine; omega), fun tq htq => ?_⟩
      have s8 := same_new (o := .tup [.ref u1, .ref u2]) (Same.refl H7) htq
      exact kQ tq u1 u2 T1 T2 _ ((((s14.trans s5).trans s6).trans s7).trans s8) upd_same ((pu1.same s7).same s8) (pu2.same s8) tu1 tu2 (by omega) (by omega) (bdt GA (sA) okQt bQt tm1) (bdt GB (sB) okQb bQb tm2) (crs_of hg okQt okQb oi (by rw [exact_nil hg okA W1 pd1 rg gne nds okr tr okRt tRt dvt lRt] at dvt; exact dvt) dvb tm1 tm2) ((tm2 0).trans one1)
end
end Sq

namespace Sq
open PySem L2 PyProof.Rows
abbrev s_frinit : Stmt := inClass (top 59) 0
def frf (fx u v t : Addr) : List (Str × V) := putF "degrees" (.ref t) (putF "bottom" (.ref v) (putF "top" (.ref u) (putF "field" (.ref fx) [])))
/-- a fraction at its address -/
def Frc (C CP CF CFr : Addr) (H : Hp) (x : Addr) (p : Int) (ts bs : List (Int × Int)) : Prop := ∃ dx fx u v t, H x = some (.ins CFr dx (frf fx u v t)) ∧ FldAt CF H fx p ∧ Pol C CP CF H u p ts ∧ Pol C CP CF H v p bs ∧ H t = some (.tup [.int ((ts.length : Int) - 1), .int ((bs.length : Int) - 1)])
theorem Frc.same {C CP CF CFr : Addr} {H H' : Hp} {x : Addr} {p : Int} {ts bs : List (Int × Int)} (s : Same H H') (h : Frc C CP CF CFr H x p ts bs) : Frc C CP CF CFr H' x p ts bs := by
  obtain ⟨dx, fx, u, v, t, a, b, c, d, e⟩ := h
  exact ⟨dx, fx, u, v, t, s _ _ a, b.same s, c.same s, d.same s, s _ _ e⟩
theorem frf_f (fx u v t : Addr) : (frf fx u v t).lookup ("field" : Str) = some (.ref fx) := by
  unfold frf
  rw [lookup_putF, if_neg (by decide +kernel), lookup_putF, if_neg (by decide +kernel), lookup_putF, if_neg (by decide +kernel), lookup_putF, if_pos rfl]
theorem frf_t (fx u v t : Addr) : (frf fx u v t).lookup ("top" : Str) = some (.ref u) := by
  unfold frf
  rw [lookup_putF, if_neg (by decide +kernel), lookup_putF, if_neg (by decide +kernel), lookup_putF, if_pos rfl]
theorem frf_b (fx u v t : Addr) : (frf fx u v t).lookup ("bottom" : Str) = some (.ref v) := by
  unfold frf
  rw [lookup_putF, if_neg (by decide +kernel), lookup_putF, if_pos rfl]
theorem frf_d (fx u v t : Addr) : (frf fx u v t).lookup ("degrees" : Str) = some (.ref t) := by
  unfold frf
  rw [lookup_putF, if_pos rfl]
theorem Pol.but {C CP CF D x y dy : Addr} {H H' : Hp} {p : Int} {prs : List (Int × Int)} (hy : H y = some (.ins D dy [])) (b : But y H H') (h : Pol C CP CF H x p prs) : Pol C CP CF H' x p prs := by
  obtain ⟨dx, fx, ct, ys, PO⟩ := h
  refine ⟨dx, fx, ct, ys, b _ _ PO.ob fun e => ?_, PO.fl.but hy b, b _ _ PO.co fun e => ?_, PO.nu.but hy b⟩
  · have := PO.ob
    rw [e, hy] at this
    cases this
  · have := PO.co
    rw [e, hy] at this
    cases this
/-- a class of objects whose fields are plain -/
structure FrTx (K : PySem.W.Frag) (C : Addr) : Prop where
  cl : Cls K C
  nF : NoAttr K C "field"
  nT : NoAttr K C "top"
  nB : NoAttr K C "bottom"
  nD : NoAttr K C "degrees"
def spFrInitG (C CP CF CFr CNF COF : Addr) : Sp := fun vs H Q E => ∃ (x dx a b : Addr) (p p' : Int) (prs prs' : List (Int × Int)), vs = [.ref x, .ref a, .ref b] ∧ H x = some (.ins CFr dx []) ∧ Pol C CP CF H a p prs ∧ Pol C CP CF H b p' prs' ∧ goodP p = true ∧ trimP prs = prs ∧ trimP prs' = prs' ∧ prs.length ≤ 100 ∧ prs'.length ≤ 100 ∧ (p ≠ p' → E (.ref COF) none H) ∧
  (p = p' → (∃ D D' b n : Nat, p = 0 → LowZ prs D b n ∧ LowZ prs' D' b n ∧ 1 ≤ n ∧ (2 * (b + 2) * 3 ^ n ≤ 2000 ∨ (prs'.length ≤ 1 ∧ n ≤ 6 ∧ b ≤ 100 ∧ 2 * (b + 2) * 3 ^ n ≤ 7000))) ∧ ((prs ≠ [] ∧ prs' ≠ [] ∧ (pget prs' 0).1 ≠ 0) ∨ NoFr CNF H E) ∧
    ∀ H', But x H H' → ∀ ts bs, Frc C CP CF CFr H' x p ts bs → trimP ts = ts → trimP bs = bs → ts.length ≤ prs.length → bs.length ≤ prs'.length → BdL p ts → BdL p bs → Crs p prs prs' ts bs → pget bs 0 = (1, 1) → Q .non H')
section
variable {P : Program} {w : World} {K : PySem.W.Frag} {mg : Str → Option Value} {base : Heap}
theorem sc_frinit : FnScope ["self", "top", "bottom", "low_top", "low_bottom"] ["self", "top", "bottom"] (defScope s_frinit) := ⟨rfl, rfl, rfl, by decide +kernel, rfl, by decide +kernel, by decide +kernel⟩
theorem ok_frinitG {f C CP CF CFr CNF COF CSt flow : Addr} {fd fdlow : FuncData} (F : Fun K "__init__" "Fraction.__init__" s_frinit f fd) (I : ITx mg) (TP : PTx K CP) (YP : IPyP K C CP) (TFr : FrTx K CFr) (m_St : mg "Settled" = some (.ref CSt)) (kS : PySem.W.kitOne K (.ref CP) (.ref CSt) = some false)
    (G_low : FnOk P w K mg base (L2.CX P w) 15 flow fdlow ["top", "bottom"] (spLowG C CP CF CNF COF)) (m_low : mg "_in_lowest_terms" = some (.ref flow)) (k_low : PySem.W.keepIn K (.ref flow) = true) (b_low : Binds K fdlow ["top", "bottom"] []) : FnOk P w K mg base (L2.CX P w) 16 f fd ["self", "top", "bottom"] (spFrInitG C CP CF CFr CNF COF) := by
  refine F.okX sc_frinit (fun vs H Q E h => ?_) (fun cdv A outer s H vs Q E hr h => ?_)
  · obtain ⟨x, dx, a, b, p, p', prs, prs', rfl, _⟩ := h
    rfl
  · obtain ⟨x, dx, a, b, p, p', prs, prs', rfl, hx, PA, PB, hg, tA, tB, lA, lB, kO, kQ⟩ := h
    refine ⟨_, (pss_cons (ps_if (pt_val (pe_callB call_isi (by rfl) I.b_isinstance (by decide +kernel) (pa_cons (pv 2) (pa_cons (pe_glob (v := .ref CSt) rfl m_St rfl) pa_nil)))) (pss_one ps_never) (pss_one (ps_asg (pe_call (E := E) G_low (hr.mono (by decide)) rfl m_low k_low b_low .nil (passes_call (takes_of rfl rfl rfl rfl) fun _ _ _ _ h => h) (pa_cons (pv 1) (pa_cons (pv 2) pa_nil))) (pg_tup (by rfl) (pgs_cons (pg_name (i := 3) sc_frinit.nd rfl (Or.inl rfl)) (pgs_cons (pg_name (i := 4) sc_frinit.nd rfl (Or.inl rfl)) pgs_nil))))))
      (pss_cons (ps_fld (pv 0) (pe_fld (pv 3) rfl) rfl)
      (pss_cons (ps_fld (pv 0) (pv 3) rfl)
      (pss_cons (ps_fld (pv 0) (pv 4) rfl)
      (pss_one (ps_fld (pv 0) (pe_tup (pa_cons (pe_fld (pv 3) rfl) (pa_cons (pe_fld (pv 4) rfl) pa_nil))) rfl)))))), ?_⟩
    have e24 : (sizeLine : Nat) = 16777216 := sizeLine_eq
    obtain ⟨da, fa, ca, ya, AO⟩ := id PA
    obtain ⟨db, fb, cb, yb, BO⟩ := id PB
    refine ⟨_, rfl, _, _, _, _, false, rfl, .own CSt, .base (.ins BO.ob TP.cl YP.ha YP.hn YP.htk YP.hm), kS, _, rfl, iteF ?_⟩
    refine ⟨_, rfl, _, rfl, a, b, p, p', prs, prs', rfl, PA, PB, hg, tA, tB, lA, lB, kO, fun e => ⟨(kQ e).1, (kQ e).2.1, fun q u v ts bs H1 s1 hq pu pv tts tbs lts lbs bts bbs crs one => ?_⟩⟩
    subst e
    refine ⟨q, _, rfl, SqT.of hq, rfl, _, _, rfl, _, _, rfl, rfl, ?_⟩
    have hx1 := s1 _ _ hx
    obtain ⟨du, fu, cu, yu, UO⟩ := id pu
    obtain ⟨dv, fv, cv, yv, VO⟩ := id pv
    have ux : u ≠ x := fun e => by
      have := UO.ob
      rw [e, hx1] at this
      cases this
    have vx : v ≠ x := fun e => by
      have := VO.ob
      rw [e, hx1] at this
      cases this
    refine ⟨_, rfl, u, CP, du, _, _, rfl, UO.ob, TP.cl, TP.nF, plf_field _ _ _, _, rfl, x, CFr, dx, _, rfl, hx1, TFr.cl, TFr.nF, (by show 0 < 1000; decide), ?_⟩
    refine ⟨_, rfl, _, rfl, x, CFr, dx, _, rfl, upd_same, TFr.cl, TFr.nT, (by show 1 < 1000; decide), ?_⟩
    refine ⟨_, rfl, _, rfl, x, CFr, dx, _, rfl, upd_same, TFr.cl, TFr.nB, (by show 2 < 1000; decide), ?_⟩
    refine ⟨_, rfl, u, CP, du, _, _, rfl, (upd_ne ux).trans ((upd_ne ux).trans ((upd_ne ux).trans UO.ob)), TP.cl, TP.nD, plf_deg _ _ _, _, rfl, v, CP, dv, _, _, rfl, (upd_ne vx).trans ((upd_ne vx).trans ((upd_ne vx).trans VO.ob)), TP.cl, TP.nD, plf_deg _ _ _, (by show 2 ≤ sizeLine; omega), fun t ht => ?_⟩
    have tx : x ≠ t := fun e => by
      rw [← e, upd_same] at ht
      cases ht
    refine ⟨_, rfl, x, CFr, dx, _, rfl, (upd_ne tx).trans upd_same, TFr.cl, TFr.nD, (by show 3 < 1000; decide), (kQ rfl).2.2 _ ?_ _ _ ⟨_, _, _, _, t, upd_same, ?_, ?_, ?_, (upd_ne tx.symm).trans upd_same⟩ tts tbs lts lbs bts bbs crs one⟩
    · exact (((((Same.but s1).upd).upd).upd).trans (Same.but (same_new (Same.refl _) ht))).upd
    · exact UO.fl.but hx1 (((((But.refl x H1).upd).upd).upd).trans (Same.but (same_new (Same.refl _) ht))).upd
    · exact pu.but hx1 (((((But.refl x H1).upd).upd).upd).trans (Same.but (same_new (Same.refl _) ht))).upd
    · exact pv.but hx1 (((((But.refl x H1).upd).upd).upd).trans (Same.but (same_new (Same.refl _) ht))).upd

abbrev s_stinit : Stmt := inClass (top 44) 0
def stf (b : Addr) : List (Str × V) := putF "poly" (.ref b) []
def spStInit (CSt : Addr) : Sp := fun vs H Q _ => ∃ (y dy b : Addr), vs = [.ref y, .ref b] ∧ H y = some (.ins CSt dy []) ∧ ∀ H', But y H H' → H' y = some (.ins CSt dy (stf b)) → Q .non H'
structure STx2 (K : PySem.W.Frag) (C : Addr) : Prop where
  cl : Cls K C
  nP : NoAttr K C "poly"
  ha : PySem.W.findIn K (.ref C) "__class__" = some (some (.builtin "object.__class__"))
  hn : PySem.W.specialIn K (.builtin "object.__class__") "__get__" = some (some (.builtin "getset_descriptor.__get__"))
  htk : PySem.W.takesIn K (.builtin "object.__class__") = some true
  hm : PySem.W.mroIn K C (.type "object") = some true
theorem sc_stinit : FnScope ["self", "poly"] ["self", "poly"] (defScope s_stinit) := ⟨rfl, rfl, rfl, by decide +kernel, rfl, by decide +kernel, by decide +kernel⟩
theorem ok_stinit {f CSt : Addr} {fd : FuncData} (F : Fun K "__init__" "Settled.__init__" s_stinit f fd) (TS : STx2 K CSt) : FnOk P w K mg base CX0 1 f fd ["self", "poly"] (spStInit CSt) := by
  refine F.ok sc_stinit (fun vs H Q E h => ?_) (fun cdv A outer s H vs Q E hr h => ?_)
  · obtain ⟨y, dy, b, rfl, _⟩ := h
    rfl
  · obtain ⟨y, dy, b, rfl, hy, k⟩ := h
    refine ⟨_, (pss_one (ps_fld (pv 0) (pv 1) rfl)), ?_⟩
    exact ⟨_, rfl, _, rfl, y, CSt, dy, _, rfl, hy, TS.cl, TS.nP, (by show 0 < 1000; decide), k _ (But.refl y H).upd upd_same⟩
/-- Fraction(top, Settled(bottom)) -/
def spFrInitS (C CP CF CFr CSt : Addr) : Sp := fun vs H Q _ => ∃ (x dx a s ds b : Addr) (p : Int) (prs prs' : List (Int × Int)), vs = [.ref x, .ref a, .ref s] ∧ H x = some (.ins CFr dx []) ∧ H s = some (.ins CSt ds (stf b)) ∧ Pol C CP CF H a p prs ∧ Pol C CP CF H b p prs' ∧
    ∀ H', But x H H' → Frc C CP CF CFr H' x p prs prs' → Q .non H'
theorem ok_frinitS {f C CP CF CFr CSt : Addr} {fd : FuncData} (F : Fun K "__init__" "Fraction.__init__" s_frinit f fd) (I : ITx mg) (TP : PTx K CP) (TFr : FrTx K CFr) (m_St : mg "Settled" = some (.ref CSt)) (TS : STx2 K CSt) : FnOk P w K mg base CX0 16 f fd ["self", "top", "bottom"] (spFrInitS C CP CF CFr CSt) := by
  refine F.ok sc_frinit (fun vs H Q E h => ?_) (fun cdv A outer s H vs Q E hr h => ?_)
  · obtain ⟨x, dx, a, s, ds, b, p, prs, prs', rfl, _⟩ := h
    rfl
  · obtain ⟨x, dx, a, s, ds, b, p, prs, prs', rfl, hx, hs, PA, PB, kQ⟩ := h
    refine ⟨_, (pss_cons (ps_if (pt_val (pe_callB call_isi (by rfl) I.b_isinstance (by decide +kernel) (pa_cons (pv 2) (pa_cons (pe_glob (v := .ref CSt) rfl m_St rfl) pa_nil)))) (pss_one (ps_par (i := 3) (j := 4) (by rfl) sc_frinit.nd rfl rfl (by decide) rfl rfl (pa_cons (pv 1) (pa_cons (pe_fld (pv 2) rfl) pa_nil)) (by rfl))) (pss_one ps_never))
      (pss_cons (ps_fld (pv 0) (pe_fld (pv 3) rfl) rfl)
      (pss_cons (ps_fld (pv 0) (pv 3) rfl)
      (pss_cons (ps_fld (pv 0) (pv 4) rfl)
      (pss_one (ps_fld (pv 0) (pe_tup (pa_cons (pe_fld (pv 3) rfl) (pa_cons (pe_fld (pv 4) rfl) pa_nil))) rfl)))))), ?_⟩
    have e24 : (sizeLine : Nat) = 16777216 := sizeLine_eq
    have sn : s ≠ x := fun e => by
      rw [e, hx] at hs
      injection hs with hs
      injection hs with _ _ e3
      cases e3
    refine ⟨_, rfl, _, _, _, _, true, rfl, .own CSt, .base (.ins hs TS.cl TS.ha TS.hn TS.htk TS.hm), kit_self, _, rfl, iteT ?_⟩
    refine ⟨_, rfl, _, rfl, s, CSt, ds, _, _, rfl, hs, TS.cl, TS.nP, (by unfold stf; rw [lookup_putF, if_pos rfl]), ?_⟩
    refine ⟨_, _, rfl, ?_⟩
    have pu := PA
    have pv := PB
    have hx1 := hx
    obtain ⟨du, fu, cu, yu, UO⟩ := id pu
    obtain ⟨dv, fv, cv, yv, VO⟩ := id pv
    have ux : a ≠ x := fun e => by
      have := UO.ob
      rw [e, hx1] at this
      cases this
    have vx : b ≠ x := fun e => by
      have := VO.ob
      rw [e, hx1] at this
      cases this
    refine ⟨_, rfl, a, CP, du, _, _, rfl, UO.ob, TP.cl, TP.nF, plf_field _ _ _, _, rfl, x, CFr, dx, _, rfl, hx1, TFr.cl, TFr.nF, (by show 0 < 1000; decide), ?_⟩
    refine ⟨_, rfl, _, rfl, x, CFr, dx, _, rfl, upd_same, TFr.cl, TFr.nT, (by show 1 < 1000; decide), ?_⟩
    refine ⟨_, rfl, _, rfl, x, CFr, dx, _, rfl, upd_same, TFr.cl, TFr.nB, (by show 2 < 1000; decide), ?_⟩
    refine ⟨_, rfl, a, CP, du, _, _, rfl, (upd_ne ux).trans ((upd_ne ux).trans ((upd_ne ux).trans UO.ob)), TP.cl, TP.nD, plf_deg _ _ _, _, rfl, b, CP, dv, _, _, rfl, (upd_ne vx).trans ((upd_ne vx).trans ((upd_ne vx).trans VO.ob)), TP.cl, TP.nD, plf_deg _ _ _, (by show 2 ≤ sizeLine; omega), fun t ht => ?_⟩
    have tx : x ≠ t := fun e => by
      rw [← e, upd_same] at ht
      cases ht
    refine ⟨_, rfl, x, CFr, dx, _, rfl, (upd_ne tx).trans upd_same, TFr.cl, TFr.nD, (by show 3 < 1000; decide), kQ _ ?_ ⟨_, _, _, _, t, upd_same, ?_, ?_, ?_, (upd_ne tx.symm).trans upd_same⟩⟩
    · exact (((((But.refl x H).upd).upd).upd).trans (Same.but (same_new (Same.refl _) ht))).upd
    · exact UO.fl.but hx1 (((((But.refl x H).upd).upd).upd).trans (Same.but (same_new (Same.refl _) ht))).upd
    · exact pu.but hx1 (((((But.refl x H).upd).upd).upd).trans (Same.but (same_new (Same.refl _) ht))).upd
    · exact pv.but hx1 (((((But.refl x H).upd).upd).upd).trans (Same.but (same_new (Same.refl _) ht))).upd
end
end Sq

-- needs HandS.OwnEq
-- needs OpenK.KOps
namespace PySem.Sqt
open PySem PySem.SeqAt GQ
open MeetsSeq MeetsSeq2 MeetsSeq3 SeqRoads2
section
variable {prog : Program} {w : World} {A : Around} {R : Result → Shared → Prop}
/-- two tuples of any lengths, each two items seen to be alike or not -/
theorem tup_sees (p q : Addr) (us vs : Array Value) (k k2 : Nat) (e1 e2 : Option Addr) (z1 z2 : Array (Option Value)) (J : Nat → Shared → Prop)
    (step : ∀ j (g1 : j < us.size) (g2 : j < vs.size) t, J j t →
      wpAny (model prog w) A.in1 (eqBool us[j] vs[j]) (fun b t' => (b = true ∧ J (j + 1) t') ∨ (b = false ∧ R (.ok (.ret (.bool false))) t')) (fun e t' => R (.error e) t') t)
    (stop : ∀ t, J (min us.size vs.size) t → R (.ok (.ret (.bool (us.size == vs.size)))) t) {t : Shared}
    (hp1 : t.heap.get? p = some { cls := .type "tuple", dict := e1, data := .seq us k, slots := z1 })
    (hq1 : t.heap.get? q = some { cls := .type "tuple", dict := e2, data := .seq vs k2, slots := z2 }) (start : J 0 t) :
    wpAny (model prog w) A.in1 (Builtin.«tuple.__eq__» ⟨[.ref p, .ref q], []⟩) (FinOf prog w A R) (fun e t' => R (.error e) t') t := by
  have sub2 := AutoSeq1.sub_tuple_tuple
  have hlen : (us.toList.zip vs.toList).length = min us.size vs.size := by simp
  have start' := start
  obtain ⟨hp, g, d, tk, os⟩ := t
  wp_walk using AutoSeq1.wpAny_loadPart' hp1, AutoSeq1.wpAny_loadPart' hq1, wpAny_forIn_list _ (fun left acc t' => acc.1 = none ∧ ∃ j, left = (us.toList.zip vs.toList).drop j ∧ j ≤ min us.size vs.size ∧ J j t') _
  case turn =>
    rintro ⟨a, b⟩ left acc t' ⟨hacc, j, hdrop, hj, hJ⟩
    have jlt : j < (us.toList.zip vs.toList).length := by
      by_cases c : j < (us.toList.zip vs.toList).length
      · exact c
      · rw [List.drop_of_length_le (by omega)] at hdrop
        cases hdrop
    have g1 : j < us.size := by omega
    have g2 : j < vs.size := by omega
    rw [List.drop_eq_getElem_cons jlt] at hdrop
    injection hdrop with hab hleft
    have ea : a = us[j] := by simpa using congrArg Prod.fst hab
    have eb : b = vs[j] := by simpa using congrArg Prod.snd hab
    subst ea eb
    refine wpAny_bind (wpAny_mono (step j g1 g2 t' hJ) (fun b t2 hb => ?_) fun _ _ z => z)
    rcases hb with ⟨rfl, hb⟩ | ⟨rfl, hb⟩
    · wp_walk
      exact ⟨rfl, j + 1, hleft, by omega, hb⟩
    · wp_walk
      exact hb
  case fin =>
    rintro ⟨acc1, acc2⟩ t' ⟨hacc, j, hdrop, hj, hJ⟩
    simp only at hacc
    subst hacc
    have jge : min us.size vs.size ≤ j := by
      by_cases c : j < (us.toList.zip vs.toList).length
      · rw [List.drop_eq_getElem_cons c] at hdrop
        cases hdrop
      · omega
    have ej : j = min us.size vs.size := by omega
    have fin2 : R (.ok (.ret (.bool (us.size == vs.size)))) t' := stop t' (ej ▸ hJ)
    wp_walk
    simpa [Builtin.Tuple.tupleCompareSizes] using fin2
  case h =>
    exact ⟨rfl, 0, rfl, Nat.zero_le _, start'⟩
end
end PySem.Sqt
namespace Sq
open PySem L2 PyProof.Rows PySem.Spec
section
variable {X : Cx} {CX : CXT} {k n : Nat} {f C : Addr} {fd : FuncData} {ps : List Str} {sp : Sp} {E : XK}
/-- == says what D says -/
def EqB (X : Cx) (n : Nat) (D : V → V → Hp → Bool → Prop) : Prop :=
  ∀ (A : Around) (pins : List (Addr × Obj)) (s : Shared) (σ : L2.St) (H : Hp) (x y : V) (u v : Value) (b : Bool), Sub X n A → Inv X pins σ H s → RelV x u → RelV y v → D x y H b →
    wpAny (model X.prog X.w) A (eqBool u v) (fun r s' => r = b ∧ ∃ H', Inv X pins σ H' s' ∧ Ext H H') X.xe s
/-- two numbers of a field -/
def DNB (C : Addr) (p : Int) : V → V → Hp → Bool → Prop := fun x y H b => ∃ u v : Int × Int, FN C H p x u.1 u.2 ∧ FN C H p y v.1 v.2 ∧ b = decide (u = v)
theorem rat_one {C : Addr} {H : Hp} {r : Addr} {t u t' u' : Int} (h : RatAt C H r t u) (g : RatAt C H r t' u') : t = t' ∧ u = u' := by
  obtain ⟨d, h⟩ := h
  obtain ⟨d', g⟩ := g
  rw [h] at g
  injection g with g
  injection g with _ _ g
  have a := congrArg (fun l : List (Str × V) => l.lookup ("top" : Str)) g
  have b := congrArg (fun l : List (Str × V) => l.lookup ("bottom" : Str)) g
  simp only [rf_top, rf_bottom] at a b
  injection a with a
  injection a with a
  injection b with b
  injection b with b
  exact ⟨a, b⟩
theorem eqB_num {p : Int} (O : OwnOp X.K C f "__eq__") (G : FnOk X.prog X.w X.K X.mg X.base CX0 2 f fd ["self", "other"] (spR_eq X.K C)) (hb : Binds X.K fd ["self", "other"] []) : EqB X 2 (DNB C p) := by
  intro A pins s σ H x y u v b sb I rx ry d
  obtain ⟨a, c, ha, hc, rfl⟩ := d
  rcases ha with ⟨p0, ⟨r, rfl, R⟩, _⟩ | ⟨p0, rfl, ua, _⟩
  · rcases hc with ⟨_, ⟨r', rfl, R'⟩, _⟩ | ⟨q, _⟩
    · cases rx
      cases ry
      by_cases hab : r = r'
      · subst hab
        obtain ⟨e1, e2⟩ := rat_one R R'
        have e : decide (a = c) = true := decide_eq_true (Prod.ext e1 e2)
        rw [e]
        exact SeqAt.EqAt.same (A := A) (s := s) (.ref r) X.prog X.w X.xe _ ⟨rfl, H, I, Ext.rfl'⟩
      · refine GQ.eqBool_refG hab ?_
        obtain ⟨dx, ha⟩ := id R
        obtain ⟨dy, hb'⟩ := id R'
        obtain ⟨mA, J, _⟩ := ins_get I.hok ha
        obtain ⟨mB, J', _⟩ := ins_get I.hok hb'
        obtain ⟨od, J, _⟩ := J.look
        obtain ⟨od', J', _⟩ := J'.look
        obtain ⟨m, hF⟩ := I.fr
        refine PySem.W.cmp_K (op := .Eq) (tb := .ref C) sb.room.units0 hF I.ok.mod.kin J J'.type (by simp [PySem.W.notFirst]) O.at_ O.fn ?_
        have hsp : spR_eq X.K C [.ref r, .ref r'] H (fun v H' => v = .bl (decide (a = c)) ∧ Ext H H') (fun _ _ _ => False) := ⟨r, .ref r', a.1, a.2, rfl, R, .inl ⟨r', c.1, c.2, rfl, R', by
          refine ⟨?_, Ext.rfl'⟩
          have e : decide (a = c) = decide (a.1 = c.1 ∧ a.2 = c.2) := by
            by_cases z : a = c
            · rw [z]
              simp
            · rw [decide_eq_false z, decide_eq_false fun e => z (Prod.ext e.1 e.2)]
          rw [e]⟩⟩
        have e0 : Env0 X.prog X.w X.K X.mg X.base A X.stack s H := by
          have e := I.env0
          exact ⟨by rw [sb.fr]; exact e.frames, e.mod, e.bs, e.bsz, e.funs, e.frf, e.hok, e.bare⟩
        have r2 : Vals [V.ref r, V.ref r'] [Value.ref r, Value.ref r'] := .cons rfl (.cons rfl .nil)
        refine wpAny_call (codeAny_mono (G.run A X.stack s H ⟨[.ref r, .ref r'], []⟩ [.ref r, .ref r'] [.ref r, .ref r'] _ _ sb.room e0 (by
          have := hb s [.ref r, .ref r'] I.kIn rfl
          simpa using this) r2 hsp) fun q s' hq => ?_)
        cases q with
        | error e => exact pass0 pins σ H s e s' I hq
        | ok fl =>
          cases fl with
          | ret w =>
            obtain ⟨z, H', I', rz, ez, ex⟩ := I.after hq
            subst ez
            cases rz
            exact ⟨_, rfl, rfl, H', I', ex⟩
          | next => exact False.elim hq
          | brk => exact False.elim hq
          | cont => exact False.elim hq
    · exact absurd p0 q
  · rcases hc with ⟨q, _⟩ | ⟨_, rfl, uc, _⟩
    · exact absurd q p0
    · have q := eqAt_V (A := A) (s := s) rx ry rfl rfl
      have e : eqV (.int a.1) (.int c.1) = decide (a = c) := by
        show (a.1 == c.1) = decide (a = c)
        by_cases z : a = c
        · rw [z]
          simp
        · rw [decide_eq_false z]
          exact beq_false_of_ne fun e => z (Prod.ext e (ua.trans uc.symm))
      rw [e] at q
      exact q X.prog X.w X.xe _ ⟨rfl, H, I, Ext.rfl'⟩
/-- t == u, two tuples of numbers of one field -/
def rEqFN (K : PySem.W.Frag) (C : Addr) : R2 := fun x y H Q => ∃ (a b : Addr) (xs ys : List V) (p : Int) (prs prs' : List (Int × Int)), x = .ref a ∧ y = .ref b ∧ SqT K H a xs ∧ SqT K H b ys ∧ FNs C H p xs prs ∧ FNs C H p ys prs' ∧ ∀ H', Same H H' → Q (.bl (decide (prs = prs'))) H'
theorem take_next {l l' : List (Int × Int)} {j : Nat} (h : j < l.length) (h' : j < l'.length) (e : l.take j = l'.take j) (g : l[j] = l'[j]) : l.take (j + 1) = l'.take (j + 1) := by
  rw [List.take_succ, List.take_succ, e, List.getElem?_eq_getElem h, List.getElem?_eq_getElem h', g]
theorem op_eqFN (h : ∀ p, EqB X n (DNB C p)) (hr : Room (n + 1) X.A) : OpR X (compareOp .Eq) (rEqFN X.K C) := by
  rintro pins s σ H x y v u Q I rx ry ⟨a, b, xs, ys, p, prs, prs', rfl, rfl, ha, hb, fa, fb, q⟩
  cases rx
  cases ry
  show wpAny (model X.prog X.w) X.A (richCompare .Eq (.ref a) (.ref b)) (EP X pins σ Q) X.xe s
  obtain ⟨us, r1, t1, _⟩ := I.tuple ha
  obtain ⟨ws, r2, t2, _⟩ := I.tuple hb
  obtain ⟨⟨c1, d1, dt1, sl1⟩, o1, hc1, n1, hd1⟩ := id t1
  obtain ⟨⟨c2, d2, dt2, sl2⟩, o2, hc2, n2, hd2⟩ := id t2
  simp only at hc1 hd1 hc2 hd2
  subst hc1 hd1 hc2 hd2
  have sb : Sub X (n + 1) X.A := ⟨hr, rfl⟩
  have l1 := r1.length
  have l2 := r2.length
  have m1 := fa.len
  have m2 := fb.len
  refine PySem.wpAny_richCompare_same_room (op := .Eq) ⟨_, o1, rfl⟩ ⟨_, o2, rfl⟩ F.slot_tuple_eq (GQ.call_here F.slot_tuple_eq ⟨_, o1, rfl⟩ F.entry_tuple_eq (F.args_tuple_eq_2 _ _) ?_) hr.units0
  refine PySem.Sqt.tup_sees (R := wants (fun v s' => v ≠ .notImplemented ∧ EP X pins σ Q v s') X.xe) a b us.toArray ws.toArray n1 n2 d1 d2 sl1 sl2 (fun j t => LoopI X pins σ H t ∧ prs.take j = prs'.take j) (fun j g1 g2 t l => ?_) (fun t l => ⟨(fun z => nomatch z), ?_⟩) o1 o2 ⟨⟨H, I, Ext.rfl'⟩, rfl⟩
  · obtain ⟨⟨H1, I1, x1⟩, ej⟩ := l
    have g1' : j < us.length := by simpa using g1
    have g2' : j < ws.length := by simpa using g2
    have k1 : j < xs.length := by omega
    have k2 : j < ys.length := by omega
    have p1 : j < prs.length := by omega
    have p2 : j < prs'.length := by omega
    obtain ⟨z1, hz1, rz1⟩ := r1.get (List.getElem?_eq_getElem k1)
    obtain ⟨z2, hz2, rz2⟩ := r2.get (List.getElem?_eq_getElem k2)
    have w1 : us.toArray[j] = z1 := by
      rw [List.getElem?_eq_getElem g1'] at hz1
      simpa using hz1
    have w2 : ws.toArray[j] = z2 := by
      rw [List.getElem?_eq_getElem g2'] at hz2
      simpa using hz2
    rw [w1, w2]
    have f1 := (fa.at_ j _ _ (List.getElem?_eq_getElem k1) (List.getElem?_eq_getElem p1)).same x1
    have f2 := (fb.at_ j _ _ (List.getElem?_eq_getElem k2) (List.getElem?_eq_getElem p2)).same x1
    refine wpAny_mono (h p X.A.in1 pins t σ H1 _ _ z1 z2 _ sb.in1 I1 rz1 rz2 ⟨_, _, f1, f2, rfl⟩) (fun b t2 hb => ?_) fun _ _ z => z
    obtain ⟨hb1, H2, I2, x2⟩ := hb
    by_cases e : prs[j] = prs'[j]
    · rw [decide_eq_true e] at hb1
      exact .inl ⟨hb1, ⟨H2, I2, x1.trans x2⟩, take_next p1 p2 ej e⟩
    · rw [decide_eq_false e] at hb1
      refine .inr ⟨hb1, (fun z => nomatch z), ?_⟩
      have ne : prs ≠ prs' := fun z => by
        subst z
        exact e rfl
      have qq := q H2 (x1.trans x2)
      rw [decide_eq_false ne] at qq
      exact ⟨.bl false, H2, I2, rfl, qq⟩
  · obtain ⟨⟨H1, I1, x1⟩, ej⟩ := l
    have sz1 : us.toArray.size = prs.length := by simp; omega
    have sz2 : ws.toArray.size = prs'.length := by simp; omega
    rw [sz1, sz2] at ej
    have e : (us.toArray.size == ws.toArray.size) = decide (prs = prs') := by
      rw [sz1, sz2]
      by_cases z : prs.length = prs'.length
      · rw [z, Nat.min_self, List.take_length, ← z, List.take_length] at ej
        rw [decide_eq_true ej, z]
        simp
      · rw [decide_eq_false fun e => z (by rw [e])]
        simpa using z
    show EP X pins σ Q (.bool (us.toArray.size == ws.toArray.size)) t
    rw [e]
    exact ⟨.bl _, H1, I1, rfl, q H1 x1⟩
end
end Sq

namespace Sq
open PySem L2 PyProof.Rows PySem.Spec
abbrev s_peq : Stmt := inClass (top 53) 2
def spPEq (K : PySem.W.Frag) (C CP CF : Addr) : Sp := fun vs H Q _ => ∃ (x : Addr) (v : V) (p : Int) (prs : List (Int × Int)), vs = [.ref x, v] ∧ Pol C CP CF H x p prs ∧
  ((∃ y p' prs', v = .ref y ∧ Pol C CP CF H y p' prs' ∧ ∀ H', Same H H' → Q (.bl (decide (p = p' ∧ prs = prs'))) H') ∨ (NotC K H v CP ∧ Q (.bl false) H))
section
variable {P : Program} {w : World} {K : PySem.W.Frag} {mg : Str → Option Value} {base : Heap}
theorem sc_peq : FnScope ["self", "other"] ["self", "other"] (defScope s_peq) := ⟨rfl, rfl, rfl, by decide +kernel, rfl, by decide +kernel, by decide +kernel⟩
theorem ok_peq {f C CF CP feq ffeq : Addr} {fd fdeq fdfeq : FuncData} (F : Fun K "__eq__" "Poly.__eq__" s_peq f fd) (B : QTx mg) (TP : PTx K CP) (YP : IPyP K C CP) (TF : FTx K CF) (YF : IFy K CF) (m_P : mg "Poly" = some (.ref CP)) (O_feq : OwnOp K CF ffeq "__eq__") (nfF : PySem.W.notFirst K CF (.ref CF) = true) (G_feq : FnOk P w K mg base CX0 1 ffeq fdfeq ["self", "other"] (spF_eq K CF)) (b_feq : Binds K fdfeq ["self", "other"] [])
    (O_eq : OwnOp K C feq "__eq__") (G_eq : FnOk P w K mg base CX0 2 feq fdeq ["self", "other"] (spR_eq K C)) (b_eq : Binds K fdeq ["self", "other"] []) : FnOk P w K mg base CX0 4 f fd ["self", "other"] (spPEq K C CP CF) := by
  refine F.ok sc_peq (fun vs H Q E h => ?_) (fun cdv A outer s H vs Q E hr h => ?_)
  · obtain ⟨x, v, p, prs, rfl, _⟩ := h
    rfl
  · obtain ⟨x, v, p, prs, rfl, SR, k⟩ := h
    refine ⟨_, (pss_one (ps_ret (pe_and (pe_callB call_isi (by rfl) B.b_isinstance (by decide +kernel) (pa_cons (pv 1) (pa_cons (pe_glob (v := .ref CP) rfl m_P rfl) pa_nil))) (pe_and (pe_cmpR (op_ownEq O_feq G_feq (hr.mono (by decide)) b_feq pass0) (pe_fld (pv 0) rfl) (pe_fld (pv 1) rfl) (nomark _)) (pe_one (pe_cmpR (op_eqFN (fun p => eqB_num (p := p) O_eq G_eq b_eq) (hr.mono (by decide))) (pe_fld (pv 0) rfl) (pe_fld (pv 1) rfl) (nomark _))))))), ?_⟩
    obtain ⟨dx, fx, ct, ys, SO⟩ := id SR
    rcases k with ⟨y, p', prs', rfl, SR', k⟩ | ⟨⟨t, ty, kt⟩, k⟩
    · obtain ⟨dx', fx', ct', ys', SO'⟩ := id SR'
      refine ⟨_, rfl, _, _, _, _, true, rfl, .own CP, .base (.ins SO'.ob TP.cl YP.ha YP.hn YP.htk YP.hm), kit_self, _, rfl, iteT ?_⟩
      obtain ⟨df, hf⟩ := id SO.fl
      refine ⟨_, rfl, x, CP, dx, _, _, rfl, SO.ob, TP.cl, TP.nF, plf_field _ _ _, _, rfl, y, CP, dx', _, _, rfl, SO'.ob, TP.cl, TP.nF, plf_field _ _ _, fx, df, _, _, rfl, hf, SO'.fl.ty TF YF, nfF, fx, .ref fx', p, rfl, SO.fl, .inl ⟨fx', p', rfl, SO'.fl, _, rfl, ?_⟩⟩
      by_cases e : p = p'
      · subst e
        rw [decide_eq_true rfl]
        refine iteT ⟨_, rfl, x, CP, dx, _, _, rfl, SO.ob, TP.cl, TP.nC, plf_coef _ _ _, _, rfl, y, CP, dx', _, _, rfl, SO'.ob, TP.cl, TP.nC, plf_coef _ _ _, ct, ct', ys, ys', p, prs, prs', rfl, rfl, SqT.of SO.co, SqT.of SO'.co, SO.nu, SO'.nu, fun H1 s1 => ?_⟩
        have q := k H1 s1
        rw [show decide (p = p ∧ prs = prs') = decide (prs = prs') by simp] at q
        exact q
      · rw [decide_eq_false e]
        have q := k H (Same.refl H)
        rw [decide_eq_false fun z => e z.1] at q
        exact iteF q
    · exact ⟨_, rfl, _, _, _, _, false, rfl, .own CP, ty, kt, _, rfl, iteF k⟩
end
end Sq

namespace Sq
open PySem L2 PyProof.Rows PySem.Spec
abbrev s_pneg : Stmt := inClass (top 53) 12
def negP (p : Int) (a : Int × Int) : Int × Int := if p = 0 then (-a.1, a.2) else ((-a.1) % p, 1)
theorem un_or {X : Cx} {f : Value → Sem Value} {r1 r2 : V → Hp → VK → Prop} (h1 : UnR X f r1) (h2 : UnR X f r2) : UnR X f (fun x H Q => r1 x H Q ∨ r2 x H Q) := by
  rintro pins s σ H x v Q I rx (h | h)
  · exact h1 pins s σ H x v Q I rx h
  · exact h2 pins s σ H x v Q I rx h
theorem low_self' {t u T U : Int} (pu : 1 ≤ u) (cop : Int.gcd t u = 1) (L : Low t u T U) : T = t ∧ U = u := (low_eq (by omega) (by omega) L (⟨pu, cop, rfl, Nat.le_refl _, Nat.le_refl _⟩ : Low t u t u)).mpr rfl
/-- a number that is given, of any size that may be asked -/
def GivB (K : PySem.W.Frag) (C : Addr) (H : Hp) (p : Int) (v : V) (a : Int × Int) : Prop := ∃ t u, NumAt C H v t u ∧ 1 ≤ u ∧ t.natAbs < 2 ^ 8000 ∧ u.natAbs < 2 ^ 8000 ∧ (p = 0 → a = (t, u) ∧ Int.gcd t u = 1) ∧ (p ≠ 0 → u % p ≠ 0 ∧ a.2 = 1 ∧ 0 ≤ a.1 ∧ a.1 < p ∧ ∃ k, a.1 * u = t + k * p)
theorem num_goB {K : PySem.W.Frag} {C CF CNN x : Addr} {H : Hp} {p : Int} {v : V} {a : Int × Int} {Q : VK} {E : XK} (hx : FldAt CF H x p) (hg : goodP p = true) (gv : GivB K C H p v a) (k : ∀ y H', Same H H' → FN C H' p y a.1 a.2 → Q y H') : spNum K C CF CNN [.ref x, v] H Q E := by
  obtain ⟨t, u, n, pu, st, su, h0, hp⟩ := gv
  refine ⟨x, v, p, rfl, hx, hg, .inr ⟨t, u, n, pu, st, su, fun p0 r H3 R s3 => ?_, fun p0 up => absurd up (hp p0).1, fun p0 up r H3 r0 r1 ⟨kk, hk⟩ s3 => ?_⟩⟩
  · obtain ⟨rfl, cop⟩ := h0 p0
    exact k (.ref r) H3 s3 (.inl ⟨p0, ⟨r, rfl, R⟩, pu, cop⟩)
  · obtain ⟨_, a2, a0, a1, k2, hk2⟩ := hp p0
    have e := num_uniq hg p0 up r0 r1 a0 a1 hk hk2
    exact k (.int r) H3 s3 (.inr ⟨p0, by rw [e], a2, a0, a1⟩)
theorem num_goTB {K : PySem.W.Frag} {C CF CNN x : Addr} {H : Hp} {p : Int} {v : V} {a : Int × Int} {Q : VK} {E : XK} {σ : L2.St} (hx : FldAt CF H x p) (hg : goodP p = true) (gv : GivB K C H p v a) (k : ∀ y H', Same H H' → FN C H' p y a.1 a.2 → Q y H') :
    tNil σ H fun xs H2 => (fun vs H3 => spNum K C CF CNN (.ref x :: (vs ++ [])) H3 Q E) (v :: xs) H2 := num_goB hx hg gv k
def spR_neg8 (C : Addr) : Sp := fun vs H Q _ => ∃ (x : Addr) (t u : Int), vs = [.ref x] ∧ RatAt C H x t u ∧ 1 ≤ u ∧ u.natAbs < 2 ^ 8000 ∧ ∀ z T U H', Low (-t) u T U → RatAt C H' z T U → Same H H' → Q (.ref z) H'
def spPNeg (C CP CF : Addr) : Sp := fun vs H Q _ => ∃ (x : Addr) (p : Int) (prs : List (Int × Int)), vs = [.ref x] ∧ Pol C CP CF H x p prs ∧ goodP p = true ∧ prs.length ≤ 100000 ∧ (p = 0 → ∀ a ∈ prs, Bd 7900 a) ∧
  ∀ y H', Same H H' → Pol C CP CF H' y p (trimP (prs.map (negP p))) → Q (.ref y) H'
theorem gcd_neg1 {a b : Int} (h : Int.gcd a b = 1) : Int.gcd (-a) b = 1 := by rw [Int.neg_gcd]; exact h
/-- the negative of a number, by whatever it is -/
theorem neg_fn {K : PySem.W.Frag} {C : Addr} {H : Hp} {p : Int} {v : V} {a : Int × Int} {Q : VK} {E : XK} (hg : goodP p = true) (h : FN C H p v a.1 a.2) (bd : p = 0 → Bd 7900 a)
    (k : ∀ w H', Same H H' → GivB K C H' p w (negP p a) → Q w H') : rU (fun i => .int (-i)) v H Q ∨ rOwn1 C (spR_neg8 C) E v H Q := by
  have l8 : ∀ {x : Int}, x.natAbs < 2 ^ 7900 → x.natAbs < 2 ^ 8000 := fun h => Nat.lt_of_lt_of_le h (Nat.pow_le_pow_right (by decide) (by decide))
  rcases h with ⟨p0, ⟨r, rfl, R⟩, pu, cop⟩ | ⟨p0, rfl, u1, a0, a1⟩
  · obtain ⟨dr, hr⟩ := id R
    obtain ⟨b1, b2⟩ := bd p0
    refine .inr ⟨r, dr, _, rfl, hr, r, a.1, a.2, rfl, R, pu, l8 b2, fun z T U H' L RZ s => k _ H' s ?_⟩
    obtain ⟨rfl, rfl⟩ := low_self' pu (gcd_neg1 cop) L
    exact ⟨_, _, .inl ⟨z, rfl, RZ⟩, pu, by rw [Int.natAbs_neg]; exact l8 b1, l8 b2, fun _ => ⟨by unfold negP; rw [if_pos p0], gcd_neg1 cop⟩, fun q => absurd p0 q⟩
  · refine .inl ⟨_, rfl, k _ H (Same.refl H) ?_⟩
    have pp := (goodP_pos hg p0).1
    have pl := prime_lt hg p0
    have e : negP p a = ((-a.1) % p, 1) := by unfold negP; rw [if_neg p0]
    rw [e]
    refine ⟨-a.1, 1, .inr ⟨rfl, rfl⟩, Int.le_refl 1, Nat.lt_of_lt_of_le (show (-a.1).natAbs < 2 ^ 14 by omega) (Nat.pow_le_pow_right (by decide) (by decide)), fit_up fit_one, fun q => absurd q p0, fun _ => ⟨?_, rfl, Int.emod_nonneg _ p0, Int.emod_lt_of_pos _ (by omega), -((-a.1) / p), ?_⟩⟩
    · rw [Int.emod_eq_of_lt (by decide) (by omega)]; decide
    · have := Int.emod_add_mul_ediv (-a.1) p
      have e2 : -(-a.1 / p) * p = - (p * (-a.1 / p)) := by rw [Int.neg_mul, Int.mul_comm]
      rw [e2]
      show (-a.1) % p * 1 = _
      omega
section
variable {P : Program} {w : World} {K : PySem.W.Frag} {mg : Str → Option Value} {base : Heap}
theorem ok_rneg8 {f C CN fR : Addr} {fd fdR : FuncData} (F : Fun K "__neg__" "Ratio.__neg__" s_rneg f fd) (T : CTx K C) (m_C : mg "Ratio" = some (.ref C)) (M : Mk K C fR)
    (G_R : FnOk P w K mg base (L2.CX P w) 3 fR fdR ["self", "top", "bottom"] (spRatioInit K C CN)) (b_R : Binds K fdR ["self", "top", "bottom"] []) : FnOk P w K mg base CX0 5 f fd ["self"] (spR_neg8 C) := by
  refine F.ok sc_rneg (fun vs H Q E h => ?_) (fun cdv A outer s H vs Q E hr h => ?_)
  · obtain ⟨x, t, u, rfl, _⟩ := h
    rfl
  · obtain ⟨x, t, u, rfl, hx, pu, su, k⟩ := h
    refine ⟨_, pss_one (ps_ret (pe_make M G_R (hr.mono (by decide)) rfl m_C b_R .nil passL (pa_cons (pe_un un_neg (pe_fld (pv 0) rfl)) (pa_cons (pe_fld (pv 0) rfl) pa_nil)))), ?_⟩
    obtain ⟨dx, hx0⟩ := id hx
    refine ⟨_, rfl, x, C, dx, _, _, rfl, hx0, T.cl, T.nT, rf_top _ _, _, rfl, _, rfl, x, C, dx, _, _, rfl, hx0, T.cl, T.nB, rf_bottom _ _, ?_⟩
    exact fun z dz nz ndz ne => mk_go (by omega) su nz ndz ne fun T U H2 L R s2 => ⟨rfl, k z T U H2 L R s2⟩
theorem sc_pneg : FnScope ["self", "each"] ["self"] (defScope s_pneg) := ⟨rfl, rfl, rfl, by decide +kernel, rfl, by decide +kernel, by decide +kernel⟩
theorem ok_pneg {f C CP CF CRd CNN fpinit frd fnum fneg : Addr} {fd fdpinit fdrd fdnum fdneg : FuncData} (F : Fun K "__neg__" "Poly.__neg__" s_pneg f fd) (TP : PTx K CP) (TF : FTx K CF) (MP : Mk K CP fpinit) (G_pinitR : FnOk P w K mg base CX0 4 fpinit fdpinit ["self", "field", "coefficients"] (spPInitR C CP CF CRd)) (b_pinit : Binds K fdpinit ["self", "field", "coefficients"] []) (m_P : mg "Poly" = some (.ref CP))
    (MRd : Mk K CRd frd) (G_rd : FnOk P w K mg base CX0 1 frd fdrd ["self", "row"] (spReady CRd K)) (b_rd : Binds K fdrd ["self", "row"] []) (m_Rd : mg "Ready" = some (.ref CRd)) (Me_num : Meth K CF "number" fnum) (G_num : FnOk P w K mg base (L2.CX P w) 8 fnum fdnum ["self", "value"] (spNum K C CF CNN)) (b_num : Binds K fdnum ["self", "value"] [])
    (O_neg : OwnOp K C fneg "__neg__") (G_neg : FnOk P w K mg base CX0 5 fneg fdneg ["self"] (spR_neg8 C)) (b_neg : Binds K fdneg ["self"] []) : FnOk P w K mg base CX0 9 f fd ["self"] (spPNeg C CP CF) := by
  refine F.ok sc_pneg (fun vs H Q E h => ?_) (fun cdv A outer s H vs Q E hr h => ?_)
  · obtain ⟨x, p, prs, rfl, _⟩ := h
    rfl
  · obtain ⟨x, p, prs, rfl, PX, hg, ln, fit, k⟩ := h
    refine ⟨_, (pss_one (ps_ret (pe_make MP G_pinitR (hr.mono (by decide)) rfl m_P b_pinit .nil pass0 (pa_cons (pe_fld (pv 0) rfl) (pa_cons (pe_make MRd G_rd (hr.mono (by decide)) rfl m_Rd b_rd .nil pass0 (pa_cons (pe_lc (own := [("each", 1)]) (g := gName 1) (tt := tYes) rfl sc_pneg.nd (pi_tup (pe_fld (pv 0) rfl)) (blkOk_by (N := ["self", "each"]) (sc := defScope s_pneg) (by decide +kernel)) (fun _ _ _ _ _ => pg_name (i := 1) sc_pneg.nd rfl (Or.inl rfl)) (fun _ _ _ _ _ => pts_nil) (fun _ _ _ _ _ => (pe_meth (E := fun _ _ _ => False) (show PE _ _ (tFld K (tVar 0) "field") from pe_fld (pv 0) (by rfl)) TF.cl Me_num G_num (hr.mono (by decide)) b_num .nil passL (pa_cons (pe_un (un_or un_neg (un_own (E := fun _ _ _ => False) O_neg G_neg (hr.mono (by decide)) b_neg pass0)) (pv 1)) pa_nil)))) pa_nil)) pa_nil))))), ?_⟩
    have e24 : (sizeLine : Nat) = 16777216 := sizeLine_eq
    obtain ⟨dx, fx, ct, ys, PO⟩ := id PX
    have ly := PO.nu.len
    refine ⟨_, rfl, x, CP, dx, _, _, rfl, PO.ob, TP.cl, TP.nF, plf_field _ _ _, _, rfl, x, CP, dx, _, _, rfl, PO.ob, TP.cl, TP.nC, plf_coef _ _ _, ct, rfl, ⟨ys, SqT.of PO.co⟩, fun L hL => ?_⟩
    refine lc_tup (K := K) (a := ct) (xs := ys) (fun i H' => ∃ zs, Same H H' ∧ H' L = some (.lst zs) ∧ FNs C H' p zs ((prs.map (negP p)).take i)) ?_ ?_ ?_ ?_
    · exact ⟨[], same_new (Same.refl _) hL, upd_same, FNs.nil⟩
    · rintro i H' _ ⟨zs, s1, _⟩
      exact SqT.of (s1 _ _ PO.co)
    · rintro i y H1 hi ⟨zs, s1, h1, gn⟩
      have li : i < prs.length := by rw [← ly]; exact get_len hi
      have f1 := (PO.nu.at_ i y _ hi (List.getElem?_eq_getElem li)).same s1
      have bd := fun p0 => fit p0 _ (List.getElem_mem li)
      have PO1 := PO.same s1
      obtain ⟨df, hf⟩ := id PO1.fl
      refine ⟨rfl, _, rfl, x, CP, dx, _, _, rfl, PO1.ob, TP.cl, TP.nF, plf_field _ _ _, fx, df, _, rfl, hf, pf_no _ (by decide +kernel), _, rfl, neg_fn (K := K) hg f1 bd fun w H2 s2 gw => ?_⟩
      refine num_goTB (PO1.fl.same s2) hg gw fun z H3 s3 fz => ?_
      have h3 := s3 _ _ (s2 _ _ h1)
      have lz := gn.len
      rw [List.length_take, List.length_map] at lz
      refine ⟨zs, h3, by omega, zs ++ [z], same_at ((s1.trans s2).trans s3) hL, upd_same, ?_⟩
      rw [take_more (x := negP p prs[i]) (by rw [List.getElem?_map, List.getElem?_eq_getElem li]; rfl)]
      exact (((gn.same s2).same s3).snoc fz).upd h3
    rintro H1 ⟨zs, s1, h1, gn⟩
    rw [List.take_of_length_le (by rw [List.length_map]; omega)] at gn
    refine fun r dr nr ndr ner => mkR_go (.inl h1) nr ndr ner fun H3 s3 rd => ⟨rfl, fun y dy ny ndy ney => ?_⟩
    exact mkPR_go (PO.fl.same (s1.trans s3)) hg rd (gn.same s3) (by rw [List.length_map]; exact ln) ny ndy ney fun H4 s4 po => ⟨rfl, k y H4 ((s1.trans s3).trans s4) po⟩
end
end Sq

namespace Sq
open PySem L2 PyProof.Rows PySem.Spec
abbrev s_freq : Stmt := inClass (top 59) 1
abbrev s_frneg : Stmt := inClass (top 59) 10
structure FrY (K : PySem.W.Frag) (C : Addr) : Prop where
  ha : PySem.W.findIn K (.ref C) "__class__" = some (some (.builtin "object.__class__"))
  hn : PySem.W.specialIn K (.builtin "object.__class__") "__get__" = some (some (.builtin "getset_descriptor.__get__"))
  htk : PySem.W.takesIn K (.builtin "object.__class__") = some true
  hm : PySem.W.mroIn K C (.type "object") = some true
theorem ins_ty {K : PySem.W.Frag} {C : Addr} {H : Hp} {x dx : Addr} {fs : List (Str × V)} (cl : Cls K C) (Y : FrY K C) (h : H x = some (.ins C dx fs)) : TyX K H (.ref x) (.ref C) := .base (.ins h cl Y.ha Y.hn Y.htk Y.hm)
def spFrEq (K : PySem.W.Frag) (C CP CF CFr : Addr) : Sp := fun vs H Q _ => ∃ (x : Addr) (v : V) (p : Int) (ts bs : List (Int × Int)), vs = [.ref x, v] ∧ Frc C CP CF CFr H x p ts bs ∧
  ((∃ y p' ts' bs', v = .ref y ∧ Frc C CP CF CFr H y p' ts' bs' ∧ ∀ H', Same H H' → Q (.bl (decide (p = p' ∧ ts = ts' ∧ bs = bs'))) H') ∨ (NotC K H v CFr ∧ Q (.bl false) H))
def spFrNeg (C CP CF CFr : Addr) : Sp := fun vs H Q _ => ∃ (x : Addr) (p : Int) (ts bs : List (Int × Int)), vs = [.ref x] ∧ Frc C CP CF CFr H x p ts bs ∧ goodP p = true ∧ ts.length ≤ 100000 ∧ (p = 0 → ∀ a ∈ ts, Bd 7900 a) ∧
  ∀ y H', Same H H' → Frc C CP CF CFr H' y p (trimP (ts.map (negP p))) bs → Q (.ref y) H'
section
variable {P : Program} {w : World} {K : PySem.W.Frag} {mg : Str → Option Value} {base : Heap}
theorem sc_freq : FnScope ["self", "other"] ["self", "other"] (defScope s_freq) := ⟨rfl, rfl, rfl, by decide +kernel, rfl, by decide +kernel, by decide +kernel⟩
theorem ok_freq {f C CF CP CFr fpeq : Addr} {fd fdpeq : FuncData} (F : Fun K "__eq__" "Fraction.__eq__" s_freq f fd) (B : QTx mg) (TP : PTx K CP) (YP : IPyP K C CP) (TFr : FrTx K CFr) (YFr : FrY K CFr) (m_Fr : mg "Fraction" = some (.ref CFr)) (O_peq : OwnOp K CP fpeq "__eq__") (nfP : PySem.W.notFirst K CP (.ref CP) = true) (G_peq : FnOk P w K mg base CX0 4 fpeq fdpeq ["self", "other"] (spPEq K C CP CF)) (b_peq : Binds K fdpeq ["self", "other"] []) : FnOk P w K mg base CX0 6 f fd ["self", "other"] (spFrEq K C CP CF CFr) := by
  refine F.ok sc_freq (fun vs H Q E h => ?_) (fun cdv A outer s H vs Q E hr h => ?_)
  · obtain ⟨x, v, p, ts, bs, rfl, _⟩ := h
    rfl
  · obtain ⟨x, v, p, ts, bs, rfl, FX, k⟩ := h
    refine ⟨_, (pss_one (ps_ret (pe_and (pe_callB call_isi (by rfl) B.b_isinstance (by decide +kernel) (pa_cons (pv 1) (pa_cons (pe_glob (v := .ref CFr) rfl m_Fr rfl) pa_nil))) (pe_and (pe_cmpR (op_ownEq O_peq G_peq (hr.mono (by decide)) b_peq pass0) (pe_fld (pv 0) rfl) (pe_fld (pv 1) rfl) (nomark _)) (pe_one (pe_cmpR (op_ownEq O_peq G_peq (hr.mono (by decide)) b_peq pass0) (pe_fld (pv 0) rfl) (pe_fld (pv 1) rfl) (nomark _))))))), ?_⟩
    obtain ⟨dx, fx, u, v1, t, hx, hf, pu, pv, ht⟩ := id FX
    rcases k with ⟨y, p', ts', bs', rfl, FY, k⟩ | ⟨⟨t, ty, kt⟩, k⟩
    · obtain ⟨dy, fy, u', v1', t', hy, hf', pu', pv', ht'⟩ := id FY
      refine ⟨_, rfl, _, _, _, _, true, rfl, .own CFr, ins_ty TFr.cl YFr hy, kit_self, _, rfl, iteT ?_⟩
      obtain ⟨du, _, _, _, UO⟩ := id pu
      obtain ⟨du', _, _, _, UO'⟩ := id pu'
      refine ⟨_, rfl, x, CFr, dx, _, _, rfl, hx, TFr.cl, TFr.nT, frf_t _ _ _ _, _, rfl, y, CFr, dy, _, _, rfl, hy, TFr.cl, TFr.nT, frf_t _ _ _ _, u, du, _, _, rfl, UO.ob, .base (.ins UO'.ob TP.cl YP.ha YP.hn YP.htk YP.hm), nfP, u, .ref u', p, ts, rfl, pu, .inl ⟨u', p', ts', rfl, pu', fun H1 s1 => ⟨_, rfl, ?_⟩⟩⟩
      by_cases e : p = p' ∧ ts = ts'
      · rw [decide_eq_true e]
        have pv1 := pv.same s1
        have pv1' := pv'.same s1
        obtain ⟨dv, _, _, _, VO⟩ := id pv1
        obtain ⟨dv', _, _, _, VO'⟩ := id pv1'
        refine iteT ⟨_, rfl, x, CFr, dx, _, _, rfl, s1 _ _ hx, TFr.cl, TFr.nB, frf_b _ _ _ _, _, rfl, y, CFr, dy, _, _, rfl, s1 _ _ hy, TFr.cl, TFr.nB, frf_b _ _ _ _, v1, dv, _, _, rfl, VO.ob, .base (.ins VO'.ob TP.cl YP.ha YP.hn YP.htk YP.hm), nfP, v1, .ref v1', p, bs, rfl, pv1, .inl ⟨v1', p', bs', rfl, pv1', fun H2 s2 => ?_⟩⟩
        have q := k H2 (s1.trans s2)
        rw [show decide (p = p' ∧ ts = ts' ∧ bs = bs') = decide (p = p' ∧ bs = bs') by simp [e.1, e.2]] at q
        exact q
      · rw [decide_eq_false e]
        have q := k H1 s1
        rw [decide_eq_false fun z => e ⟨z.1, z.2.1⟩] at q
        exact iteF q
    · exact ⟨_, rfl, _, _, _, _, false, rfl, .own CFr, ty, kt, _, rfl, iteF k⟩
theorem sc_frneg : FnScope ["self"] ["self"] (defScope s_frneg) := ⟨rfl, rfl, rfl, by decide +kernel, rfl, by decide +kernel, by decide +kernel⟩
theorem ok_frneg {f C CF CP CFr CSt fpneg ffrinit fstinit : Addr} {fd fdpneg fdfrinit fdstinit : FuncData} (F : Fun K "__neg__" "Fraction.__neg__" s_frneg f fd) (TFr : FrTx K CFr) (O_pneg : OwnOp K CP fpneg "__neg__") (G_pneg : FnOk P w K mg base CX0 9 fpneg fdpneg ["self"] (spPNeg C CP CF)) (b_pneg : Binds K fdpneg ["self"] [])
    (MFr : Mk K CFr ffrinit) (G_frinitS : FnOk P w K mg base CX0 16 ffrinit fdfrinit ["self", "top", "bottom"] (spFrInitS C CP CF CFr CSt)) (b_frinit : Binds K fdfrinit ["self", "top", "bottom"] []) (m_Fr : mg "Fraction" = some (.ref CFr)) (MSt : Mk K CSt fstinit) (G_stinit : FnOk P w K mg base CX0 1 fstinit fdstinit ["self", "poly"] (spStInit CSt)) (b_stinit : Binds K fdstinit ["self", "poly"] []) (m_St : mg "Settled" = some (.ref CSt)) : FnOk P w K mg base CX0 18 f fd ["self"] (spFrNeg C CP CF CFr) := by
  refine F.ok sc_frneg (fun vs H Q E h => ?_) (fun cdv A outer s H vs Q E hr h => ?_)
  · obtain ⟨x, p, ts, bs, rfl, _⟩ := h
    rfl
  · obtain ⟨x, p, ts, bs, rfl, FX, hg, ln, bd, k⟩ := h
    refine ⟨_, (pss_one (ps_ret (pe_make MFr G_frinitS (hr.mono (by decide)) rfl m_Fr b_frinit .nil pass0 (pa_cons (pe_un (un_own (E := fun _ _ _ => False) O_pneg G_pneg (hr.mono (by decide)) b_pneg pass0) (pe_fld (pv 0) rfl)) (pa_cons (pe_make MSt G_stinit (hr.mono (by decide)) rfl m_St b_stinit .nil pass0 (pa_cons (pe_fld (pv 0) rfl) pa_nil)) pa_nil))))), ?_⟩
    obtain ⟨dx, fx, u, v, t, hx, hf, pu, pv, ht⟩ := id FX
    obtain ⟨du, _, _, _, UO⟩ := id pu
    refine ⟨_, rfl, x, CFr, dx, _, _, rfl, hx, TFr.cl, TFr.nT, frf_t _ _ _ _, u, du, _, rfl, UO.ob, u, p, ts, rfl, pu, hg, ln, bd, fun y H1 s1 py => ?_⟩
    refine ⟨_, rfl, x, CFr, dx, _, _, rfl, s1 _ _ hx, TFr.cl, TFr.nB, frf_b _ _ _ _, fun r dr nr ndr ner => ?_⟩
    have s2 : Same H1 (upd (upd H1 dr (.own r)) r (.ins CSt dr [])) := same_pair nr ndr ner
    refine ⟨r, dr, v, rfl, upd_same, fun H2 b2 hr2 => ⟨rfl, fun z dz nz ndz nez => ?_⟩⟩
    have s3 := same_made nr ndr b2
    have s4 : Same H2 (upd (upd H2 dz (.own z)) z (.ins CFr dz [])) := same_pair nz ndz nez
    refine ⟨z, dz, y, r, dr, v, p, _, bs, rfl, upd_same, s4 _ _ hr2, (py.same s3).same s4, ((pv.same s1).same s3).same s4, fun H3 b3 FZ => ⟨rfl, k z H3 ((s1.trans s3).trans (same_made nz ndz b3)) FZ⟩⟩
end
end Sq

namespace Sq
open PySem L2 PyProof.Rows PySem.Spec
abbrev s_sqinit : Stmt := inClass (top 3) 0
abbrev s_sqeq : Stmt := inClass (top 3) 1
abbrev s_has : Stmt := inClass (top 3) 2
def sqf (m n s : Int) (c : Bool) (f : Addr) : List (Str × V) := putF "fraction" (.ref f) (putF "closed" (.bl c) (putF "size" (.int s) (putF "n" (.int n) (putF "m" (.int m) []))))
theorem sqf_m (m n s : Int) (c : Bool) (f : Addr) : (sqf m n s c f).lookup ("m" : Str) = some (.int m) := by
  unfold sqf
  rw [lookup_putF, if_neg (by decide +kernel), lookup_putF, if_neg (by decide +kernel), lookup_putF, if_neg (by decide +kernel), lookup_putF, if_neg (by decide +kernel), lookup_putF, if_pos rfl]
theorem sqf_n (m n s : Int) (c : Bool) (f : Addr) : (sqf m n s c f).lookup ("n" : Str) = some (.int n) := by
  unfold sqf
  rw [lookup_putF, if_neg (by decide +kernel), lookup_putF, if_neg (by decide +kernel), lookup_putF, if_neg (by decide +kernel), lookup_putF, if_pos rfl]
theorem sqf_s (m n s : Int) (c : Bool) (f : Addr) : (sqf m n s c f).lookup ("size" : Str) = some (.int s) := by
  unfold sqf
  rw [lookup_putF, if_neg (by decide +kernel), lookup_putF, if_neg (by decide +kernel), lookup_putF, if_pos rfl]
theorem sqf_c (m n s : Int) (c : Bool) (f : Addr) : (sqf m n s c f).lookup ("closed" : Str) = some (.bl c) := by
  unfold sqf
  rw [lookup_putF, if_neg (by decide +kernel), lookup_putF, if_pos rfl]
theorem sqf_f (m n s : Int) (c : Bool) (f : Addr) : (sqf m n s c f).lookup ("fraction" : Str) = some (.ref f) := by
  unfold sqf
  rw [lookup_putF, if_pos rfl]
structure SqTx (K : PySem.W.Frag) (C : Addr) : Prop where
  cl : Cls K C
  nm : NoAttr K C "m"
  nn : NoAttr K C "n"
  ns : NoAttr K C "size"
  nc : NoAttr K C "closed"
  nf : NoAttr K C "fraction"
def SqAt (CSq : Addr) (H : Hp) (x : Addr) (m n s : Int) (c : Bool) (f : Addr) : Prop := ∃ dx, H x = some (.ins CSq dx (sqf m n s c f))
theorem SqAt.same {CSq : Addr} {H H' : Hp} {x : Addr} {m n s : Int} {c : Bool} {f : Addr} (e : Same H H') (h : SqAt CSq H x m n s c f) : SqAt CSq H' x m n s c f := by
  obtain ⟨dx, h⟩ := h
  exact ⟨dx, e _ _ h⟩
def spSqInit (CSq : Addr) : Sp := fun vs H Q _ => ∃ (y dy : Addr) (m n s : Int) (c : Bool) (f : Addr), vs = [.ref y, .int m, .int n, .int s, .bl c, .ref f] ∧ H y = some (.ins CSq dy []) ∧ ∀ H', But y H H' → SqAt CSq H' y m n s c f → Q .non H'
def spSqEq (K : PySem.W.Frag) (C CP CF CFr CSq : Addr) : Sp := fun vs H Q _ => ∃ (x : Addr) (v : V) (m n s : Int) (c : Bool) (f : Addr), vs = [.ref x, v] ∧ SqAt CSq H x m n s c f ∧
  ((∃ (y : Addr) (m' n' s' : Int) (c' : Bool) (f' : Addr) (p p' : Int) (ts bs ts' bs' : List (Int × Int)), v = .ref y ∧ SqAt CSq H y m' n' s' c' f' ∧ Frc C CP CF CFr H f p ts bs ∧ Frc C CP CF CFr H f' p' ts' bs' ∧ ∀ H', Same H H' → Q (.bl (decide (m = m' ∧ n = n' ∧ s = s' ∧ c = c' ∧ p = p' ∧ ts = ts' ∧ bs = bs'))) H') ∨ (NotC K H v CSq ∧ Q (.bl false) H))
def spHas (CSq : Addr) : Sp := fun vs H Q _ => ∃ (x : Addr) (m n s : Int) (c : Bool) (f : Addr) (a b : Int), vs = [.ref x, .int a, .int b] ∧ SqAt CSq H x m n s c f ∧ Q (.bl (decide (m ≤ a ∧ a < m + s ∧ n ≤ b ∧ b < n + s))) H
theorem dec_vint (a b : Int) : decide (V.int a = V.int b) = decide (a = b) := by
  by_cases h : a = b
  · rw [h, decide_eq_true rfl, decide_eq_true rfl]
  · rw [decide_eq_false h, decide_eq_false fun e => h (V.int.inj e)]
theorem dec_vbl (a b : Bool) : decide (V.bl a = V.bl b) = decide (a = b) := by
  by_cases h : a = b
  · rw [h, decide_eq_true rfl, decide_eq_true rfl]
  · rw [decide_eq_false h, decide_eq_false fun e => h (V.bl.inj e)]
section
variable {P : Program} {w : World} {K : PySem.W.Frag} {mg : Str → Option Value} {base : Heap}
theorem sc_sqinit : FnScope ["self", "m", "n", "size", "closed", "fraction"] ["self", "m", "n", "size", "closed", "fraction"] (defScope s_sqinit) := ⟨rfl, rfl, rfl, by decide +kernel, rfl, by decide +kernel, by decide +kernel⟩
theorem ok_sqinit {f CSq : Addr} {fd : FuncData} (F : Fun K "__init__" "Square.__init__" s_sqinit f fd) (TS : SqTx K CSq) : FnOk P w K mg base CX0 1 f fd ["self", "m", "n", "size", "closed", "fraction"] (spSqInit CSq) := by
  refine F.ok sc_sqinit (fun vs H Q E h => ?_) (fun cdv A outer s H vs Q E hr h => ?_)
  · obtain ⟨y, dy, m, n, s, c, f, rfl, _⟩ := h
    rfl
  · obtain ⟨y, dy, m, n, s, c, f, rfl, hy, k⟩ := h
    refine ⟨_, (pss_cons (ps_fld (pv 0) (pv 1) rfl) (pss_cons (ps_fld (pv 0) (pv 2) rfl) (pss_cons (ps_fld (pv 0) (pv 3) rfl) (pss_cons (ps_fld (pv 0) (pv 4) rfl) (pss_one (ps_fld (pv 0) (pv 5) rfl)))))), ?_⟩
    refine ⟨_, rfl, _, rfl, y, CSq, dy, _, rfl, hy, TS.cl, TS.nm, (by show 0 < 1000; decide), ?_⟩
    refine ⟨_, rfl, _, rfl, y, CSq, dy, _, rfl, upd_same, TS.cl, TS.nn, (by show 1 < 1000; decide), ?_⟩
    refine ⟨_, rfl, _, rfl, y, CSq, dy, _, rfl, upd_same, TS.cl, TS.ns, (by show 2 < 1000; decide), ?_⟩
    refine ⟨_, rfl, _, rfl, y, CSq, dy, _, rfl, upd_same, TS.cl, TS.nc, (by show 3 < 1000; decide), ?_⟩
    exact ⟨_, rfl, _, rfl, y, CSq, dy, _, rfl, upd_same, TS.cl, TS.nf, (by show 4 < 1000; decide), k _ (But.refl y H).upd.upd.upd.upd.upd ⟨dy, upd_same⟩⟩
theorem sc_sqeq : FnScope ["self", "other"] ["self", "other"] (defScope s_sqeq) := ⟨rfl, rfl, rfl, by decide +kernel, rfl, by decide +kernel, by decide +kernel⟩
theorem ok_sqeq {f C CF CP CFr CSq ffreq : Addr} {fd fdfreq : FuncData} (F : Fun K "__eq__" "Square.__eq__" s_sqeq f fd) (B : QTx mg) (TS : SqTx K CSq) (YS : FrY K CSq) (TFr : FrTx K CFr) (YFr : FrY K CFr) (m_Sq : mg "Square" = some (.ref CSq)) (O_freq : OwnOp K CFr ffreq "__eq__") (nfFr : PySem.W.notFirst K CFr (.ref CFr) = true) (G_freq : FnOk P w K mg base CX0 6 ffreq fdfreq ["self", "other"] (spFrEq K C CP CF CFr)) (b_freq : Binds K fdfreq ["self", "other"] []) : FnOk P w K mg base CX0 8 f fd ["self", "other"] (spSqEq K C CP CF CFr CSq) := by
  refine F.ok sc_sqeq (fun vs H Q E h => ?_) (fun cdv A outer s H vs Q E hr h => ?_)
  · obtain ⟨x, v, m, n, s, c, f, rfl, _⟩ := h
    rfl
  · obtain ⟨x, v, m, n, s, c, f, rfl, ⟨dx, hx⟩, k⟩ := h
    refine ⟨_, (pss_one (ps_ret (pe_and (pe_callB call_isi (by rfl) B.b_isinstance (by decide +kernel) (pa_cons (pv 1) (pa_cons (pe_glob (v := .ref CSq) rfl m_Sq rfl) pa_nil)))
      (pe_and (pe_cmpR op_eq (pe_fld (pv 0) rfl) (pe_fld (pv 1) rfl) (nomark _)) (pe_and (pe_cmpR op_eq (pe_fld (pv 0) rfl) (pe_fld (pv 1) rfl) (nomark _)) (pe_and (pe_cmpR op_eq (pe_fld (pv 0) rfl) (pe_fld (pv 1) rfl) (nomark _)) (pe_and (pe_cmpR op_eq (pe_fld (pv 0) rfl) (pe_fld (pv 1) rfl) (nomark _)) (pe_one (pe_cmpR (op_ownEq O_freq G_freq (hr.mono (by decide)) b_freq pass0) (pe_fld (pv 0) rfl) (pe_fld (pv 1) rfl) (nomark _)))))))))), ?_⟩
    rcases k with ⟨y, m', n', s', c', f', p, p', ts, bs, ts', bs', rfl, ⟨dy, hy⟩, FX, FY, k⟩ | ⟨⟨t, ty, kt⟩, k⟩
    · refine ⟨_, rfl, _, _, _, _, true, rfl, .own CSq, ins_ty TS.cl YS hy, kit_self, _, rfl, iteT ?_⟩
      refine ⟨_, rfl, x, CSq, dx, _, _, rfl, hx, TS.cl, TS.nm, sqf_m _ _ _ _ _, _, rfl, y, CSq, dy, _, _, rfl, hy, TS.cl, TS.nm, sqf_m _ _ _ _ _, rfl, _, rfl, ?_⟩
      rw [dec_vint]
      by_cases e1 : m = m'
      case neg =>
        have q := k H (Same.refl H)
        rw [decide_eq_false fun z => e1 z.1] at q
        exact itDn (by simpa using e1) (q)
      refine itD (decide_eq_true e1) ?_
      refine ⟨_, rfl, x, CSq, dx, _, _, rfl, hx, TS.cl, TS.nn, sqf_n _ _ _ _ _, _, rfl, y, CSq, dy, _, _, rfl, hy, TS.cl, TS.nn, sqf_n _ _ _ _ _, rfl, _, rfl, ?_⟩
      rw [dec_vint]
      by_cases e2 : n = n'
      case neg =>
        have q := k H (Same.refl H)
        rw [decide_eq_false fun z => e2 z.2.1] at q
        exact itDn (by simpa using e2) (q)
      refine itD (decide_eq_true e2) ?_
      refine ⟨_, rfl, x, CSq, dx, _, _, rfl, hx, TS.cl, TS.ns, sqf_s _ _ _ _ _, _, rfl, y, CSq, dy, _, _, rfl, hy, TS.cl, TS.ns, sqf_s _ _ _ _ _, rfl, _, rfl, ?_⟩
      rw [dec_vint]
      by_cases e3 : s = s'
      case neg =>
        have q := k H (Same.refl H)
        rw [decide_eq_false fun z => e3 z.2.2.1] at q
        exact itDn (by simpa using e3) (q)
      refine itD (decide_eq_true e3) ?_
      refine ⟨_, rfl, x, CSq, dx, _, _, rfl, hx, TS.cl, TS.nc, sqf_c _ _ _ _ _, _, rfl, y, CSq, dy, _, _, rfl, hy, TS.cl, TS.nc, sqf_c _ _ _ _ _, rfl, _, rfl, ?_⟩
      rw [dec_vbl]
      by_cases e4 : c = c'
      case neg =>
        have q := k H (Same.refl H)
        rw [decide_eq_false fun z => e4 z.2.2.2.1] at q
        exact itDn (by simpa using e4) (q)
      refine itD (decide_eq_true e4) ?_
      obtain ⟨df, _, _, _, _, hf, _⟩ := id FX
      obtain ⟨df', _, _, _, _, hf', _⟩ := id FY
      refine ⟨_, rfl, x, CSq, dx, _, _, rfl, hx, TS.cl, TS.nf, sqf_f _ _ _ _ _, _, rfl, y, CSq, dy, _, _, rfl, hy, TS.cl, TS.nf, sqf_f _ _ _ _ _, f, df, _, _, rfl, hf, ins_ty TFr.cl YFr hf', nfFr, f, .ref f', p, ts, bs, rfl, FX, .inl ⟨f', p', ts', bs', rfl, FY, fun H1 s1 => ?_⟩⟩
      have q := k H1 s1
      rw [show decide (m = m' ∧ n = n' ∧ s = s' ∧ c = c' ∧ p = p' ∧ ts = ts' ∧ bs = bs') = decide (p = p' ∧ ts = ts' ∧ bs = bs') by simp [e1, e2, e3, e4]] at q
      exact q
    · exact ⟨_, rfl, _, _, _, _, false, rfl, .own CSq, ty, kt, _, rfl, iteF k⟩
theorem sc_has : FnScope ["self", "m", "n"] ["self", "m", "n"] (defScope s_has) := ⟨rfl, rfl, rfl, by decide +kernel, rfl, by decide +kernel, by decide +kernel⟩
theorem ok_has {f CSq : Addr} {fd : FuncData} (F : Fun K "has" "Square.has" s_has f fd) (TS : SqTx K CSq) : FnOk P w K mg base CX0 1 f fd ["self", "m", "n"] (spHas CSq) := by
  refine F.ok sc_has (fun vs H Q E h => ?_) (fun cdv A outer s H vs Q E hr h => ?_)
  · obtain ⟨x, m, n, s, c, f, a, b, rfl, _⟩ := h
    rfl
  · obtain ⟨x, m, n, s, c, f, a, b, rfl, ⟨dx, hx⟩, k⟩ := h
    refine ⟨_, (pss_one (ps_ret (pe_and (pe_chain op_le op_lt (pe_fld (pv 0) rfl) (pv 1) (pe_op op_add (pe_fld (pv 0) rfl) (pe_fld (pv 0) rfl))) (pe_one (pe_chain op_le op_lt (pe_fld (pv 0) rfl) (pv 2) (pe_op op_add (pe_fld (pv 0) rfl) (pe_fld (pv 0) rfl))))))), ?_⟩
    have fm := sqf_m m n s c f
    have fnn := sqf_n m n s c f
    have fs := sqf_s m n s c f
    have no : ∀ {X : Prop} [Decidable X], ¬ X → (m ≤ a ∧ a < m + s ∧ n ≤ b ∧ b < n + s → X) → Q (.bl false) H := fun {X} _ h g => by
      rw [decide_eq_false fun z => h (g z)] at k
      exact k
    refine ⟨_, rfl, x, CSq, dx, _, _, rfl, hx, TS.cl, TS.nm, fm, _, rfl, _, _, rfl, rfl, _, rfl, ?_⟩
    by_cases c1 : m ≤ a
    case neg => exact itDn (by simpa using c1) ⟨_, rfl, itDn (by simpa using c1) (no c1 fun z => z.1)⟩
    refine itD (decide_eq_true c1) ?_
    refine ⟨_, rfl, x, CSq, dx, _, _, rfl, hx, TS.cl, TS.nm, fm, _, rfl, x, CSq, dx, _, _, rfl, hx, TS.cl, TS.ns, fs, _, _, rfl, rfl, _, _, rfl, rfl, _, rfl, ?_⟩
    by_cases c2 : a < m + s
    case neg => exact itDn (by simpa using c2) (no c2 fun z => z.2.1)
    refine itD (decide_eq_true c2) ?_
    refine ⟨_, rfl, x, CSq, dx, _, _, rfl, hx, TS.cl, TS.nn, fnn, _, rfl, _, _, rfl, rfl, _, rfl, ?_⟩
    by_cases c3 : n ≤ b
    case neg => exact itDn (by simpa using c3) (no c3 fun z => z.2.2.1)
    refine itD (decide_eq_true c3) ?_
    refine ⟨_, rfl, x, CSq, dx, _, _, rfl, hx, TS.cl, TS.nn, fnn, _, rfl, x, CSq, dx, _, _, rfl, hx, TS.cl, TS.ns, fs, _, _, rfl, rfl, _, _, rfl, rfl, ?_⟩
    have e : decide (m ≤ a ∧ a < m + s ∧ n ≤ b ∧ b < n + s) = decide (b < n + s) := by
      by_cases c4 : b < n + s
      · rw [decide_eq_true c4, decide_eq_true ⟨c1, c2, c3, c4⟩]
      · rw [decide_eq_false c4, decide_eq_false fun z => c4 z.2.2.2]
    rw [e] at k
    exact k
end
end Sq

-- needs HandS.Deep
namespace Sq
open PySem L2 PyProof.Rows
abbrev s_given : Stmt := top 66
abbrev s_passed : Stmt := top 67
theorem lt20 {x : Int} (h0 : -1000000 ≤ x) (h1 : x ≤ 1000000) : x.natAbs < 2 ^ 20 := by
  have : (2 : Nat) ^ 20 = 1048576 := by decide
  omega
theorem lt20f {x : Int} (h0 : -1000000 ≤ x) (h1 : x ≤ 1000000) : Fit x := Nat.lt_of_lt_of_le (lt20 h0 h1) (Nat.pow_le_pow_right (by decide) (by decide))
theorem lt204 {x : Int} (h0 : -1000000 ≤ x) (h1 : x ≤ 1000000) : x.natAbs < 2 ^ 4000 := Nat.lt_of_lt_of_le (lt20 h0 h1) (Nat.pow_le_pow_right (by decide) (by decide))
def NumOk (p : Int) (a : Int × Int) : Prop := 1 ≤ a.2 ∧ (p = 0 → Int.gcd a.1 a.2 = 1 ∧ Bd 45 a) ∧ (p ≠ 0 → a.2 = 1 ∧ 0 ≤ a.1 ∧ a.1 < p)
theorem NumOk.bd {p : Int} {a : Int × Int} (hg : goodP p = true) (h : NumOk p a) : Bd 45 a := by
  by_cases p0 : p = 0
  · exact (h.2.1 p0).2
  · obtain ⟨e, a0, a1⟩ := h.2.2 p0
    have := prime_lt hg p0
    have e45 : (2 : Nat) ^ 45 = 35184372088832 := by decide
    refine ⟨?_, ?_⟩ <;> omega
theorem NumOk.fit {p : Int} {a : Int × Int} (hg : goodP p = true) (h : NumOk p a) : Fit a.1 ∧ Fit a.2 := (h.bd hg).fit (by decide)
def spGiven (C : Addr) : Sp := fun vs H Q _ => ∃ (q : Addr) (a : Int × Int), vs = [.ref q] ∧ PairAt H q a ∧ 1 ≤ a.2 ∧ Int.gcd a.1 a.2 = 1 ∧ a.2.natAbs < 2 ^ 8000 ∧ ∀ y H', Same H H' → NumAt C H' y a.1 a.2 → Q y H'
def spPassed (K : PySem.W.Frag) (C : Addr) : Sp := fun vs H Q _ => ∃ (p : Int) (q : Addr) (k : Int) (a : Int × Int), vs = [.int p, .ref q, .int k] ∧ goodP p = true ∧ PairAt H q a ∧ NumOk p a ∧ 0 ≤ k ∧ k < 1000 ∧ ∀ y H', Same H H' → Giv K C H' p y (some a) → Q y H'
def spLRead (C : Addr) : Sp := fun vs H Q _ => ∃ (p : Int) (y : V) (a : Int × Int), vs = [.int p, y] ∧ goodP p = true ∧ FN C H p y a.1 a.2 ∧ ∀ q H', Same H H' → PairAt H' q a → Q (.ref q) H'
structure RowV (H : Hp) (vs : List V) (prs : List (Int × Int)) : Prop where
  len : vs.length = prs.length
  at_ : ∀ (i : Nat) (v : V) (a : Int × Int), vs[i]? = some v → prs[i]? = some a → ∃ q, v = .ref q ∧ PairAt H q a
theorem RowV.same {H H' : Hp} {vs : List V} {prs : List (Int × Int)} (s : Same H H') (h : RowV H vs prs) : RowV H' vs prs := ⟨h.len, fun i v a e1 e2 => by
  obtain ⟨q, e, hq⟩ := h.at_ i v a e1 e2
  exact ⟨q, e, hq.same s⟩⟩
theorem RowV.nil {H : Hp} : RowV H [] [] := ⟨rfl, fun i v a e _ => by simp at e⟩
theorem RowV.snoc {H : Hp} {vs : List V} {prs : List (Int × Int)} {q : Addr} {a : Int × Int} (h : RowV H vs prs) (hq : PairAt H q a) : RowV H (vs ++ [.ref q]) (prs ++ [a]) := by
  refine ⟨by rw [List.length_append, List.length_append, h.len]; rfl, fun i z b e1 e2 => ?_⟩
  rcases get_snoc e1 with e1 | ⟨i1, rfl⟩
  · rcases get_snoc e2 with e2 | ⟨i2, rfl⟩
    · exact h.at_ i z b e1 e2
    · have := get_len e1
      have := h.len
      omega
  · rcases get_snoc e2 with e2 | ⟨i2, rfl⟩
    · have := get_len e2
      have := h.len
      omega
    · exact ⟨q, rfl, hq⟩
theorem RowV.upd {H : Hp} {vs : List V} {prs : List (Int × Int)} {D : Addr} {xs : List V} {o : HO} (hD : H D = some (.lst xs)) (h : RowV H vs prs) : RowV (L2.upd H D o) vs prs := ⟨h.len, fun i v a e1 e2 => by
  obtain ⟨q, e, hq⟩ := h.at_ i v a e1 e2
  refine ⟨q, e, (upd_ne fun z => ?_).trans hq⟩
  rw [z] at hq
  rw [PairAt, hD] at hq
  cases hq⟩
def RowAt (H : Hp) (l : Addr) (prs : List (Int × Int)) : Prop := ∃ vs, H l = some (.lst vs) ∧ RowV H vs prs
theorem RowAt.same {H H' : Hp} {l : Addr} {prs : List (Int × Int)} (s : Same H H') (h : RowAt H l prs) : RowAt H' l prs := by
  obtain ⟨vs, e, r⟩ := h
  exact ⟨vs, s _ _ e, r.same s⟩
def pairD (a : Int × Int) : PyData := .tuple [.int a.1, .int a.2]
theorem rowV_dp {K : PySem.W.Frag} {H : Hp} : ∀ {vs : List V} {prs : List (Int × Int)}, RowV H vs prs → DpAll K H vs (prs.map pairD)
  | [], [], _ => .nil
  | [], _ :: _, h => by have := h.len; simp at this
  | _ :: _, [], h => by have := h.len; simp at this
  | v :: vs, a :: prs, h => by
    obtain ⟨q, e, hq⟩ := h.at_ 0 v a rfl rfl
    subst e
    have tl : RowV H vs prs := ⟨by have := h.len; simpa using this, fun i x b e1 e2 => h.at_ (i + 1) x b e1 e2⟩
    exact .cons (.tup (SqT.of hq) (.cons (.int _) (.cons (.int _) .nil))) (rowV_dp tl)
theorem RowAt.dp {K : PySem.W.Frag} {H : Hp} {l : Addr} {prs : List (Int × Int)} (h : RowAt H l prs) : Dp K H (.ref l) (.list (prs.map pairD)) := by
  obtain ⟨vs, e, r⟩ := h
  exact .lst (SqL.of e) (rowV_dp r)
theorem row_lay : ∀ prs : List (Int × Int), PyData.canLayAll0 (prs.map pairD) = true
  | [] => by simp [PyData.canLayAll0]
  | a :: r => by
    show (PyData.canLay0 (pairD a) && PyData.canLayAll0 (r.map pairD)) = true
    rw [row_lay r]
    simp [pairD, PyData.canLay0, PyData.canLayAll0]
theorem row_depth : ∀ prs : List (Int × Int), PyData.depthAll (prs.map pairD) ≤ 1
  | [] => by simp [PyData.depthAll]
  | a :: r => by
    have := row_depth r
    show max (PyData.depth (pairD a)) (PyData.depthAll (r.map pairD)) ≤ 1
    have e : PyData.depth (pairD a) = 1 := by simp [pairD, PyData.depth, PyData.depthAll]
    omega
theorem row_shaped (prs : List (Int × Int)) : SeqAt.shaped (.list (prs.map pairD)) = true := by
  unfold SeqAt.shaped
  rw [Bool.and_eq_true, decide_eq_true_eq]
  refine ⟨?_, ?_⟩
  · show PyData.canLayAll0 (prs.map pairD) = true
    exact row_lay prs
  · show PyData.depthAll (prs.map pairD) + 1 ≤ 64
    have := row_depth prs
    omega
theorem none_free (prs : List (Int × Int)) : ((prs.map pairD).any fun z => PyData.eqv z .none) = false := by
  rw [List.any_eq_false]
  intro z hz
  obtain ⟨a, _, rfl⟩ := List.mem_map.mp hz
  show ¬ PyData.eqv (pairD a) .none = true
  simp [pairD, PyData.eqv]
def spRowT (C : Addr) : Sp := fun vs H Q _ => ∃ (p : Int) (ct : Addr) (ys : List V) (prs : List (Int × Int)), vs = [.int p, .ref ct] ∧ goodP p = true ∧ H ct = some (.tup ys) ∧ FNs C H p ys prs ∧ ys.length ≤ 1000 ∧ ∀ l H', Same H H' → RowAt H' l prs → Q (.ref l) H'
theorem low_self {t u T U : Int} (pu : 1 ≤ u) (cop : Int.gcd t u = 1) (L : Low t u T U) : T = t ∧ U = u := (low_eq (by omega) (by omega) L (⟨pu, cop, rfl, Nat.le_refl _, Nat.le_refl _⟩ : Low t u t u)).mpr rfl
section
variable {P : Program} {w : World} {K : PySem.W.Frag} {mg : Str → Option Value} {base : Heap}
theorem sc_given : FnScope ["_law_pair_here"] ["_law_pair_here"] (defScope s_given) := ⟨rfl, rfl, rfl, by decide +kernel, rfl, by decide +kernel, by decide +kernel⟩
theorem ok_given {f C CN fR : Addr} {fd fdR : FuncData} (F : Fun K "_law_given" "_law_given" s_given f fd) (m_C : mg "Ratio" = some (.ref C)) (M : Mk K C fR)
    (G_R : FnOk P w K mg base (L2.CX P w) 3 fR fdR ["self", "top", "bottom"] (spRatioInit K C CN)) (b_R : Binds K fdR ["self", "top", "bottom"] []) : FnOk P w K mg base CX0 5 f fd ["_law_pair_here"] (spGiven C) := by
  refine F.ok sc_given (fun vs H Q E h => ?_) (fun cdv A outer s H vs Q E hr h => ?_)
  · obtain ⟨q, a, rfl, _⟩ := h
    rfl
  · obtain ⟨q, a, rfl, hq, pu, cop, su, k⟩ := h
    refine ⟨_, (pss_cons (ps_if (pt_cmpR op_eq (pe_ix ix_tup (pv 0) pe_int (fun _ _ => rfl)) pe_int (nomark _)) (pss_one (ps_ret (pe_ix ix_tup (pv 0) pe_int (fun _ _ => rfl)))) pss_nil)
      (pss_one (ps_ret (pe_make M G_R (hr.mono (by decide)) rfl m_C b_R .nil passL (pa_cons (pe_ix ix_tup (pv 0) pe_int (fun _ _ => rfl)) (pa_cons (pe_ix ix_tup (pv 0) pe_int (fun _ _ => rfl)) pa_nil)))))), ?_⟩
    refine ⟨_, rfl, _, _, _, _, rfl, rfl, SqT.of hq, rfl, rfl, _, rfl, ?_⟩
    by_cases c : a.2 = 1
    · refine itD (by simp [c]) ⟨_, rfl, _, _, _, _, rfl, rfl, SqT.of hq, rfl, k _ _ (Same.refl H) (.inr ⟨rfl, c⟩)⟩
    · refine itDn (by simp [c]) ⟨_, rfl, _, _, _, _, rfl, rfl, SqT.of hq, rfl, _, rfl, _, _, _, _, rfl, rfl, SqT.of hq, rfl, fun y dy ny ndy ne => mk_go (by omega) su ny ndy ne fun T U H1 L R s1 => ⟨rfl, ?_⟩⟩
      obtain ⟨rfl, rfl⟩ := low_self pu cop L
      exact k _ _ s1 (.inl ⟨y, rfl, R⟩)
theorem sc_passed : FnScope ["_law_prime_here", "_law_pair_here", "_law_k", "_law_bottom"] ["_law_prime_here", "_law_pair_here", "_law_k"] (defScope s_passed) := ⟨rfl, rfl, rfl, by decide +kernel, rfl, by decide +kernel, by decide +kernel⟩
theorem passed_giv {K : PySem.W.Frag} {C : Addr} {H : Hp} {p b t u : Int} {a : Int × Int} {y : V} (hg : goodP p = true) (p0 : p ≠ 0) (ok : NumOk p a) (hb : (p = 2 ∧ b = 3) ∨ (p ≠ 2 ∧ b = 2)) (L : Low (a.1 * b + p) b t u) (hy : NumAt C H y t u) : Giv K C H p y (some a) := by
  obtain ⟨p2, p3, hp⟩ := goodP_pos hg p0
  obtain ⟨e1, a0, a1⟩ := ok.2.2 p0
  have b1 : 2 ≤ b ∧ b ≤ 3 := by omega
  have sb : b.natAbs < 2 ^ 2 := by
    have : (2 : Nat) ^ 2 = 4 := by decide
    omega
  have cop : ∀ z : Int, p ∣ b * z → p ∣ z := by
    intro z hz
    have g : Int.gcd p b = 1 := by
      rcases hb with ⟨rfl, rfl⟩ | ⟨n2, rfl⟩
      · decide
      · exact gcd_prime p2 p3 hp (by decide) (by omega)
    have dn : p.natAbs ∣ b.natAbs * z.natAbs := by
      rw [← Int.natAbs_mul]
      exact Int.natAbs_dvd_natAbs.mpr hz
    exact Int.natAbs_dvd_natAbs.mp (Nat.Coprime.dvd_of_dvd_mul_left (show Nat.Coprime p.natAbs b.natAbs from g) dn)
  have v := L.val
  have pu := L.pos
  have ub : u ≤ b := by have := L.lu; omega
  have tb : t.natAbs < 2 ^ 40 := by
    refine Nat.lt_of_le_of_lt L.lt ?_
    have h1 : (a.1 * b).natAbs < 2 ^ 30 := by
      have : (a.1 * b).natAbs < 2 ^ (20 + 2) := wide_lt (show a.1.natAbs < 2 ^ 20 by
        have := prime_lt hg p0
        have : (2 : Nat) ^ 20 = 1048576 := by decide
        omega) sb
      exact Nat.lt_of_lt_of_le this (by decide)
    have : (2 : Nat) ^ 30 = 1073741824 := by decide
    have : (2 : Nat) ^ 40 = 1099511627776 := by decide
    omega
  refine ⟨t, u, hy, pu, Nat.lt_of_lt_of_le tb (Nat.pow_le_pow_right (by decide) (by decide)), lt20f (by omega) (by omega), fun h => absurd h p0, fun _ => ⟨?_, e1, a0, a1, ?_⟩⟩
  · intro z
    have du : p ∣ u := Int.dvd_of_emod_eq_zero z
    have : p ≤ u := Int.le_of_dvd (by omega) du
    rcases hb with ⟨rfl, rfl⟩ | ⟨n2, rfl⟩
    · have u23 : u = 2 ∨ u = 3 := by omega
      rcases u23 with rfl | rfl
      · have e : t * 3 = (a.1 * 3 + 2) * 2 := v
        have := L.cop
        have t2 : (2 : Int) ∣ t := by omega
        obtain ⟨k, hk⟩ := t2
        rw [hk] at this
        have d := Int.dvd_coe_gcd (show (2 : Int) ∣ 2 * k from ⟨k, rfl⟩) (Int.dvd_refl 2)
        rw [this] at d
        exact absurd d (by decide)
      · omega
    · omega
  · have d : p ∣ a.1 * u - t := by
      refine cop _ ⟨-u, ?_⟩
      rw [Int.mul_sub, Int.mul_comm b t, v, Int.add_mul]
      have : b * (a.1 * u) = a.1 * b * u := by rw [← Int.mul_assoc, Int.mul_comm b a.1]
      rw [this, Int.mul_neg]
      omega
    obtain ⟨k, hk⟩ := d
    refine ⟨k, ?_⟩
    rw [Int.mul_comm k p, ← hk]
    omega
theorem ok_passed {f C CN fR fgiven : Addr} {fd fdR fdgiven : FuncData} (F : Fun K "_law_passed" "_law_passed" s_passed f fd) (D : DTx mg) (m_C : mg "Ratio" = some (.ref C)) (M : Mk K C fR)
    (G_R : FnOk P w K mg base (L2.CX P w) 3 fR fdR ["self", "top", "bottom"] (spRatioInit K C CN)) (b_R : Binds K fdR ["self", "top", "bottom"] [])
    (G_given : FnOk P w K mg base CX0 5 fgiven fdgiven ["_law_pair_here"] (spGiven C)) (m_given : mg "_law_given" = some (.ref fgiven)) (k_given : PySem.W.keepIn K (.ref fgiven) = true) (b_given : Binds K fdgiven ["_law_pair_here"] []) : FnOk P w K mg base CX0 6 f fd ["_law_prime_here", "_law_pair_here", "_law_k"] (spPassed K C) := by
  refine F.ok sc_passed (fun vs H Q E h => ?_) (fun cdv A outer s H vs Q E hr h => ?_)
  · obtain ⟨p, q, k, a, rfl, _⟩ := h
    rfl
  · obtain ⟨p, q, kk, a, rfl, hg, hq, ok, k0, k1, k⟩ := h
    refine ⟨_, (pss_cons (ps_if (pt_cmpR op_eq (pv 0) pe_int (nomark _)) (pss_one (ps_ret (pe_call G_given (hr.mono (by decide)) rfl m_given k_given b_given .nil pass0 (pa_cons (pv 1) pa_nil)))) pss_nil)
      (pss_cons (ps_if (pt_cmpR op_eq (pe_op op_mod (pv 2) pe_int) pe_int (nomark _))
          (pss_cons (ps_set (i := 3) sc_passed.nd rfl (Or.inl rfl) (pe_op op_add pe_int (pe_callTy call_int1 (by rfl) D.b_int (by decide +kernel) (pa_cons (pe_cmpR op_eq (pv 0) pe_int (nomark _)) pa_nil))))
          (pss_one (ps_ret (pe_make M G_R (hr.mono (by decide)) rfl m_C b_R .nil passL (pa_cons (pe_op op_add (pe_op op_mulW (pe_ix ix_tup (pv 1) pe_int (fun _ _ => rfl)) (pv 3)) (pv 0)) (pa_cons (pv 3) pa_nil)))))) pss_nil)
      (pss_one (ps_ret (pe_op op_add (pe_ix ix_tup (pv 1) pe_int (fun _ _ => rfl)) (pe_op op_mulW (pv 0) (pe_op op_sub (pe_op op_mod (pv 2) pe_int) pe_int))))))), ?_⟩
    refine ⟨_, rfl, rfl, _, rfl, ?_⟩
    by_cases p0 : p = 0
    · refine itD (by simp [p0]) ⟨_, rfl, q, a, rfl, hq, ok.1, (ok.2.1 p0).1, fit_up (ok.fit hg).2, fun y H1 s1 ny => ?_⟩
      exact k y H1 s1 ⟨a.1, a.2, ny, ok.1, (ok.fit hg).1, (ok.fit hg).2, fun _ => ⟨rfl, (ok.2.1 p0).1⟩, fun h => absurd p0 h⟩
    · have pl := prime_lt hg p0
      obtain ⟨e1, a0, a1⟩ := ok.2.2 p0
      refine itDn (by simp [p0]) ⟨_, rfl, _, _, rfl, rfl, (by show (0 : Int) < 4; decide), rfl, _, rfl, ?_⟩
      have m0 := Int.emod_nonneg kk (show (4 : Int) ≠ 0 by decide)
      have m1 := Int.emod_lt_of_pos kk (show (0 : Int) < 4 by decide)
      by_cases c : kk % 4 = 3
      · refine itD (by simp [c]) ?_
        have fin : ∀ b : Int, ((p = 2 ∧ b = 3) ∨ (p ≠ 2 ∧ b = 2)) → _ := fun b hb => show ∀ (y dy : Addr), H y = none → H dy = none → dy ≠ y → spRatioInit K C CN [.ref y, .int (a.1 * b + p), .int b] (upd (upd H dy (.own y)) y (.ins C dy [])) (fun v H2 => v = .non ∧ Q (.ref y) H2) E0 from fun y dy ny ndy ne => mk_go (by omega) (fit_up (lt20f (by omega) (by omega))) ny ndy ne fun t u H1 L R s1 => ⟨rfl, k (.ref y) H1 s1 (passed_giv hg p0 ok hb L (.inl ⟨y, rfl, R⟩))⟩
        have mo : ∀ b : Int, 2 ≤ b → b ≤ 3 → CMulW a.1 b := fun b b0 b1 => mul_ok (lt204 (by omega) (by omega)) (lt204 (by omega) (by omega))
        refine ⟨_, rfl, rfl, .inr ⟨_, rfl, _, _, rfl, rfl, ?_⟩⟩
        by_cases c2 : p = 2
        · subst c2
          exact ⟨_, rfl, _, _, _, _, rfl, rfl, SqT.of hq, rfl, _, rfl, _, _, rfl, rfl, mo 3 (by decide) (by decide), _, rfl, _, _, rfl, rfl, _, rfl, fin 3 (.inl ⟨rfl, rfl⟩)⟩
        · have e : decide (V.int p = V.int 2) = false := decide_eq_false fun e => c2 (V.int.inj e)
          rw [e]
          exact ⟨_, rfl, _, _, _, _, rfl, rfl, SqT.of hq, rfl, _, rfl, _, _, rfl, rfl, mo 2 (by decide) (by decide), _, rfl, _, _, rfl, rfl, _, rfl, fin 2 (.inr ⟨c2, rfl⟩)⟩
      · refine itDn (by simp [c]) ?_
        refine ⟨_, rfl, _, _, _, _, rfl, rfl, SqT.of hq, rfl, _, rfl, _, rfl, _, _, rfl, rfl, (by show (0 : Int) < 4; decide), _, _, rfl, rfl, _, _, rfl, rfl, mul_ok (lt204 (by omega) (by omega)) (lt204 (by omega) (by omega)), _, _, rfl, rfl, ?_⟩
        have sz : (a.1 + p * (kk % 4 - 1)).natAbs < 2 ^ 60 := by
          have : kk % 4 - 1 = -1 ∨ kk % 4 - 1 = 0 ∨ kk % 4 - 1 = 1 := by omega
          have e60 : (2 : Nat) ^ 60 = 1152921504606846976 := by decide
          rcases this with e | e | e <;> rw [e] <;> omega
        have g := giv_int (K := K) (C := C) (H := H) hg (fit60 sz)
        have en : nrm p (a.1 + p * (kk % 4 - 1)) = a.1 := by
          unfold nrm
          rw [if_neg p0, Int.add_mul_emod_self_left, Int.emod_eq_of_lt a0 a1]
        rw [en] at g
        have ea : a = (a.1, 1) := by rw [← e1]
        rw [← ea] at g
        exact k _ _ (Same.refl H) g
end
end Sq

namespace Sq
open PySem L2 PyProof.Rows
abbrev s_number : Stmt := top 70
abbrev s_small : Stmt := top 73
/-- the small numbers that are drawn -/
def NumS (p : Int) (a : Int × Int) : Prop := NumOk p a ∧ (p = 0 → a.1.natAbs ≤ 9 ∧ a.2 ≤ 6)
def spNumber : Sp := fun vs H Q _ => ∃ (st : Addr) (p : Int) (ad : Addr), vs = [.ref st, .int p] ∧ StA H st ad ∧ goodP p = true ∧ ∀ q a H', StA H' st ad → But st H H' → PairAt H' q a → NumS p a → Q (.ref q) H'
def spSmall : Sp := fun vs H Q _ => ∃ (st : Addr) (p : Int) (n : Nat) (ad : Addr), vs = [.ref st, .int p, .int (n : Int)] ∧ StA H st ad ∧ goodP p = true ∧ n ≤ 200 ∧ ∀ l prs H', StA H' st ad → But st H H' → H l = none → RowAt H' l prs → prs.length = n → (∀ a ∈ prs, NumS p a) → Q (.ref l) H'
def spLTrim : Sp := fun vs H Q _ => ∃ (l : Addr) (prs : List (Int × Int)), vs = [.ref l] ∧ RowAt H l prs ∧ prs.length ≤ 1000 ∧ ∀ l' H', Same H H' → RowAt H' l' (trimP prs) → Q (.ref l') H'
theorem but_pair {st ad : Addr} {H H' : Hp} {q : Addr} {a : Int × Int} (S : StA H st ad) (b : But st H H') (h : PairAt H q a) : PairAt H' q a := by
  refine b _ _ h fun e => ?_
  obtain ⟨_, _, _, _, _, h1, _⟩ := S
  rw [e] at h
  rw [PairAt, h1] at h
  cases h
theorem but_row {st ad : Addr} {H H' : Hp} {vs : List V} {prs : List (Int × Int)} (S : StA H st ad) (b : But st H H') (h : RowV H vs prs) : RowV H' vs prs := ⟨h.len, fun i v a e1 e2 => by
  obtain ⟨q, e, hq⟩ := h.at_ i v a e1 e2
  exact ⟨q, e, but_pair S b hq⟩⟩
theorem num_ok0 {p : Int} (hg : goodP p = true) : NumOk p (0, 1) := ⟨by decide, fun _ => ⟨by decide, by decide, by decide⟩, fun p0 => ⟨rfl, by decide, by have := prime_lt hg p0; show (0 : Int) < p; omega⟩⟩
theorem b5 {x : Int} (h : x.natAbs < 32) : x.natAbs < 2 ^ 45 := Nat.lt_of_lt_of_le h (by decide)
theorem StA.same {H H' : Hp} {p ad : Addr} (S : StA H p ad) (s : Same H H') : StA H' p ad := by
  obtain ⟨ns, i, l, m, c, h1, h2, r⟩ := S
  exact ⟨ns, i, l, m, c, s _ _ h1, s _ _ h2, r⟩
theorem StA.up {H : Hp} {p ad q : Addr} {o : HO} (S : StA H p ad) (hq : H q = none) : StA (L2.upd H q o) p ad := S.same (same_new (Same.refl H) hq)
theorem StA.ne {H : Hp} {p ad q : Addr} (S : StA H p ad) (hq : H q = none) : q ≠ p ∧ q ≠ ad := by
  obtain ⟨ns, i, l, m, c, h1, h2, _⟩ := S
  exact ⟨(ne_of_none h1 hq).symm, (ne_of_none h2 hq).symm⟩
theorem StA.updL {H : Hp} {p ad q : Addr} {o : HO} (S : StA H p ad) (h : q ≠ p ∧ q ≠ ad) : StA (L2.upd H q o) p ad := by
  obtain ⟨ns, i, l, m, c, h1, h2, r⟩ := S
  exact ⟨ns, i, l, m, c, (upd_ne h.1.symm).trans h1, (upd_ne h.2.symm).trans h2, r⟩
theorem but_new {p q : Addr} {H H1 : Hp} {o : HO} (a : But p H H1) (n : H q = none) : But p H (L2.upd H1 q o) := fun c u h nc => (upd_ne (ne_of_none h n)).trans (a c u h nc)
section
variable {P : Program} {w : World} {K : PySem.W.Frag} {mg : Str → Option Value} {base : Heap}
theorem sc_number : FnScope ["_law_state_here", "_law_prime_here", "_law_kind"] ["_law_state_here", "_law_prime_here"] (defScope s_number) := ⟨rfl, rfl, rfl, by decide +kernel, rfl, by decide +kernel, by decide +kernel⟩
theorem ok_number {f fdraw fpair : Addr} {fd fddraw fdpair : FuncData} (F : Fun K "_law_number" "_law_number" s_number f fd)
    (G_draw : FnOk P w K mg base CX0 1 fdraw fddraw ["_law_state_here", "_law_many"] spDrawA) (m_draw : mg "_law_draw" = some (.ref fdraw)) (k_draw : PySem.W.keepIn K (.ref fdraw) = true) (b_draw : Binds K fddraw ["_law_state_here", "_law_many"] [])
    (G_pair : FnOk P w K mg base CX0 2 fpair fdpair ["_law_prime_here", "_law_top", "_law_bottom"] spPair) (m_pair : mg "_law_pair" = some (.ref fpair)) (k_pair : PySem.W.keepIn K (.ref fpair) = true) (b_pair : Binds K fdpair ["_law_prime_here", "_law_top", "_law_bottom"] []) : FnOk P w K mg base CX0 3 f fd ["_law_state_here", "_law_prime_here"] spNumber := by
  refine F.ok sc_number (fun vs H Q E h => ?_) (fun cdv A outer s H vs Q E hr h => ?_)
  · obtain ⟨st, p, ad, rfl, _⟩ := h
    rfl
  · obtain ⟨st, p, ad, rfl, S, hg, k⟩ := h
    refine ⟨_, (pss_cons (ps_if (pt_cmpR op_gt (pv 1) pe_int (nomark _)) (pss_one (ps_ret (pe_tup (pa_cons (pe_call G_draw (hr.mono (by decide)) rfl m_draw k_draw b_draw .nil pass0 (pa_cons (pv 0) (pa_cons (pv 1) pa_nil))) (pa_cons pe_int pa_nil))))) pss_nil)
      (pss_cons (ps_set (i := 2) sc_number.nd rfl (Or.inl rfl) (pe_call G_draw (hr.mono (by decide)) rfl m_draw k_draw b_draw .nil pass0 (pa_cons (pv 0) (pa_cons pe_int pa_nil))))
      (pss_cons (ps_if (pt_cmpR op_eq (pv 2) pe_int (nomark _)) (pss_one (ps_ret (pe_tup (pa_cons pe_int (pa_cons pe_int pa_nil))))) pss_nil)
      (pss_cons (ps_if (pt_cmpR op_eq (pv 2) pe_int (nomark _)) (pss_one (ps_ret (pe_call G_pair (hr.mono (by decide)) rfl m_pair k_pair b_pair .nil pass0 (pa_cons pe_int (pa_cons (pe_op op_sub (pe_call G_draw (hr.mono (by decide)) rfl m_draw k_draw b_draw .nil pass0 (pa_cons (pv 0) (pa_cons pe_int pa_nil))) pe_int) (pa_cons (pe_op op_add pe_int (pe_call G_draw (hr.mono (by decide)) rfl m_draw k_draw b_draw .nil pass0 (pa_cons (pv 0) (pa_cons pe_int pa_nil)))) pa_nil)))))) pss_nil)
      (pss_one (ps_ret (pe_tup (pa_cons (pe_op op_sub (pe_call G_draw (hr.mono (by decide)) rfl m_draw k_draw b_draw .nil pass0 (pa_cons (pv 0) (pa_cons pe_int pa_nil))) pe_int) (pa_cons pe_int pa_nil))))))))), ?_⟩
    refine ⟨_, rfl, _, _, rfl, rfl, _, rfl, ?_⟩
    by_cases p0 : p = 0
    · subst p0
      refine itDn (by decide) ?_
      refine ⟨_, rfl, st, _, _, rfl, by decide, by decide, S, fun v H1 v0 v1 S1 B1 => ?_⟩
      refine ⟨_, rfl, rfl, _, rfl, ite2 (fun _ => ?_) (fun _ => ?_)⟩
      · exact ⟨(by show 2 ≤ sizeLine; decide), fun q hq => k q (0, 1) _ (S1.up hq) (B1.new hq) upd_same ⟨num_ok0 hg, fun _ => ⟨by decide, by decide⟩⟩⟩
      · refine ⟨_, rfl, rfl, _, rfl, ite2 (fun _ => ?_) (fun _ => ?_)⟩
        · refine ⟨_, rfl, st, _, _, rfl, by decide, by decide, S1, fun t H2 t0 t1 S2 B2 => ⟨_, _, rfl, rfl, _, rfl, st, _, _, rfl, by decide, by decide, S2, fun u H3 u0 u1 S3 B3 => ⟨_, _, rfl, rfl, ?_⟩⟩⟩
          refine ⟨0, _, _, rfl, hg, fun h => absurd rfl h, by omega, fit_up (lt20f (by omega) (by omega)), fun q H4 s4 hq => ?_⟩
          have L := low_lowp (t - 9) (u := 1 + u) (by omega)
          refine k q _ H4 (S3.same s4) (((B1.trans B2).trans B3).trans (Same.but s4)) hq ?_
          unfold npair
          rw [if_pos rfl]
          have lt := L.lt
          have lu := L.lu
          have pu := L.pos
          exact ⟨⟨L.pos, fun _ => ⟨L.cop, b5 (by omega), b5 (by omega)⟩, fun h => absurd rfl h⟩, fun _ => ⟨by omega, by omega⟩⟩
        · refine ⟨_, rfl, st, _, _, rfl, by decide, by decide, S1, fun t H2 t0 t1 S2 B2 => ⟨_, _, rfl, rfl, (by show 2 ≤ sizeLine; decide), fun q hq => ?_⟩⟩
          refine k q (t - 3, 1) _ (S2.up hq) ((B1.trans B2).new hq) upd_same ⟨⟨(by show (1 : Int) ≤ 1; decide), fun _ => ⟨Int.gcd_one_right _, b5 (show (t - 3).natAbs < 32 by omega), (by show (1 : Int).natAbs < 2 ^ 45; decide)⟩, fun h => absurd rfl h⟩, fun _ => ⟨(show (t - 3).natAbs ≤ 9 by omega), (by show (1 : Int) ≤ 6; decide)⟩⟩
    · have pl := prime_lt hg p0
      refine itD (by simp; omega) ?_
      refine ⟨_, rfl, _, rfl, st, _, _, rfl, by omega, by omega, S, fun v H1 v0 v1 S1 B1 => ⟨(by show 2 ≤ sizeLine; decide), fun q hq => ?_⟩⟩
      exact k q (v, 1) _ (S1.up hq) (B1.new hq) upd_same ⟨⟨(by show (1 : Int) ≤ 1; decide), fun h => absurd h p0, fun _ => ⟨rfl, v0, v1⟩⟩, fun h => absurd h p0⟩
theorem sc_small : FnScope ["_law_state_here", "_law_prime_here", "_law_size", "_law_k"] ["_law_state_here", "_law_prime_here", "_law_size"] (defScope s_small) := ⟨rfl, rfl, rfl, by decide +kernel, rfl, by decide +kernel, by decide +kernel⟩
theorem ok_small {f fnumber : Addr} {fd fdnumber : FuncData} (F : Fun K "_law_small" "_law_small" s_small f fd) (D : DTx mg)
    (G_number : FnOk P w K mg base CX0 3 fnumber fdnumber ["_law_state_here", "_law_prime_here"] spNumber) (m_number : mg "_law_number" = some (.ref fnumber)) (k_number : PySem.W.keepIn K (.ref fnumber) = true) (b_number : Binds K fdnumber ["_law_state_here", "_law_prime_here"] []) : FnOk P w K mg base CX0 4 f fd ["_law_state_here", "_law_prime_here", "_law_size"] spSmall := by
  refine F.ok sc_small (fun vs H Q E h => ?_) (fun cdv A outer s H vs Q E hr h => ?_)
  · obtain ⟨st, p, n, ad, rfl, _⟩ := h
    rfl
  · obtain ⟨st, p, n, ad, rfl, S, hg, hn, k⟩ := h
    refine ⟨_, (pss_one (ps_ret (pe_lc (own := [("_law_k", 3)]) (g := gName 3) (tt := tYes) rfl sc_small.nd (pi_range1 (by rfl) D.b_range (pa_cons (pv 2) pa_nil)) (blkOk_by (N := ["_law_state_here", "_law_prime_here", "_law_size", "_law_k"]) (sc := defScope s_small) (by decide +kernel)) (fun _ _ _ _ _ => pg_name (i := 3) sc_small.nd rfl (Or.inl rfl)) (fun _ _ _ _ _ => pts_nil)
        (fun _ _ _ _ _ => pe_call G_number (hr.mono (by decide)) rfl m_number k_number b_number .nil pass0 (pa_cons (pv 0) (pa_cons (pv 1) pa_nil)))))), ?_⟩
    refine ⟨_, rfl, (n : Int), rfl, by omega, by omega, fun L hL => ?_⟩
    refine lc_range (lo := 0) (n := n) (fun i H' => ∃ (vs : List V) (prs : List (Int × Int)), StA H' st ad ∧ But st H H' ∧ H' L = some (.lst vs) ∧ RowV H' vs prs ∧ prs.length = i ∧ ∀ a ∈ prs, NumS p a) ?_ ?_ ?_
    · exact ⟨[], [], S.up hL, (But.refl st H).new hL, upd_same, RowV.nil, rfl, fun a h => by cases h⟩
    · rintro i H1 hi ⟨vs, prs, S1, B1, h1, r1, l1, ok1⟩
      refine ⟨rfl, _, rfl, _, rfl, st, p, ad, rfl, S1, hg, fun q a H2 S2 B2 hq ok => ?_⟩
      have nL := S.ne hL
      have h2 := B2 _ _ h1 nL.1
      have e : (sizeLine : Nat) = 16777216 := sizeLine_eq
      refine ⟨vs, h2, by have := r1.len; omega, vs ++ [.ref q], prs ++ [a], ?_, ?_, upd_same, ((but_row S1 B2 r1).snoc hq).upd h2, by simp [l1], ?_⟩
      · exact S2.updL nL
      · exact but_new (B1.trans B2) hL
      · intro b hb
        rcases List.mem_append.mp hb with hb | hb
        · exact ok1 b hb
        · rw [List.mem_singleton.mp hb]
          exact ok
    · rintro H1 ⟨vs, prs, S1, B1, h1, r1, l1, ok1⟩
      exact k L prs H1 S1 B1 hL ⟨vs, h1, r1⟩ l1 ok1
end
end Sq

namespace Sq
open PySem L2 PyProof.Rows PySem.Spec
abbrev s_unit : Stmt := top 71
def spUnit : Sp := fun vs H Q _ => ∃ (st : Addr) (p : Int) (ad : Addr), vs = [.ref st, .int p] ∧ StA H st ad ∧ goodP p = true ∧ ∀ q a H', StA H' st ad → But st H H' → PairAt H' q a → NumS p a → a.1 ≠ 0 → Q (.ref q) H'
section
variable {P : Program} {w : World} {K : PySem.W.Frag} {mg : Str → Option Value} {base : Heap}
theorem sc_unit : FnScope ["_law_state_here", "_law_prime_here", "_law_found"] ["_law_state_here", "_law_prime_here"] (defScope s_unit) := ⟨rfl, rfl, rfl, by decide +kernel, rfl, by decide +kernel, by decide +kernel⟩
theorem ok_unit {f fnumber : Addr} {fd fdnumber : FuncData} (F : Fun K "_law_unit" "_law_unit" s_unit f fd)
    (G_number : FnOk P w K mg base CX0 3 fnumber fdnumber ["_law_state_here", "_law_prime_here"] spNumber) (m_number : mg "_law_number" = some (.ref fnumber)) (k_number : PySem.W.keepIn K (.ref fnumber) = true) (b_number : Binds K fdnumber ["_law_state_here", "_law_prime_here"] []) : FnOk P w K mg base CX0 4 f fd ["_law_state_here", "_law_prime_here"] spUnit := by
  refine F.ok sc_unit (fun vs H Q E h => ?_) (fun cdv A outer s H vs Q E hr h => ?_)
  · obtain ⟨st, p, ad, rfl, _⟩ := h
    rfl
  · obtain ⟨st, p, ad, rfl, S, hg, k⟩ := h
    refine ⟨_, (pss_cons (ps_set (i := 2) sc_unit.nd rfl (Or.inl rfl) (pe_call G_number (hr.mono (by decide)) rfl m_number k_number b_number .nil pass0 (pa_cons (pv 0) (pa_cons (pv 1) pa_nil))))
      (pss_cons (ps_if (pt_cmpR op_eq (pe_ix ix_tup (pv 2) pe_int (fun _ _ => rfl)) pe_int (nomark _))
        (pss_one (ps_ret (pe_tup (pa_cons pe_int (pa_cons pe_int pa_nil)))))
        pss_nil)
      (pss_one (ps_ret (pv 2))))), ?_⟩
    refine ⟨_, rfl, _, rfl, st, p, ad, rfl, S, hg, fun q a H1 S1 B1 hq ok => ?_⟩
    refine ⟨_, rfl, _, _, _, _, rfl, rfl, SqT.of hq, rfl, rfl, _, rfl, ?_⟩
    by_cases c : a.1 = 0
    · refine itD (by simp [c]) ⟨(by show 2 ≤ sizeLine; decide), fun q2 hq2 => ?_⟩
      refine k q2 (1, 1) _ (S1.up hq2) (B1.new hq2) upd_same ⟨⟨by decide, fun _ => ⟨by decide, by decide, by decide⟩, fun p0 => ⟨rfl, by decide, by have := prime_lt hg p0; show (1 : Int) < p; omega⟩⟩, fun _ => ⟨by decide, by decide⟩⟩ (by decide)
    · exact itDn (by simp [c]) ⟨_, rfl, k q a H1 S1 B1 hq ok c⟩
end
end Sq
namespace Sq
open PySem L2 PyProof.Rows PySem.Spec
theorem RowV.get {H : Hp} {vs : List V} {prs : List (Int × Int)} {j : Nat} (h : RowV H vs prs) (l : j < prs.length) : ∃ q, vs[j]? = some (.ref q) ∧ PairAt H q prs[j] := by
  have l2 : j < vs.length := by rw [h.len]; exact l
  obtain ⟨q, e, hq⟩ := h.at_ j _ _ (List.getElem?_eq_getElem l2) (List.getElem?_eq_getElem l)
  exact ⟨q, by rw [List.getElem?_eq_getElem l2, e], hq⟩
end Sq

namespace Sq
open PySem L2 PyProof.Rows
abbrev s_lpoly : Stmt := top 72
theorem RatAt.updl {C : Addr} {H : Hp} {x q : Addr} {t u : Int} {xs : List V} {o : HO} (hq : H q = some (.lst xs)) (h : RatAt C H x t u) : RatAt C (L2.upd H q o) x t u := by
  obtain ⟨dx, r⟩ := h
  refine ⟨dx, (upd_ne fun z => ?_).trans r⟩
  rw [z, hq] at r
  cases r
theorem FldAt.updl {C : Addr} {H : Hp} {x q : Addr} {p : Int} {xs : List V} {o : HO} (hq : H q = some (.lst xs)) (h : FldAt C H x p) : FldAt C (L2.upd H q o) x p := by
  obtain ⟨dx, R⟩ := h
  refine ⟨dx, (upd_ne fun z => ?_).trans R⟩
  rw [z, hq] at R
  cases R
theorem Pol.updl {C CP CF : Addr} {H : Hp} {x q : Addr} {p : Int} {prs : List (Int × Int)} {xs : List V} {o : HO} (hq : H q = some (.lst xs)) (h : Pol C CP CF H x p prs) : Pol C CP CF (L2.upd H q o) x p prs := by
  obtain ⟨dx, fx, ct, ys, PO⟩ := h
  refine ⟨dx, fx, ct, ys, (upd_ne fun z => ?_).trans PO.ob, PO.fl.updl hq, (upd_ne fun z => ?_).trans PO.co, PO.nu.upd hq⟩
  · have := PO.ob
    rw [z, hq] at this
    cases this
  · have := PO.co
    rw [z, hq] at this
    cases this
theorem PairAt.updl {H : Hp} {x q : Addr} {a : Int × Int} {xs : List V} {o : HO} (hq : H q = some (.lst xs)) (h : PairAt H x a) : PairAt (L2.upd H q o) x a := by
  refine (upd_ne fun z => ?_).trans h
  rw [PairAt, z, hq] at h
  cases h
theorem RowAt.updl {H : Hp} {l q : Addr} {prs : List (Int × Int)} {xs : List V} {o : HO} (ne : l ≠ q) (hq : H q = some (.lst xs)) (h : RowAt H l prs) : RowAt (L2.upd H q o) l prs := by
  obtain ⟨vs, e, r⟩ := h
  exact ⟨vs, (upd_ne ne).trans e, r.upd hq⟩
theorem NumAt.updl {C : Addr} {H : Hp} {v : V} {q : Addr} {t u : Int} {xs : List V} {o : HO} (hq : H q = some (.lst xs)) (h : NumAt C H v t u) : NumAt C (L2.upd H q o) v t u := by
  rcases h with ⟨r, e, R⟩ | h
  · exact .inl ⟨r, e, R.updl hq⟩
  · exact .inr h
theorem Givs.updl {K : PySem.W.Frag} {C : Addr} {H : Hp} {p : Int} {q : Addr} {ys xs : List V} {prs : List (Int × Int)} {o : HO} (hq : H q = some (.lst xs)) (h : Givs K C H p ys (prs.map some)) : Givs K C (L2.upd H q o) p ys (prs.map some) := by
  refine ⟨h.len, fun i x oo e1 e2 => ?_⟩
  have g := h.at_ i x oo e1 e2
  rw [List.getElem?_map] at e2
  cases e3 : prs[i]? with
  | none => rw [e3] at e2; cases e2
  | some a =>
    rw [e3] at e2
    cases e2
    obtain ⟨t, u, n, r⟩ := g
    exact ⟨t, u, n.updl hq, r⟩
theorem Givs.snoc {K : PySem.W.Frag} {C : Addr} {H : Hp} {p : Int} {ys : List V} {os : List (Option (Int × Int))} {y : V} {o : Option (Int × Int)} (h : Givs K C H p ys os) (a : Giv K C H p y o) : Givs K C H p (ys ++ [y]) (os ++ [o]) := by
  refine ⟨by rw [List.length_append, List.length_append, h.len]; rfl, fun i z qr e1 e2 => ?_⟩
  rcases get_snoc e1 with e1 | ⟨i1, rfl⟩
  · rcases get_snoc e2 with e2 | ⟨i2, rfl⟩
    · exact h.at_ i z qr e1 e2
    · have := get_len e1
      have := h.len
      omega
  · rcases get_snoc e2 with e2 | ⟨i2, rfl⟩
    · have := get_len e2
      have := h.len
      omega
    · exact a

def spLPoly (C CP CF : Addr) : Sp := fun vs H Q _ => ∃ (x l : Addr) (p : Int) (prs : List (Int × Int)), vs = [.ref x, .ref l] ∧ FldAt CF H x p ∧ goodP p = true ∧ RowAt H l prs ∧ (∀ a ∈ prs, NumOk p a) ∧ prs.length ≤ 100 ∧ ∀ y H', Same H H' → Pol C CP CF H' y p (trimP prs) → Q (.ref y) H'
section
variable {P : Program} {w : World} {K : PySem.W.Frag} {mg : Str → Option Value} {base : Heap}
theorem sc_lpoly : FnScope ["_law_field", "_law_row", "_law_k"] ["_law_field", "_law_row"] (defScope s_lpoly) := ⟨rfl, rfl, rfl, by decide +kernel, rfl, by decide +kernel, by decide +kernel⟩
theorem ok_lpoly {f C CP CF CRd CNP fpinit fpassed : Addr} {fd fdpinit fdpassed : FuncData} (F : Fun K "_law_poly" "_law_poly" s_lpoly f fd) (D : DTx mg) (TF : FTx K CF) (kl : PySem.W.kitOne K (.type "list") (.ref CRd) = some false) (MP : Mk K CP fpinit) (m_P : mg "Poly" = some (.ref CP)) (G_pinit : FnOk P w K mg base (L2.CX P w) 11 fpinit fdpinit ["self", "field", "coefficients"] (spPolyInit K C CP CF CRd CNP)) (b_pinit : Binds K fdpinit ["self", "field", "coefficients"] []) (G_passed : FnOk P w K mg base CX0 6 fpassed fdpassed ["_law_prime_here", "_law_pair_here", "_law_k"] (spPassed K C)) (m_passed : mg "_law_passed" = some (.ref fpassed)) (k_passed : PySem.W.keepIn K (.ref fpassed) = true) (b_passed : Binds K fdpassed ["_law_prime_here", "_law_pair_here", "_law_k"] []) : FnOk P w K mg base CX0 13 f fd ["_law_field", "_law_row"] (spLPoly C CP CF) := by
  refine F.ok sc_lpoly (fun vs H Q E h => ?_) (fun cdv A outer s H vs Q E hr h => ?_)
  · obtain ⟨x, l, p, prs, rfl, _⟩ := h
    rfl
  · obtain ⟨x, l, p, prs, rfl, hx, hg, ⟨vs, hv, rv⟩, ok, ln, k⟩ := h
    refine ⟨_, (pss_one (ps_ret (pe_make MP G_pinit (hr.mono (by decide)) rfl m_P b_pinit .nil passL (pa_cons (pv 0) (pa_cons (pe_lc (own := [("_law_k", 2)]) (g := gName 2) (tt := tYes) rfl sc_lpoly.nd (pi_range1 (by rfl) D.b_range (pa_cons (pe_callB call_len_seq (by rfl) D.b_len (by decide +kernel) (pa_cons (pv 1) pa_nil)) pa_nil)) (blkOk_by (N := ["_law_field", "_law_row", "_law_k"]) (sc := defScope s_lpoly) (by decide +kernel)) (fun _ _ _ _ _ => pg_name (i := 2) sc_lpoly.nd rfl (Or.inl rfl)) (fun _ _ _ _ _ => pts_nil) (fun _ _ _ _ _ => pe_call G_passed (hr.mono (by decide)) rfl m_passed k_passed b_passed .nil pass0 (pa_cons (show PE _ _ (tFld K (tVar 0) "prime") from pe_fld (pv 0) (by rfl)) (pa_cons (pe_ix (show IxR _ (rIxL K) from ix_list) (pv 1) (pv 2) (fun _ _ => rfl)) (pa_cons (pv 2) pa_nil))))) pa_nil))))), ?_⟩
    have e24 : (sizeLine : Nat) = 16777216 := sizeLine_eq
    have lv := rv.len
    obtain ⟨dx, hxo⟩ := id hx
    refine ⟨_, rfl, _, rfl, l, vs, rfl, .inl (SqL.of hv), _, rfl, by omega, by omega, fun L hL => ?_⟩
    refine lc_range (lo := 0) (n := vs.length) (fun i H' => ∃ ys, Same H H' ∧ H' L = some (.lst ys) ∧ Givs K C H' p ys ((prs.take i).map some)) ?_ ?_ ?_
    · exact ⟨[], same_new (Same.refl _) hL, upd_same, ⟨rfl, fun i x o e => by simp at e⟩⟩
    · rintro i H1 hi ⟨ys, s1, hys, gv⟩
      have lp : i < prs.length := by omega
      obtain ⟨qc, eq, hqc⟩ := rv.get lp
      refine ⟨rfl, _, rfl, x, CF, dx, _, _, rfl, s1 _ _ hxo, TF.cl, TF.nP, pf_prime _, _, rfl, _, rfl, _, _, _, _, rfl, rfl, SqL.of (s1 _ _ hv), at_of (j := i) (by omega) eq, _, rfl, ?_⟩
      refine ⟨p, qc, _, _, rfl, hg, hqc.same s1, ok _ (List.getElem_mem lp), by omega, by omega, fun y H2 s2 gy => ?_⟩
      have hy2 := s2 _ _ hys
      have ll := gv.len
      rw [List.length_map, List.length_take] at ll
      refine ⟨ys, hy2, by omega, ys ++ [y], same_at (s1.trans s2) hL, upd_same, ?_⟩
      rw [take_more (List.getElem?_eq_getElem lp), List.map_append]
      have := ((gv.same s2).snoc gy)
      have e2 : (prs.take i).map some ++ [some prs[i]] = ((prs.take i) ++ [prs[i]]).map some := by rw [List.map_append]; rfl
      rw [e2] at this
      have := this.updl (q := L) (o := .lst (ys ++ [y])) hy2
      rw [List.map_append] at this
      exact this
    rintro H1 ⟨ys, s1, hys, gv⟩
    rw [lv, List.take_length] at gv
    have ly := gv.len
    rw [List.length_map] at ly
    exact fun y dy ny ndy ne => mkPL_go (hx.same s1) hg kl hys gv (by omega) ny ndy ne fun H2 s2 po => ⟨rfl, k y H2 (s1.trans s2) po⟩
end
end Sq

namespace Sq
open PySem L2 PyProof.Rows PySem.Spec
abbrev s_lfrac : Stmt := top 74
theorem trimP_cons {a : Int × Int} {l : List (Int × Int)} (h : a.1 ≠ 0) : trimP (a :: l) = a :: trimP l := by
  unfold trimP
  rw [List.reverse_cons, List.dropWhile_append]
  have b : (a.1 == 0) = false := beq_false_of_ne h
  have e : (List.dropWhile (fun a : Int × Int => a.1 == 0) [a]) = [a] := by simp [List.dropWhile, b]
  by_cases c : (List.dropWhile (fun a : Int × Int => a.1 == 0) l.reverse).isEmpty = true
  · rw [if_pos c, e, List.isEmpty_iff.mp c]
    rfl
  · rw [if_neg c]
    simp
theorem trimP_mem {a : Int × Int} {l : List (Int × Int)} (h : a ∈ trimP l) : a ∈ l := by
  unfold trimP at h
  rw [List.mem_reverse] at h
  exact List.mem_reverse.mp ((List.dropWhile_sublist _).subset h)
theorem trimP_le (l : List (Int × Int)) : (trimP l).length ≤ l.length := by
  unfold trimP
  rw [List.length_reverse]
  have := (List.dropWhile_sublist (fun a : Int × Int => a.1 == 0) (l := l.reverse)).length_le
  rw [List.length_reverse] at this
  exact this
theorem RowV.app {H : Hp} {xs ys : List V} {a b : List (Int × Int)} (h : RowV H xs a) (g : RowV H ys b) : RowV H (xs ++ ys) (a ++ b) := by
  refine ⟨by rw [List.length_append, List.length_append, h.len, g.len], fun i y pr e1 e2 => ?_⟩
  by_cases c : i < xs.length
  · rw [List.getElem?_append_left c] at e1
    rw [List.getElem?_append_left (by rw [← h.len]; exact c)] at e2
    exact h.at_ i y pr e1 e2
  · rw [List.getElem?_append_right (by omega)] at e1
    rw [List.getElem?_append_right (by rw [← h.len]; omega), ← h.len] at e2
    exact g.at_ _ y pr e1 e2
theorem RowAt.but {st ad l : Addr} {H H' : Hp} {prs : List (Int × Int)} (S : StA H st ad) (b : But st H H') (ne : l ≠ st) (h : RowAt H l prs) : RowAt H' l prs := by
  obtain ⟨vs, e, r⟩ := h
  exact ⟨vs, b _ _ e ne, but_row S b r⟩
/-- the small numbers of a law have room for a gcd -/
theorem small_low {l : List (Int × Int)} (h : ∀ a ∈ l, NumS 0 a) (n : l.length ≤ 4) : LowZ (trimP l) 60 10 4 := by
  have dv6 : ∀ u : Int, 1 ≤ u → u ≤ 6 → u ∣ 60 := fun u h1 h6 => by
    have c : u = 1 ∨ u = 2 ∨ u = 3 ∨ u = 4 ∨ u = 5 ∨ u = 6 := by omega
    rcases c with rfl | rfl | rfl | rfl | rfl | rfl <;> decide
  refine ⟨⟨by decide, Nat.lt_of_lt_of_le (by decide : 60 < 2 ^ 6) (Nat.pow_le_pow_right (by decide) (by decide)), fun a ha => ?_, fun a ha => ?_⟩, by decide, Nat.le_trans (trimP_le l) n⟩
  · have q := h a (trimP_mem ha)
    exact dv6 _ q.1.1 (q.2 rfl).2
  · have q := h a (trimP_mem ha)
    have q1 := q.1.1
    have q2 := (q.2 rfl).1
    have e : (2 : Nat) ^ 10 = 1024 := by decide
    rw [e]
    omega
def spLFrac (C CP CF CFr : Addr) : Sp := fun vs H Q _ => ∃ (st ad x : Addr) (p : Int), vs = [.ref st, .int p, .ref x] ∧ StA H st ad ∧ FldAt CF H x p ∧ goodP p = true ∧
  ∀ z ts bs H', StA H' st ad → But st H H' → Frc C CP CF CFr H' z p ts bs → trimP ts = ts → trimP bs = bs → ts.length ≤ 4 → bs.length ≤ 4 → BdL p ts → BdL p bs → Q (.ref z) H'
theorem mkFrG_go {C CP CF CFr CNF COF y dy a b : Addr} {H : Hp} {p : Int} {prs prs' : List (Int × Int)} {Q : VK} {E : XK} (pa : Pol C CP CF H a p prs) (pb : Pol C CP CF H b p prs') (hg : goodP p = true) (ta : trimP prs = prs) (tb : trimP prs' = prs') (la : prs.length ≤ 100) (lb : prs'.length ≤ 100)
    (sz : ∃ D D' b n : Nat, p = 0 → LowZ prs D b n ∧ LowZ prs' D' b n ∧ 1 ≤ n ∧ (2 * (b + 2) * 3 ^ n ≤ 2000 ∨ (prs'.length ≤ 1 ∧ n ≤ 6 ∧ b ≤ 100 ∧ 2 * (b + 2) * 3 ^ n ≤ 7000))) (ny : H y = none) (ndy : H dy = none) (ne : dy ≠ y) (kN : (prs ≠ [] ∧ prs' ≠ [] ∧ (pget prs' 0).1 ≠ 0) ∨ NoFr CNF H E)
    (k : ∀ H', Same H H' → ∀ ts bs, Frc C CP CF CFr H' y p ts bs → trimP ts = ts → trimP bs = bs → ts.length ≤ prs.length → bs.length ≤ prs'.length → BdL p ts → BdL p bs → Crs p prs prs' ts bs → pget bs 0 = (1, 1) → Q .non H') : spFrInitG C CP CF CFr CNF COF [.ref y, .ref a, .ref b] (upd (upd H dy (.own y)) y (.ins CFr dy [])) Q E := by
  have s0 : Same H (upd (upd H dy (.own y)) y (.ins CFr dy [])) := same_pair ny ndy ne
  exact ⟨y, dy, a, b, p, p, prs, prs', rfl, upd_same, pa.same s0, pb.same s0, hg, ta, tb, la, lb, fun e => absurd rfl e, fun _ => ⟨sz, kN.imp id fun z => z.mono s0, fun H' b' ts bs fr t1 t2 l1 l2 d1 d2 cr o1 => k H' (same_made ny ndy b') ts bs fr t1 t2 l1 l2 d1 d2 cr o1⟩⟩
section
variable {P : Program} {w : World} {K : PySem.W.Frag} {mg : Str → Option Value} {base : Heap}
theorem sc_lfrac : FnScope ["_law_state_here", "_law_prime_here", "_law_field", "_law_top", "_law_bottom"] ["_law_state_here", "_law_prime_here", "_law_field"] (defScope s_lfrac) := ⟨rfl, rfl, rfl, by decide +kernel, rfl, by decide +kernel, by decide +kernel⟩
theorem ok_lfrac {f C CF CP CFr CNF COF fdraw funit fsmall flpoly ffrinit : Addr} {fd fddraw fdunit fdsmall fdlpoly fdfrinit : FuncData} (F : Fun K "_law_fraction" "_law_fraction" s_lfrac f fd)
    (G_draw : FnOk P w K mg base CX0 1 fdraw fddraw ["_law_state_here", "_law_many"] spDrawA) (m_draw : mg "_law_draw" = some (.ref fdraw)) (k_draw : PySem.W.keepIn K (.ref fdraw) = true) (b_draw : Binds K fddraw ["_law_state_here", "_law_many"] [])
    (G_unit : FnOk P w K mg base CX0 4 funit fdunit ["_law_state_here", "_law_prime_here"] spUnit) (m_unit : mg "_law_unit" = some (.ref funit)) (k_unit : PySem.W.keepIn K (.ref funit) = true) (b_unit : Binds K fdunit ["_law_state_here", "_law_prime_here"] [])
    (G_small : FnOk P w K mg base CX0 4 fsmall fdsmall ["_law_state_here", "_law_prime_here", "_law_size"] spSmall) (m_small : mg "_law_small" = some (.ref fsmall)) (k_small : PySem.W.keepIn K (.ref fsmall) = true) (b_small : Binds K fdsmall ["_law_state_here", "_law_prime_here", "_law_size"] [])
    (G_lpoly : FnOk P w K mg base CX0 13 flpoly fdlpoly ["_law_field", "_law_row"] (spLPoly C CP CF)) (m_lpoly : mg "_law_poly" = some (.ref flpoly)) (k_lpoly : PySem.W.keepIn K (.ref flpoly) = true) (b_lpoly : Binds K fdlpoly ["_law_field", "_law_row"] [])
    (MFr : Mk K CFr ffrinit) (G_frinit : FnOk P w K mg base (L2.CX P w) 16 ffrinit fdfrinit ["self", "top", "bottom"] (spFrInitG C CP CF CFr CNF COF)) (b_frinit : Binds K fdfrinit ["self", "top", "bottom"] []) (m_Fr : mg "Fraction" = some (.ref CFr)) : FnOk P w K mg base CX0 18 f fd ["_law_state_here", "_law_prime_here", "_law_field"] (spLFrac C CP CF CFr) := by
  refine F.ok sc_lfrac (fun vs H Q E h => ?_) (fun cdv A outer s H vs Q E hr h => ?_)
  · obtain ⟨st, ad, x, p, rfl, _⟩ := h
    rfl
  · obtain ⟨st, ad, x, p, rfl, S, hx, hg, k⟩ := h
    refine ⟨_, (pss_cons (ps_set (i := 3) sc_lfrac.nd rfl (Or.inl rfl) (pe_op op_cat (pe_call G_small (hr.mono (by decide)) rfl m_small k_small b_small .nil pass0 (pa_cons (pv 0) (pa_cons (pv 1) (pa_cons (pe_call G_draw (hr.mono (by decide)) rfl m_draw k_draw b_draw .nil pass0 (pa_cons (pv 0) (pa_cons pe_int pa_nil))) pa_nil)))) (pe_lst (pa_cons (pe_call G_unit (hr.mono (by decide)) rfl m_unit k_unit b_unit .nil pass0 (pa_cons (pv 0) (pa_cons (pv 1) pa_nil))) pa_nil))))
      (pss_cons (ps_set (i := 4) sc_lfrac.nd rfl (Or.inl rfl) (pe_op op_cat (pe_lst (pa_cons (pe_tup (pa_cons pe_int (pa_cons pe_int pa_nil))) pa_nil)) (pe_call G_small (hr.mono (by decide)) rfl m_small k_small b_small .nil pass0 (pa_cons (pv 0) (pa_cons (pv 1) (pa_cons (pe_call G_draw (hr.mono (by decide)) rfl m_draw k_draw b_draw .nil pass0 (pa_cons (pv 0) (pa_cons pe_int pa_nil))) pa_nil))))))
      (pss_one (ps_ret (pe_make (E := fun _ _ _ => False) MFr G_frinit (hr.mono (by decide)) rfl m_Fr b_frinit .nil passL (pa_cons (pe_call G_lpoly (hr.mono (by decide)) rfl m_lpoly k_lpoly b_lpoly .nil pass0 (pa_cons (pv 2) (pa_cons (pv 3) pa_nil))) (pa_cons (pe_call G_lpoly (hr.mono (by decide)) rfl m_lpoly k_lpoly b_lpoly .nil pass0 (pa_cons (pv 2) (pa_cons (pv 4) pa_nil))) pa_nil))))))), ?_⟩
    have e24 : (sizeLine : Nat) = 16777216 := sizeLine_eq
    have xst : ∀ {H1 : Hp}, But st H H1 → FldAt CF H1 x p := fun {H1} b => by
      obtain ⟨dx, hx0⟩ := id hx
      refine ⟨dx, b _ _ hx0 fun e => ?_⟩
      obtain ⟨_, _, _, _, _, h1, _⟩ := S
      rw [e, h1] at hx0
      cases hx0
    refine ⟨_, rfl, _, rfl, _, rfl, st, _, ad, rfl, by decide, by decide, S, fun v H1 v0 v4 S1 B1 => ?_⟩
    obtain ⟨m, rfl⟩ : ∃ m : Nat, v = (m : Int) := ⟨v.toNat, by omega⟩
    refine ⟨st, p, m, ad, rfl, S1, hg, by omega, fun l ts H2 S2 B2 nl r2 ln ok2 => ?_⟩
    have nl2 := S1.ne nl
    refine ⟨_, rfl, _, rfl, st, p, ad, rfl, S2, hg, fun q1 a1 H3 S3 B3 hq1 ok1 nz => ⟨(by show 1 ≤ sizeLine; decide), fun u hu => ?_⟩⟩
    have su := same_new (o := .lst [V.ref q1]) (Same.refl H3) hu
    have r3 := (r2.but S2 B3 nl2.1).same su
    obtain ⟨vs, hvs, rv⟩ := id r3
    have lv := rv.len
    refine ⟨l, u, _, _, rfl, rfl, hvs, upd_same, by show vs.length + 1 ≤ sizeLine; omega, fun t1 ht1 => ?_⟩
    have st1 := same_new (o := .lst (vs ++ [V.ref q1])) (Same.refl _) ht1
    have rt : RowAt (upd (upd H3 u (.lst [V.ref q1])) t1 (.lst (vs ++ [V.ref q1]))) t1 (ts ++ [a1]) := ⟨_, upd_same, (rv.app (RowV.nil.snoc (hq1.same su))).same st1⟩
    have S5 := (S3.same su).same st1
    have B5 := (((B1.trans B2).trans B3).new (o := .lst [V.ref q1]) hu).new (o := .lst (vs ++ [V.ref q1])) ht1
    have nt1 := (S3.same su).ne ht1
    have okt : ∀ a ∈ ts ++ [a1], NumS p a := fun a ha => by
      rcases List.mem_append.mp ha with h | h
      · exact ok2 a h
      · rw [List.mem_singleton.mp h]
        exact ok1
    have ltt : (ts ++ [a1]).length ≤ 4 := by rw [List.length_append, ln]; show m + 1 ≤ 4; omega
    have trt : trimP (ts ++ [a1]) = ts ++ [a1] := trimP_keep nz
    generalize upd (upd H3 u (.lst [V.ref q1])) t1 (.lst (vs ++ [V.ref q1])) = H5 at *
    refine ⟨(by show 2 ≤ sizeLine; decide), fun q2 hq2 => ⟨(by show 1 ≤ sizeLine; decide), fun u2 hu2 => ?_⟩⟩
    have sy := (same_new (o := .tup [.int 1, .int 1]) (Same.refl H5) hq2).trans (same_new (o := .lst [V.ref q2]) (Same.refl _) hu2)
    have S7 := S5.same sy
    have nu2 := (S5.up (o := .tup [.int 1, .int 1]) hq2).ne hu2
    have nq2 := S5.ne hq2
    have B7 := (B5.new (o := .tup [.int 1, .int 1]) hq2).new (o := .lst [V.ref q2]) hu2
    have hq7 : PairAt (upd (upd H5 q2 (.tup [.int 1, .int 1])) u2 (.lst [V.ref q2])) q2 (1, 1) := same_new (o := .lst [V.ref q2]) (Same.refl _) hu2 _ _ upd_same
    have hu7 : (upd (upd H5 q2 (.tup [.int 1, .int 1])) u2 (.lst [V.ref q2])) u2 = some (.lst [V.ref q2]) := upd_same
    have rt7 := rt.same sy
    generalize upd (upd H5 q2 (.tup [.int 1, .int 1])) u2 (.lst [V.ref q2]) = H7 at *
    refine ⟨_, rfl, _, rfl, _, rfl, st, _, ad, rfl, by decide, by decide, S7, fun v H8 v0 v4 S8 B8 => ?_⟩
    obtain ⟨m2, rfl⟩ : ∃ m : Nat, v = (m : Int) := ⟨v.toNat, by omega⟩
    refine ⟨st, p, m2, ad, rfl, S8, hg, by omega, fun l2 bs H9 S9 B9 nl9 r9 ln9 ok9 => ?_⟩
    have B89 := B8.trans B9
    obtain ⟨vs2, hvs2, rv2⟩ := id r9
    have lv2 := rv2.len
    refine ⟨u2, l2, _, _, rfl, rfl, B89 _ _ hu7 nu2.1, hvs2, by show 1 + vs2.length ≤ sizeLine; omega, fun t2 ht2 => ?_⟩
    have st2 := same_new (o := .lst ([V.ref q2] ++ vs2)) (Same.refl H9) ht2
    have rb : RowAt (upd H9 t2 (.lst ([V.ref q2] ++ vs2))) t2 ((1, 1) :: bs) := ⟨_, upd_same, ((RowV.nil.snoc (but_pair S7 B89 hq7)).app rv2).same st2⟩
    have rt9 := (rt7.but S7 B89 nt1.1).same st2
    have S10 := S9.same st2
    have B10 := (B7.trans B89).new (o := .lst ([V.ref q2] ++ vs2)) ht2
    have ok1 : NumS p (1, 1) := ⟨⟨by decide, fun _ => ⟨by decide, by decide, by decide⟩, fun p0 => ⟨rfl, by decide, by have := prime_lt hg p0; show (1 : Int) < p; omega⟩⟩, fun _ => ⟨by decide, by decide⟩⟩
    have okb : ∀ a ∈ (1, 1) :: bs, NumS p a := fun a ha => by
      rcases List.mem_cons.mp ha with h | h
      · rw [h]
        exact ok1
      · exact ok9 a h
    have lbb : (((1, 1) : Int × Int) :: bs).length ≤ 4 := by rw [List.length_cons, ln9]; omega
    have trb : trimP (((1, 1) : Int × Int) :: bs) = (1, 1) :: trimP bs := trimP_cons (by decide)
    have hx10 := xst B10
    generalize upd H9 t2 (.lst ([V.ref q2] ++ vs2)) = H10 at *
    refine ⟨_, rfl, _, rfl, x, t1, p, _, rfl, hx10, hg, rt9, fun a ha => (okt a ha).1, by omega, fun y1 H11 s11 P1 => ?_⟩
    refine ⟨_, rfl, _, rfl, x, t2, p, _, rfl, hx10.same s11, hg, rb.same s11, fun a ha => (okb a ha).1, by omega, fun y2 H12 s12 P2 => ?_⟩
    refine fun z dz nz ndz nez => mkFrG_go (P1.same s12) P2 hg (trim_trim _) (trim_trim _) (Nat.le_trans (trimP_le _) (by omega)) (Nat.le_trans (trimP_le _) (by omega)) ⟨60, 60, 10, 4, fun p0 => ?_⟩ nz ndz nez (.inl ⟨?_, ?_, ?_⟩) fun H13 s13 cs ds fr t1 t2 l1 l2 d1 d2 _ _ => ⟨rfl, ?_⟩
    · subst p0
      exact ⟨small_low okt ltt, small_low okb lbb, by decide, .inl (by decide)⟩
    · rw [trt]
      simp
    · rw [trb]
      simp
    · rw [trb]
      show ((1 : Int)) ≠ 0
      decide
    · have s123 := (s11.trans s12).trans s13
      exact k z cs ds H13 (S10.same s123) (B10.trans (Same.but s123)) fr t1 t2 (Nat.le_trans l1 (Nat.le_trans (trimP_le _) ltt)) (Nat.le_trans l2 (Nat.le_trans (trimP_le _) lbb)) d1 d2
end
end Sq

namespace Sq
open PySem L2 PyProof.Rows
section
variable {P : Program} {w : World} {K : PySem.W.Frag} {mg : Str → Option Value} {base : Heap}
abbrev s_wordInit : Stmt := inClass (top 12) 0
theorem sc_wordInit : FnScope ["self", "word"] ["self", "word"] (defScope s_wordInit) := ⟨rfl, rfl, rfl, by decide +kernel, rfl, by decide +kernel, by decide +kernel⟩
theorem ok_wordInit {f CN fN : Addr} {fd : FuncData} (F : Fun K "__init__" "NoFraction.__init__" s_wordInit f fd) (T : NTxF K "word" CN fN) : FnOk P w K mg base CX0 1 f fd ["self", "word"] (spFInit "word" CN) := by
  refine F.ok sc_wordInit (fun vs H Q E h => ?_) (fun cdv A outer s H vs Q E hr h => ?_)
  · obtain ⟨x, y, rfl, _⟩ := h
    rfl
  · obtain ⟨a, y, rfl, ha, k⟩ := h
    refine ⟨_, pss_one (ps_ost (pv 0) (pv 1)), ?_⟩
    exact ⟨_, rfl, _, rfl, a, CN, rfl, T.oex, T.nw, .inl ⟨ha, fun dx h1 h2 => k dx h1 h2⟩⟩
end
end Sq

-- needs HandS.Style
namespace Sq
open PySem L2 PyProof.Rows PySem.Spec
abbrev s_law : Stmt := top 75
theorem negP_ok {p : Int} (hg : goodP p = true) {a : Int × Int} (h : OkP p a) : OkP p (negP p a) := by
  unfold negP
  by_cases p0 : p = 0
  · rw [if_pos p0]
    exact ⟨h.1, fun _ => gcd_neg1 (h.2.1 p0), fun q => absurd p0 q⟩
  · rw [if_neg p0]
    have := (goodP_pos hg p0).1
    exact ⟨Int.le_refl 1, fun q => absurd q p0, fun _ => ⟨rfl, Int.emod_nonneg _ p0, Int.emod_lt_of_pos _ (by omega)⟩⟩
theorem negP_neg {p : Int} (hg : goodP p = true) {a : Int × Int} (h : OkP p a) : negP p (negP p a) = a := by
  unfold negP
  by_cases p0 : p = 0
  · rw [if_pos p0, if_pos p0]
    exact Prod.ext (Int.neg_neg _) rfl
  · rw [if_neg p0, if_neg p0]
    obtain ⟨a2, a0, a1⟩ := h.2.2 p0
    refine Prod.ext ?_ a2.symm
    have e := Int.emod_add_mul_ediv (-a.1) p
    have e2 : -((-a.1) % p) = a.1 + p * ((-a.1) / p) := by omega
    show (-((-a.1) % p)) % p = a.1
    rw [e2, Int.add_mul_emod_self_left, Int.emod_eq_of_lt a0 a1]
theorem negP_zero {p : Int} (hg : goodP p = true) {a : Int × Int} (h : OkP p a) (z : (negP p a).1 = 0) : a.1 = 0 := by
  have e := negP_neg hg h
  have o := ok_zero (negP_ok hg h) z
  rw [o] at e
  rw [← e]
  unfold negP
  by_cases p0 : p = 0
  · rw [if_pos p0]
    rfl
  · rw [if_neg p0]
    rfl
theorem neg_map {p : Int} (hg : goodP p = true) {l : List (Int × Int)} (ok : OkL p l) : (l.map (negP p)).map (negP p) = l := by
  rw [List.map_map]
  conv => rhs; rw [← List.map_id l]
  exact List.map_congr_left fun a ha => negP_neg hg (ok a ha)
theorem trim_neg {p : Int} (hg : goodP p = true) {l : List (Int × Int)} (ok : OkL p l) (t : trimP l = l) : trimP (l.map (negP p)) = l.map (negP p) := by
  by_cases ne : l = []
  · rw [ne]
    rfl
  · obtain ⟨m, a, e, a0⟩ := trim_last (p := p) t ne
    rw [e, List.map_append]
    exact trimP_keep fun z => a0 (negP_zero hg (ok a (by rw [e]; simp)) z)
theorem negP_bd {p : Int} {n : Nat} {a : Int × Int} (p0 : p = 0) (h : Bd n a) : Bd n (negP p a) := by
  unfold negP
  rw [if_pos p0]
  exact ⟨by show (-a.1).natAbs < _; rw [Int.natAbs_neg]; exact h.1, h.2⟩
/-- what is no list stands -/
def NL (H H' : Hp) : Prop := ∀ a o, H a = some o → (∀ xs, o ≠ .lst xs) → H' a = some o
theorem NL.of {H H' : Hp} (s : Same H H') : NL H H' := fun a o h _ => s a o h
theorem NL.trans {H H1 H2 : Hp} (a : NL H H1) (b : NL H1 H2) : NL H H2 := fun x o h n => b x o (a x o h n) n
theorem NL.butS {H H' : Hp} {st ad : Addr} (S : StA H st ad) (b : But st H H') : NL H H' := fun a o h n => b a o h fun e => by
  obtain ⟨ns, i, c, k, bb, h1, _⟩ := S
  rw [e, h1] at h
  exact n _ (Option.some.inj h).symm
theorem FldAt.nl {C : Addr} {H H' : Hp} {x : Addr} {p : Int} (s : NL H H') (h : FldAt C H x p) : FldAt C H' x p := by
  obtain ⟨dx, h⟩ := h
  exact ⟨dx, s _ _ h fun xs e => by cases e⟩
theorem FN.nl {C : Addr} {H H' : Hp} {p t u : Int} {v : V} (s : NL H H') (h : FN C H p v t u) : FN C H' p v t u := by
  rcases h with ⟨p0, ⟨r, e, ⟨dr, R⟩⟩, a, c⟩ | h
  · exact .inl ⟨p0, ⟨r, e, ⟨dr, s _ _ R fun xs e => by cases e⟩⟩, a, c⟩
  · exact .inr h
theorem Pol.nl {C CP CF : Addr} {H H' : Hp} {x : Addr} {p : Int} {prs : List (Int × Int)} (s : NL H H') (h : Pol C CP CF H x p prs) : Pol C CP CF H' x p prs := by
  obtain ⟨dx, fx, ct, ys, PO⟩ := h
  exact ⟨dx, fx, ct, ys, s _ _ PO.ob (fun xs e => by cases e), PO.fl.nl s, s _ _ PO.co (fun xs e => by cases e), ⟨PO.nu.len, fun i z pr e1 e2 => (PO.nu.at_ i z pr e1 e2).nl s⟩⟩
theorem Frc.nl {C CP CF CFr : Addr} {H H' : Hp} {x : Addr} {p : Int} {ts bs : List (Int × Int)} (s : NL H H') (h : Frc C CP CF CFr H x p ts bs) : Frc C CP CF CFr H' x p ts bs := by
  obtain ⟨dx, fx, u, v, t, a, b, c, d, e⟩ := h
  exact ⟨dx, fx, u, v, t, s _ _ a (fun xs e => by cases e), b.nl s, c.nl s, d.nl s, s _ _ e (fun xs e => by cases e)⟩
theorem SqAt.nl {CSq : Addr} {H H' : Hp} {x : Addr} {m n z : Int} {c : Bool} {f : Addr} (s : NL H H') (h : SqAt CSq H x m n z c f) : SqAt CSq H' x m n z c f := by
  obtain ⟨dx, h⟩ := h
  exact ⟨dx, s _ _ h fun xs e => by cases e⟩
theorem giv01 {K : PySem.W.Frag} {C : Addr} {H : Hp} {p : Int} (hg : goodP p = true) {n : Int} (hn : n = 0 ∨ n = 1) : Giv K C H p (.int n) (some (n, 1)) := by
  have f1 : Fit n := Nat.lt_of_lt_of_le (show n.natAbs < 2 ^ 1 by omega) (Nat.pow_le_pow_right (by decide) (by decide))
  refine ⟨n, 1, .inr ⟨rfl, rfl⟩, Int.le_refl 1, f1, fit_one, fun _ => ⟨rfl, Int.gcd_one⟩, fun p0 => ?_⟩
  have := (goodP_pos hg p0).1
  exact ⟨by rw [Int.emod_eq_of_lt (by decide) (by omega)]; decide, rfl, by show 0 ≤ n; omega, by show n < p; omega, 0, by show n * 1 = n + 0 * p; omega⟩
theorem mkF_go {K : PySem.W.Frag} {CF CNF z dz : Addr} {H : Hp} {p : Int} {Q : VK} {E : XK} (hg : goodP p = true) (nz : H z = none) (ndz : H dz = none) (_ne : dz ≠ z) (k : ∀ H', FldAt CF H' z p → Same H H' → Q .non H') :
    spFieldInit K CF CNF [.ref z, .int p] (upd (upd H dz (.own z)) z (.ins CF dz [])) Q E :=
  ⟨z, dz, .int p, rfl, upd_same, .int _, fun h => (by have := h p rfl; rw [hg] at this; cases this), fun p' e _ H' hx b => (by cases e; exact k H' hx (same_made nz ndz b))⟩
theorem ne_self (x : V) : (!decide (x = x)) = false := by simp
def Oth (C CP CF CFr CSq : Addr) (H : Hp) (y : V) (m n s : Int) (c : Bool) (p : Int) (ts bs : List (Int × Int)) : Prop := ∃ (q : Addr) (m' n' s' : Int) (c' : Bool) (f' : Addr) (p' : Int) (ts' bs' : List (Int × Int)), y = .ref q ∧ SqAt CSq H q m' n' s' c' f' ∧ Frc C CP CF CFr H f' p' ts' bs' ∧ ¬ (m = m' ∧ n = n' ∧ s = s' ∧ c = c' ∧ p = p' ∧ ts = ts' ∧ bs = bs')
theorem sqf_has (m n s : Int) (c : Bool) (f : Addr) : (sqf m n s c f).lookup ("has" : Str) = none := by
  unfold sqf
  rw [lookup_putF, if_neg (by decide +kernel), lookup_putF, if_neg (by decide +kernel), lookup_putF, if_neg (by decide +kernel), lookup_putF, if_neg (by decide +kernel), lookup_putF, if_neg (by decide +kernel)]
  rfl
theorem mkSq_go {CSq y dy f : Addr} {H : Hp} {m n s : Int} {c : Bool} {Q : VK} {E : XK} (ny : H y = none) (ndy : H dy = none) (ne : dy ≠ y) (k : ∀ H', Same H H' → SqAt CSq H' y m n s c f → Q .non H') : spSqInit CSq [.ref y, .int m, .int n, .int s, .bl c, .ref f] (upd (upd H dy (.own y)) y (.ins CSq dy [])) Q E :=
  ⟨y, dy, m, n, s, c, f, rfl, upd_same, fun H' b h => k H' (same_made ny ndy b) h⟩
/-- x ** 5 over 1 is longer than what is drawn -/
theorem long5 {p : Int} (hg : goodP p = true) {ts bs : List (Int × Int)} (okt : OkL p ts) (okb : OkL p bs) (cr : Crs p [(0, 1), (0, 1), (0, 1), (0, 1), (0, 1), (1, 1)] [(1, 1)] ts bs) (b0 : pget bs 0 = (1, 1)) : 5 < ts.length := by
  obtain ⟨R, iR, v, X⟩ := vp_ex hg
  rcases Nat.lt_or_ge 5 ts.length with h | h
  · exact h
  have e := cr R iR v X 5
  have o1 : ∀ j, vg v [((1 : Int), (1 : Int))] j = e0 j := fun j => by
    cases j with
    | zero => exact X.one
    | succ j => exact vg_ge X (by simp)
  rw [cvv_comm (vg v [((1 : Int), (1 : Int))]), cvv_congr (g' := e0) (fun _ _ => rfl) (fun j _ => o1 j), cvv_e0, vg_ge X h] at e
  unfold cvv at e
  rw [sv_one (m := 5) (by decide) (fun j h1 h2 => by
    have z : vg v [(0, 1), (0, 1), (0, 1), (0, 1), (0, 1), ((1 : Int), (1 : Int))] j = 0 := by
      have c : j = 0 ∨ j = 1 ∨ j = 2 ∨ j = 3 ∨ j = 4 := by omega
      rcases c with rfl | rfl | rfl | rfl | rfl <;> exact X.zero
    rw [z]
    grind)] at e
  have e5 : vg v [(0, 1), (0, 1), (0, 1), (0, 1), (0, 1), ((1 : Int), (1 : Int))] 5 = 1 := X.one
  have eb : vg v bs 0 = 1 := by
    show v (bs.getD 0 (0, 1)) = 1
    rw [show bs.getD 0 (0, 1) = (1, 1) from b0]
    exact X.one
  rw [e5, Nat.sub_self, eb] at e
  have n1 : (1 : R) ≠ 0 := fun z => by
    have n := X.ne (b := 1) (by decide) fun p0 d => (goodD hg).2 d
    exact n (by rw [ic_one]; exact z)
  exact absurd (show (1 : R) = 0 by rw [← e]; grind) n1
section
variable {P : Program} {w : World} {K : PySem.W.Frag} {mg : Str → Option Value} {base : Heap}
theorem sc_law : FnScope ["_law_script", "_law_state_here", "_law_prime_here", "_law_field", "_law_a", "_law_b", "_law_rows", "_law_flag", "_law_fraction_here", "_law_square", "_law_spots", "_law_others", "_law_x", "_law_y", "_law_due", "_law_told", "_law_other"] ["_law_script"] (defScope s_law) := ⟨rfl, rfl, rfl, by decide +kernel, rfl, by decide +kernel, by decide +kernel⟩
theorem ok_law {f C CF CP CFr CSq CRd CNP CNF COF CNFd fF fpinit ffrinit ffrneg ffreq fsqinit fsqeq fhas fstate flpr fdraw flfrac : Addr} {fd fdF fdpinit fdfrinit fdfrneg fdfreq fdsqinit fdsqeq fdhas fdstate fdlpr fddraw fdlfrac : FuncData} (F : Fun K "law" "law" s_law f fd) (D : DTx mg) (B : QTx mg) (I : ITx mg) (TS : SqTx K CSq) (YS : FrY K CSq) (TFr : FrTx K CFr) (YFr : FrY K CFr) (kl : PySem.W.kitOne K (.type "list") (.ref CRd) = some false)
    (ktS : PySem.W.kitOne K (.type "tuple") (.ref CSq) = some false) (knS : PySem.W.kitOne K (.type "NoneType") (.ref CSq) = some false) (kfS : PySem.W.kitOne K (.ref CFr) (.ref CSq) = some false)
    (nfS : PySem.W.notFirst K CSq (.ref CSq) = true) (nftS : PySem.W.notFirst K CSq (.type "tuple") = true) (nfnS : PySem.W.notFirst K CSq (.type "NoneType") = true) (nffS : PySem.W.notFirst K CSq (.ref CFr) = true) (nfFr : PySem.W.notFirst K CFr (.ref CFr) = true)
    (m_CF : mg "Field" = some (.ref CF)) (m_P : mg "Poly" = some (.ref CP)) (m_Fr : mg "Fraction" = some (.ref CFr)) (m_Sq : mg "Square" = some (.ref CSq)) (MF : Mk K CF fF) (MP : Mk K CP fpinit) (MFr : Mk K CFr ffrinit) (MSq : Mk K CSq fsqinit)
    (G_F : FnOk P w K mg base (L2.CX P w) 2 fF fdF ["self", "prime"] (spFieldInit K CF CNFd)) (b_F : Binds K fdF ["self", "prime"] [])
    (G_pinit : FnOk P w K mg base (L2.CX P w) 11 fpinit fdpinit ["self", "field", "coefficients"] (spPolyInit K C CP CF CRd CNP)) (b_pinit : Binds K fdpinit ["self", "field", "coefficients"] [])
    (G_frinit : FnOk P w K mg base (L2.CX P w) 16 ffrinit fdfrinit ["self", "top", "bottom"] (spFrInitG C CP CF CFr CNF COF)) (b_frinit : Binds K fdfrinit ["self", "top", "bottom"] [])
    (O_frneg : OwnOp K CFr ffrneg "__neg__") (G_frneg : FnOk P w K mg base CX0 18 ffrneg fdfrneg ["self"] (spFrNeg C CP CF CFr)) (b_frneg : Binds K fdfrneg ["self"] [])
    (O_freq : OwnOp K CFr ffreq "__eq__") (G_freq : FnOk P w K mg base CX0 6 ffreq fdfreq ["self", "other"] (spFrEq K C CP CF CFr)) (b_freq : Binds K fdfreq ["self", "other"] [])
    (G_sqinit : FnOk P w K mg base CX0 1 fsqinit fdsqinit ["self", "m", "n", "size", "closed", "fraction"] (spSqInit CSq)) (b_sqinit : Binds K fdsqinit ["self", "m", "n", "size", "closed", "fraction"] [])
    (O_sqeq : OwnOp K CSq fsqeq "__eq__") (G_sqeq : FnOk P w K mg base CX0 8 fsqeq fdsqeq ["self", "other"] (spSqEq K C CP CF CFr CSq)) (b_sqeq : Binds K fdsqeq ["self", "other"] [])
    (Me_has : Meth K CSq "has" fhas) (G_has : FnOk P w K mg base CX0 1 fhas fdhas ["self", "m", "n"] (spHas CSq)) (b_has : Binds K fdhas ["self", "m", "n"] [])
    (G_state : FnOk P w K mg base CX0 1 fstate fdstate ["_law_script"] (spState K)) (m_state : mg "_law_state" = some (.ref fstate)) (k_state : PySem.W.keepIn K (.ref fstate) = true) (b_state : Binds K fdstate ["_law_script"] [])
    (G_lpr : FnOk P w K mg base CX0 2 flpr fdlpr ["_law_state_here"] spLpr) (m_lpr : mg "_law_prime" = some (.ref flpr)) (k_lpr : PySem.W.keepIn K (.ref flpr) = true) (b_lpr : Binds K fdlpr ["_law_state_here"] [])
    (G_draw : FnOk P w K mg base CX0 1 fdraw fddraw ["_law_state_here", "_law_many"] spDrawA) (m_draw : mg "_law_draw" = some (.ref fdraw)) (k_draw : PySem.W.keepIn K (.ref fdraw) = true) (b_draw : Binds K fddraw ["_law_state_here", "_law_many"] [])
    (G_lfrac : FnOk P w K mg base CX0 18 flfrac fdlfrac ["_law_state_here", "_law_prime_here", "_law_field"] (spLFrac C CP CF CFr)) (m_lfrac : mg "_law_fraction" = some (.ref flfrac)) (k_lfrac : PySem.W.keepIn K (.ref flfrac) = true) (b_lfrac : Binds K fdlfrac ["_law_state_here", "_law_prime_here", "_law_field"] []) : FnOk P w K mg base CX0 20 f fd ["_law_script"] (spLaw K) := by
  refine F.ok sc_law (fun vs H Q E h => ?_) (fun cdv A outer s H vs Q E hr h => ?_)
  · obtain ⟨a, ns, rfl, _⟩ := h
    rfl
  · obtain ⟨a0, ns, rfl, hS, hl, k⟩ := h
    refine ⟨_, (pss_cons (ps_set (i := 1) sc_law.nd rfl (Or.inl rfl) (pe_call G_state (hr.mono (by decide)) rfl m_state k_state b_state .nil pass0 (pa_cons (pv 0) pa_nil)))
      (pss_cons (ps_set (i := 2) sc_law.nd rfl (Or.inl rfl) (pe_call G_lpr (hr.mono (by decide)) rfl m_lpr k_lpr b_lpr .nil pass0 (pa_cons (pv 1) pa_nil)))
      (pss_cons (ps_set (i := 3) sc_law.nd rfl (Or.inl rfl) (pe_make MF G_F (hr.mono (by decide)) rfl m_CF b_F .nil passL (pa_cons (pv 2) pa_nil)))
      (pss_cons (ps_par3 (i := 4) (j := 5) (l := 6) (by rfl) sc_law.nd rfl rfl rfl (by decide) (by decide) (by decide) rfl rfl rfl (pa_cons (pe_call G_draw (hr.mono (by decide)) rfl m_draw k_draw b_draw .nil pass0 (pa_cons (pv 1) (pa_cons pe_int pa_nil))) (pa_cons (pe_call G_draw (hr.mono (by decide)) rfl m_draw k_draw b_draw .nil pass0 (pa_cons (pv 1) (pa_cons pe_int pa_nil))) (pa_cons (pe_op op_add pe_int (pe_call G_draw (hr.mono (by decide)) rfl m_draw k_draw b_draw .nil pass0 (pa_cons (pv 1) (pa_cons pe_int pa_nil)))) pa_nil))) (by rfl))
      (pss_cons (ps_set (i := 7) sc_law.nd rfl (Or.inl rfl) (pe_cmpR op_eq (pe_call G_draw (hr.mono (by decide)) rfl m_draw k_draw b_draw .nil pass0 (pa_cons (pv 1) (pa_cons pe_int pa_nil))) pe_int (nomark _)))
      (pss_cons (ps_set (i := 8) sc_law.nd rfl (Or.inl rfl) (pe_call G_lfrac (hr.mono (by decide)) rfl m_lfrac k_lfrac b_lfrac .nil pass0 (pa_cons (pv 1) (pa_cons (pv 2) (pa_cons (pv 3) pa_nil)))))
      (pss_cons (ps_set (i := 9) sc_law.nd rfl (Or.inl rfl) (pe_make MSq G_sqinit (hr.mono (by decide)) rfl m_Sq b_sqinit .nil pass0 (pa_cons (pv 4) (pa_cons (pv 5) (pa_cons (pv 6) (pa_cons (pv 7) (pa_cons (pv 8) pa_nil)))))))
      (pss_cons (ps_if (PW.pt (pw_or (pt_cmpR op_ne (pe_fld (pv 9) rfl) (pv 4) (nomark _)) (pw_or (pt_cmpR op_ne (pe_fld (pv 9) rfl) (pv 5) (nomark _)) (pw_or (pt_cmpR op_ne (pe_fld (pv 9) rfl) (pv 6) (nomark _)) (pw_or1 (pt_not (pt_val (pe_callB call_isi (by rfl) B.b_isinstance (by decide +kernel) (pa_cons (pe_fld (pv 9) rfl) (pa_cons (pe_bltn (v := .ty "bool") (by rfl) I.b_bool (by decide +kernel) rfl) pa_nil))))))))))
        (pss_one (ps_ret pe_bl))
        pss_nil)
      (pss_cons (ps_if (pt_cmpR op_ne (pe_fld (pv 9) rfl) (pv 7) (nomark _))
        (pss_one (ps_ret pe_bl))
        pss_nil)
      (pss_cons (ps_if (PW.pt (pw_or (pt_not (pt_cmpR (op_ownEq O_freq G_freq (hr.mono (by decide)) b_freq pass0) (pe_fld (pv 9) rfl) (pv 8) (nomark _))) (pw_or1 (pt_not (pt_cmpR (op_ownEq O_sqeq G_sqeq (hr.mono (by decide)) b_sqeq pass0) (pv 9) (pe_make MSq G_sqinit (hr.mono (by decide)) rfl m_Sq b_sqinit .nil pass0 (pa_cons (pv 4) (pa_cons (pv 5) (pa_cons (pv 6) (pa_cons (pv 7) (pa_cons (pe_un (un_own (E := fun _ _ _ => False) O_frneg G_frneg (hr.mono (by decide)) b_frneg pass0) (pe_un (un_own (E := fun _ _ _ => False) O_frneg G_frneg (hr.mono (by decide)) b_frneg pass0) (pv 8))) pa_nil)))))) (nomark _))))))
        (pss_one (ps_ret pe_bl))
        pss_nil)
      (pss_cons (ps_set (i := 10) sc_law.nd rfl (Or.inl rfl) (pe_lst (pa_cons (pe_op op_sub (pv 4) pe_int) (pa_cons (pv 4) (pa_cons (pe_op op_sub (pe_op op_add (pv 4) (pv 6)) pe_int) (pa_cons (pe_op op_add (pv 4) (pv 6)) (pa_cons (pe_call G_draw (hr.mono (by decide)) rfl m_draw k_draw b_draw .nil pass0 (pa_cons (pv 1) (pa_cons pe_int pa_nil))) (pa_cons pe_int pa_nil))))))))
      (pss_cons (ps_set (i := 11) sc_law.nd rfl (Or.inl rfl) (pe_lst (pa_cons (pe_op op_sub (pv 5) pe_int) (pa_cons (pv 5) (pa_cons (pe_op op_sub (pe_op op_add (pv 5) (pv 6)) pe_int) (pa_cons (pe_op op_add (pv 5) (pv 6)) (pa_cons (pe_call G_draw (hr.mono (by decide)) rfl m_draw k_draw b_draw .nil pass0 (pa_cons (pv 1) (pa_cons pe_int pa_nil))) (pa_cons pe_int pa_nil))))))))
      (pss_cons (ps_for PassesOwn.never rfl (pi_list (pv 10)) (pg_name (i := 12) sc_law.nd rfl (Or.inl rfl)) (pss_one (ps_for PassesOwn.never rfl (pi_list (pv 11)) (pg_name (i := 13) sc_law.nd rfl (Or.inl rfl)) (C8.pss_cut (ps_set (i := 14) sc_law.nd rfl (Or.inl rfl) (pe_and (pe_chain op_le op_lt (pv 4) (pv 12) (pe_op op_add (pv 4) (pv 6))) (pe_one (pe_chain op_le op_lt (pv 5) (pv 13) (pe_op op_add (pv 5) (pv 6))))))
      (pss_cons (ps_set (i := 15) sc_law.nd rfl (Or.inl rfl) (pe_meth (E := fun _ _ _ => False) (pv 9) TS.cl Me_has G_has (hr.mono (by decide)) b_has .nil pass0 (pa_cons (pv 12) (pa_cons (pv 13) pa_nil))))
      (pss_one (ps_if (PW.pt (pw_or (pt_not (pt_val (pe_callB call_isi (by rfl) B.b_isinstance (by decide +kernel) (pa_cons (pv 15) (pa_cons (pe_bltn (v := .ty "bool") (by rfl) I.b_bool (by decide +kernel) rfl) pa_nil))))) (pw_or1 (pt_cmpR op_ne (pv 15) (pv 14) (nomark _)))))
        (pss_one (ps_ret pe_bl))
        pss_nil)))))))
      (pss_cons (ps_for PassesOwn.never rfl (pi_list (pe_lst (pa_cons (pe_make MSq G_sqinit (hr.mono (by decide)) rfl m_Sq b_sqinit .nil pass0 (pa_cons (pe_op op_add (pv 4) pe_int) (pa_cons (pv 5) (pa_cons (pv 6) (pa_cons (pv 7) (pa_cons (pv 8) pa_nil)))))) (pa_cons (pe_make MSq G_sqinit (hr.mono (by decide)) rfl m_Sq b_sqinit .nil pass0 (pa_cons (pv 4) (pa_cons (pe_op op_add (pv 5) pe_int) (pa_cons (pv 6) (pa_cons (pv 7) (pa_cons (pv 8) pa_nil)))))) (pa_cons (pe_make MSq G_sqinit (hr.mono (by decide)) rfl m_Sq b_sqinit .nil pass0 (pa_cons (pv 4) (pa_cons (pv 5) (pa_cons (pe_op op_add (pv 6) pe_int) (pa_cons (pv 7) (pa_cons (pv 8) pa_nil)))))) (pa_cons (pe_make MSq G_sqinit (hr.mono (by decide)) rfl m_Sq b_sqinit .nil pass0 (pa_cons (pv 4) (pa_cons (pv 5) (pa_cons (pv 6) (pa_cons (pe_not (pv 7)) (pa_cons (pv 8) pa_nil)))))) (pa_cons (pe_make MSq G_sqinit (hr.mono (by decide)) rfl m_Sq b_sqinit .nil pass0 (pa_cons (pe_op op_add (pv 5) pe_int) (pa_cons (pv 4) (pa_cons (pv 6) (pa_cons (pv 7) (pa_cons (pv 8) pa_nil)))))) (pa_cons (pe_make MSq G_sqinit (hr.mono (by decide)) rfl m_Sq b_sqinit .nil pass0 (pa_cons (pv 4) (pa_cons (pv 5) (pa_cons (pv 6) (pa_cons (pv 7) (pa_cons (pe_make (E := fun _ _ _ => False) MFr G_frinit (hr.mono (by decide)) rfl m_Fr b_frinit .nil passL (pa_cons (pe_make MP G_pinit (hr.mono (by decide)) rfl m_P b_pinit .nil passL (pa_cons (pv 3) (pa_cons (pe_lst (pa_cons pe_int (pa_cons pe_int (pa_cons pe_int (pa_cons pe_int (pa_cons pe_int (pa_cons pe_int pa_nil))))))) pa_nil))) (pa_cons (pe_make MP G_pinit (hr.mono (by decide)) rfl m_P b_pinit .nil passL (pa_cons (pv 3) (pa_cons (pe_lst (pa_cons pe_int pa_nil)) pa_nil))) pa_nil))) pa_nil)))))) pa_nil)))))))) (pg_name (i := 16) sc_law.nd rfl (Or.inl rfl)) (pss_one (ps_if (pt_cmpR (op_ownEq O_sqeq G_sqeq (hr.mono (by decide)) b_sqeq pass0) (pv 9) (pv 16) (nomark _))
        (pss_one (ps_ret pe_bl))
        pss_nil)))
      (pss_one (ps_ret (pe_and (pe_not (pe_cmpR (op_ownEq O_sqeq G_sqeq (hr.mono (by decide)) b_sqeq pass0) (pv 9) (pe_tup (pa_cons (pv 4) (pa_cons (pv 5) (pa_cons (pv 6) (pa_cons (pv 7) (pa_cons (pv 8) pa_nil)))))) (nomark _))) (pe_and (pe_not (pe_cmpR (op_ownEq O_sqeq G_sqeq (hr.mono (by decide)) b_sqeq pass0) (pv 9) (pv 8) (nomark _))) (pe_one (pe_not (pe_cmpR (op_ownEq O_sqeq G_sqeq (hr.mono (by decide)) b_sqeq pass0) (pv 9) pe_non (nomark _)))))))))))))))))))))), ?_⟩
    have e24 : (sizeLine : Nat) = 16777216 := sizeLine_eq
    refine ⟨_, rfl, a0, ns, rfl, hS, hl, fun st H0 n0 SA s0 => ?_⟩
    refine ⟨_, rfl, st, rfl, SA, fun p H1 hg SA1 b1 => ?_⟩
    obtain ⟨ad, S1⟩ := SA1
    refine ⟨_, rfl, fun x dx nx ndx nex => mkF_go hg nx ndx nex fun H2 hx s2 => ⟨rfl, ?_⟩⟩
    have S2 : StA H2 st ad := StA.same S1 s2
    refine ⟨_, rfl, st, _, ad, rfl, by decide, by decide, S2, fun a H3 a0' a81 S3 B3 => ?_⟩
    refine ⟨_, rfl, st, _, ad, rfl, by decide, by decide, S3, fun b H4 b0' b81 S4 B4 => ?_⟩
    refine ⟨_, rfl, st, _, ad, rfl, by decide, by decide, S4, fun r H5 r0' r40 S5 B5 => ⟨_, _, rfl, rfl, _, _, _, rfl, ?_⟩⟩
    refine ⟨_, rfl, st, _, ad, rfl, by decide, by decide, S5, fun fl H6 f0' f2 S6 B6 => ⟨rfl, ?_⟩⟩
    rw [dec_vint]
    generalize decide (fl = 1) = flag
    have hx6 := ((((hx.nl (NL.butS S2 B3)).nl (NL.butS S3 B4)).nl (NL.butS S4 B5)).nl (NL.butS S5 B6))
    refine ⟨_, rfl, _, rfl, _, rfl, st, ad, x, p, rfl, S6, hx6, hg, fun z ts bs H7 S7 B7 fr tt tb lt lb bt bb => ?_⟩
    have hx7 := hx6.nl (NL.butS S6 B7)
    refine ⟨_, rfl, _, rfl, _, rfl, _, rfl, _, rfl, fun sq dsq nsq ndsq nesq => mkSq_go nsq ndsq nesq fun H8 s8 sqa => ⟨rfl, ?_⟩⟩
    obtain ⟨dq, hq⟩ := id sqa
    have em := sqf_m a b (1 + r) flag z
    have en := sqf_n a b (1 + r) flag z
    have es := sqf_s a b (1 + r) flag z
    have ec := sqf_c a b (1 + r) flag z
    have ef := sqf_f a b (1 + r) flag z
    refine ⟨_, rfl, sq, CSq, dq, _, _, rfl, hq, TS.cl, TS.nm, em, _, rfl, rfl, _, rfl, ?_⟩
    rw [ne_self]
    refine iteF ⟨_, rfl, sq, CSq, dq, _, _, rfl, hq, TS.cl, TS.nn, en, _, rfl, rfl, _, rfl, ?_⟩
    rw [ne_self]
    refine iteF ⟨_, rfl, sq, CSq, dq, _, _, rfl, hq, TS.cl, TS.ns, es, _, rfl, rfl, _, rfl, ?_⟩
    rw [ne_self]
    refine iteF ⟨_, rfl, sq, CSq, dq, _, _, rfl, hq, TS.cl, TS.nc, ec, _, _, _, _, true, rfl, .ty _, .base (.bl _), kit_ty (by decide +kernel), true, rfl, iteF ?_⟩
    refine ⟨_, rfl, sq, CSq, dq, _, _, rfl, hq, TS.cl, TS.nc, ec, _, rfl, rfl, _, rfl, ?_⟩
    rw [ne_self]
    refine iteF ?_
    have fr8 := fr.same s8
    have S8 : StA H8 st ad := S7.same s8
    obtain ⟨dz, _, _, _, _, hz, _⟩ := id fr8
    refine ⟨_, rfl, sq, CSq, dq, _, _, rfl, hq, TS.cl, TS.nf, ef, _, rfl, z, dz, _, _, rfl, hz, ins_ty TFr.cl YFr hz, nfFr, z, .ref z, p, ts, bs, rfl, fr8, .inl ⟨z, p, ts, bs, rfl, fr8, fun H9 s9 => ?_⟩⟩
    rw [show decide (p = p ∧ ts = ts ∧ bs = bs) = true by simp]
    refine ⟨true, rfl, iteF ?_⟩
    have hq9 := s9 _ _ hq
    have fr9 := fr8.same s9
    have hz9 := s9 _ _ hz
    obtain ⟨okT, okB⟩ : OkL p ts ∧ OkL p bs := by
      obtain ⟨_, _, _, _, _, _, _, pu, pv, _⟩ := id fr9
      exact ⟨pu.okl, pv.okl⟩
    refine ⟨_, rfl, _, rfl, _, rfl, _, rfl, _, rfl, _, rfl, z, dz, _, rfl, hz9, z, p, ts, bs, rfl, fr9, hg, by omega, fun p0 q hq => (bt p0 q hq).le (by decide), fun y1 H10 s10 fr1 => ?_⟩
    rw [trim_neg hg okT tt] at fr1
    obtain ⟨d1, _, _, _, _, h1, _⟩ := id fr1
    refine ⟨y1, d1, _, rfl, h1, y1, p, _, bs, rfl, fr1, hg, by rw [List.length_map]; omega, fun p0 q hq => ?_, fun y2 H11 s11 fr2 => ?_⟩
    · obtain ⟨q', hq', rfl⟩ := List.mem_map.mp hq
      exact (negP_bd p0 (bt p0 q' hq')).le (by decide)
    have okN : OkL p (ts.map (negP p)) := fun q hq => by
      obtain ⟨q', hq', rfl⟩ := List.mem_map.mp hq
      exact negP_ok hg (okT q' hq')
    rw [trim_neg hg okN (trim_neg hg okT tt), neg_map hg okT] at fr2
    refine fun sq2 dsq2 nsq2 ndsq2 nesq2 => mkSq_go nsq2 ndsq2 nesq2 fun H12 s12 sqb => ⟨rfl, ?_⟩
    have s912 := (s10.trans s11).trans s12
    obtain ⟨db, hb2⟩ := id sqb
    refine ⟨sq, dq, _, _, rfl, s912 _ _ hq9, ins_ty TS.cl YS hb2, nfS, sq, .ref sq2, a, b, 1 + r, flag, z, rfl, ⟨dq, s912 _ _ hq9⟩, .inl ⟨sq2, a, b, 1 + r, flag, y2, p, p, ts, bs, ts, bs, rfl, sqb, fr9.same s912, fr2.same s12, fun H13 s13 => ?_⟩⟩
    rw [show decide (a = a ∧ b = b ∧ 1 + r = 1 + r ∧ flag = flag ∧ p = p ∧ ts = ts ∧ bs = bs) = true by simp]
    refine ⟨true, rfl, iteF ?_⟩
    have s813 := (s9.trans s912).trans s13
    have S13 : StA H13 st ad := S8.same s813
    have hq13 := s813 _ _ hq
    have fr13 := fr8.same s813
    have hx13 := (hx7.same s8).same s813
    clear fr fr8 fr9 fr1 fr2 hq9 hz9 sqa sqb hb2 h1 hz s10 s11 s12 s9 s912 s13 s813 S8 hx hx6 hx7
    -- the places
    refine ⟨_, rfl, _, _, rfl, rfl, _, rfl, _, rfl, _, rfl, _, _, rfl, rfl, _, _, rfl, rfl, _, rfl, _, rfl, _, _, rfl, rfl, _, rfl, st, _, ad, rfl, by decide, by decide, S13, fun e1 H14 e10 e11 S14 B14 => ⟨(by show 6 ≤ sizeLine; decide), fun l1 hl1 => ?_⟩⟩
    have n1 := NL.butS S13 B14
    have nl1 := S14.ne hl1
    have S15 : StA _ st ad := S14.up (o := .lst [.int (a - 1), .int a, .int (a + (1 + r) - 1), .int (a + (1 + r)), .int e1, .int 0]) hl1
    have s15 := same_new (o := .lst [.int (a - 1), .int a, .int (a + (1 + r) - 1), .int (a + (1 + r)), .int e1, .int 0]) (Same.refl H14) hl1
    have g1 : upd H14 l1 (.lst [.int (a - 1), .int a, .int (a + (1 + r) - 1), .int (a + (1 + r)), .int e1, .int 0]) l1 = some (.lst [.int (a - 1), .int a, .int (a + (1 + r) - 1), .int (a + (1 + r)), .int e1, .int 0]) := upd_same
    refine ⟨_, rfl, _, _, rfl, rfl, _, rfl, _, rfl, _, rfl, _, _, rfl, rfl, _, _, rfl, rfl, _, rfl, _, rfl, _, _, rfl, rfl, _, rfl, st, _, ad, rfl, by decide, by decide, S15, fun e2 H16 e20 e21 S16 B16 => ⟨(by show 6 ≤ sizeLine; decide), fun l2 hl2 => ?_⟩⟩
    have n2 := (n1.trans (NL.of s15)).trans (NL.butS S15 B16)
    have s17 := same_new (o := .lst [.int (b - 1), .int b, .int (b + (1 + r) - 1), .int (b + (1 + r)), .int e2, .int 0]) (Same.refl H16) hl2
    have g2 := s17 _ _ (B16 _ _ g1 nl1.1)
    have g3 : upd H16 l2 (.lst [.int (b - 1), .int b, .int (b + (1 + r) - 1), .int (b + (1 + r)), .int e2, .int 0]) l2 = some (.lst ([b - 1, b, b + (1 + r) - 1, b + (1 + r), e2, 0].map V.int)) := upd_same
    have g2 : upd H16 l2 (.lst [.int (b - 1), .int b, .int (b + (1 + r) - 1), .int (b + (1 + r)), .int e2, .int 0]) l1 = some (.lst ([a - 1, a, a + (1 + r) - 1, a + (1 + r), e1, 0].map V.int)) := g2
    have n3 := n2.trans (NL.of s17)
    have hq17 : upd H16 l2 (.lst [.int (b - 1), .int b, .int (b + (1 + r) - 1), .int (b + (1 + r)), .int e2, .int 0]) sq = _ := n3 _ _ hq13 fun xs e => by cases e
    have fr17 := fr13.nl n3
    have hx17 := hx13.nl n3
    clear n1 n2 n3 s15 s17 g1 hl1 nl1 S15 S13 hq13 fr13 hx13 B14 S14 B16 S16
    generalize upd H16 l2 (.lst [.int (b - 1), .int b, .int (b + (1 + r) - 1), .int (b + (1 + r)), .int e2, .int 0]) = HX at *
    generalize [a - 1, a, a + (1 + r) - 1, a + (1 + r), e1, 0] = is1 at *
    generalize [b - 1, b, b + (1 + r) - 1, b + (1 + r), e2, 0] = is2 at *
    refine ⟨_, rfl, l1, rfl, ⟨_, SqL.of g2⟩, ?_⟩
    refine for_list (xs := is1.map V.int) (fun i σ H' => ∃ z12 z13 z14 z15, σ = [some (.ref a0), some (.ref st), some (.int p), some (.ref x), some (.int a), some (.int b), some (.int (1 + r)), some (.bl flag), some (.ref z), some (.ref sq), some (.ref l1), some (.ref l2), z12, z13, z14, z15, none] ∧ HX = H') ?_ ?_ ?_ ?_
    · exact ⟨none, none, none, none, rfl, rfl⟩
    · rintro i σ H' _ ⟨_, _, _, _, _, rfl⟩
      exact SqL.of g2
    · rintro i y σ H' hi ⟨z12, z13, z14, z15, rfl, rfl⟩
      obtain ⟨u, _, rfl⟩ := map_get hi
      refine ⟨_, rfl, l2, rfl, ⟨_, SqL.of g3⟩, ?_⟩
      refine for_list (xs := is2.map V.int) (fun j σ H' => ∃ z13 z14 z15, σ = [some (.ref a0), some (.ref st), some (.int p), some (.ref x), some (.int a), some (.int b), some (.int (1 + r)), some (.bl flag), some (.ref z), some (.ref sq), some (.ref l1), some (.ref l2), some (.int u), z13, z14, z15, none] ∧ HX = H') ?_ ?_ ?_ ?_
      · exact ⟨z13, z14, z15, rfl, rfl⟩
      · rintro j σ H' _ ⟨_, _, _, _, rfl⟩
        exact SqL.of g3
      · rintro j y σ H' hj ⟨y13, y14, y15, rfl, rfl⟩
        obtain ⟨w1, _, rfl⟩ := map_get hj
        refine ⟨fun σ' H'' => HX = H'' ∧ σ' = [some (.ref a0), some (.ref st), some (.int p), some (.ref x), some (.int a), some (.int b), some (.int (1 + r)), some (.bl flag), some (.ref z), some (.ref sq), some (.ref l1), some (.ref l2), some (.int u), some (.int w1), some (.bl (decide (a ≤ u ∧ u < a + (1 + r) ∧ b ≤ w1 ∧ w1 < b + (1 + r)))), y15, none], ?_, ?_⟩
        · have no : ∀ {X : Prop} [Decidable X], ¬ X → (a ≤ u ∧ u < a + (1 + r) ∧ b ≤ w1 ∧ w1 < b + (1 + r) → X) → decide (a ≤ u ∧ u < a + (1 + r) ∧ b ≤ w1 ∧ w1 < b + (1 + r)) = false := fun {X} _ h g => decide_eq_false fun z => h (g z)
          refine ⟨_, rfl, _, rfl, _, _, rfl, rfl, _, rfl, ?_⟩
          by_cases c1 : a ≤ u
          case neg => exact itDn (by simpa using c1) ⟨_, rfl, itDn (by simpa using c1) ⟨rfl, by rw [no c1 fun z => z.1]; rfl⟩⟩
          refine itD (decide_eq_true c1) ?_
          refine ⟨_, rfl, _, rfl, _, _, rfl, rfl, _, _, rfl, rfl, _, rfl, ?_⟩
          by_cases c2 : u < a + (1 + r)
          case neg => exact itDn (by simpa using c2) ⟨rfl, by rw [no c2 fun z => z.2.1]; rfl⟩
          refine itD (decide_eq_true c2) ?_
          refine ⟨_, rfl, _, rfl, _, _, rfl, rfl, _, rfl, ?_⟩
          by_cases c3 : b ≤ w1
          case neg => exact itDn (by simpa using c3) ⟨rfl, by rw [no c3 fun z => z.2.2.1]; rfl⟩
          refine itD (decide_eq_true c3) ?_
          refine ⟨_, rfl, _, rfl, _, _, rfl, rfl, _, _, rfl, rfl, rfl, ?_⟩
          have e : decide (a ≤ u ∧ u < a + (1 + r) ∧ b ≤ w1 ∧ w1 < b + (1 + r)) = decide (w1 < b + (1 + r)) := by
            by_cases c4 : w1 < b + (1 + r)
            · rw [decide_eq_true c4, decide_eq_true ⟨c1, c2, c3, c4⟩]
            · rw [decide_eq_false c4, decide_eq_false fun z => c4 z.2.2.2]
          rw [e]
          rfl
        · rintro σ H' ⟨rfl, rfl⟩
          refine ⟨_, rfl, sq, dq, _, rfl, hq17, sqf_has _ _ _ _ _, _, rfl, _, rfl, sq, a, b, 1 + r, flag, z, u, w1, rfl, ⟨dq, hq17⟩, ?_⟩
          refine ⟨_, rfl, _, _, _, _, true, rfl, .ty _, .base (.bl _), kit_ty (by decide +kernel), true, rfl, iteF ?_⟩
          refine ⟨_, rfl, _, rfl, rfl, _, rfl, ?_⟩
          rw [ne_self]
          exact iteF ⟨_, _, _, rfl, rfl⟩
      · rintro σ H' ⟨y13, y14, y15, rfl, rfl⟩
        exact ⟨_, _, _, _, rfl, rfl⟩
    rintro σ H' ⟨z12, z13, z14, z15, rfl, rfl⟩
    -- the other squares
    refine ⟨_, rfl, _, _, rfl, rfl, _, rfl, _, rfl, _, rfl, _, rfl, fun q1 dq1 nq1 ndq1 neq1 => mkSq_go nq1 ndq1 neq1 fun H1 s1 a1 => ⟨rfl, ?_⟩⟩
    refine ⟨_, rfl, _, rfl, _, _, rfl, rfl, _, rfl, _, rfl, _, rfl, fun q2 dq2 nq2 ndq2 neq2 => mkSq_go nq2 ndq2 neq2 fun H2 s2 a2 => ⟨rfl, ?_⟩⟩
    refine ⟨_, rfl, _, rfl, _, rfl, _, _, rfl, rfl, _, rfl, _, rfl, fun q3 dq3 nq3 ndq3 neq3 => mkSq_go nq3 ndq3 neq3 fun H3 s3 a3 => ⟨rfl, ?_⟩⟩
    refine ⟨_, rfl, _, rfl, _, rfl, _, rfl, _, rfl, _, rfl, fun q4 dq4 nq4 ndq4 neq4 => mkSq_go nq4 ndq4 neq4 fun H4 s4 a4 => ⟨rfl, ?_⟩⟩
    refine ⟨_, rfl, _, _, rfl, rfl, _, rfl, _, rfl, _, rfl, _, rfl, fun q5 dq5 nq5 ndq5 neq5 => mkSq_go nq5 ndq5 neq5 fun H5 s5 a5 => ⟨rfl, ?_⟩⟩
    have s15 := (((s1.trans s2).trans s3).trans s4).trans s5
    have hx5 := hx17.same s15
    refine ⟨_, rfl, _, rfl, _, rfl, _, rfl, _, rfl, (by show 6 ≤ sizeLine; decide), fun t1 ht1 => ?_⟩
    have st1 := same_new (o := .lst [.int 0, .int 0, .int 0, .int 0, .int 0, .int 1]) (Same.refl H5) ht1
    have gnil : ∀ {H' : Hp}, Givs K C H' p [] (([] : List (Int × Int)).map some) := ⟨rfl, fun i x o e => by simp at e⟩
    have gz : ∀ {H' : Hp}, Giv K C H' p (.int 0) (some (0, 1)) := giv01 hg (.inl rfl)
    have g1 : ∀ {H' : Hp}, Giv K C H' p (.int 1) (some (1, 1)) := giv01 hg (.inr rfl)
    refine fun y1 dy1 ny1 ndy1 ney1 => mkPL_go (prs := [(0, 1), (0, 1), (0, 1), (0, 1), (0, 1), (1, 1)]) (hx5.same st1) hg kl upd_same ((((((gnil.snoc gz).snoc gz).snoc gz).snoc gz).snoc gz).snoc g1) (by decide) ny1 ndy1 ney1 fun H6 s6 po1 => ⟨rfl, ?_⟩
    have s56 := st1.trans s6
    refine ⟨_, rfl, (by show 1 ≤ sizeLine; decide), fun t2 ht2 => ?_⟩
    have st2 := same_new (o := .lst [.int 1]) (Same.refl H6) ht2
    refine fun y2 dy2 ny2 ndy2 ney2 => mkPL_go (prs := [(1, 1)]) ((hx5.same s56).same st2) hg kl upd_same (gnil.snoc g1) (by decide) ny2 ndy2 ney2 fun H7 s7 po2 => ⟨rfl, ?_⟩
    have s67 := st2.trans s7
    have t1e : trimP [((0 : Int), (1 : Int)), (0, 1), (0, 1), (0, 1), (0, 1), (1, 1)] = [(0, 1), (0, 1), (0, 1), (0, 1), (0, 1), (1, 1)] := by decide
    have t2e : trimP [((1 : Int), (1 : Int))] = [(1, 1)] := by decide
    rw [t1e] at po1
    rw [t2e] at po2
    have lz : ∀ l : List (Int × Int), (∀ q ∈ l, q = (0, 1) ∨ q = (1, 1)) → l.length ≤ 6 → LowZ l 1 1 6 := fun l h n => ⟨⟨by decide, Nat.one_lt_two_pow (by decide), fun q hq => by rcases h q hq with rfl | rfl <;> decide, fun q hq => by rcases h q hq with rfl | rfl <;> decide⟩, by decide, n⟩
    refine fun zf dzf nzf ndzf nezf => mkFrG_go (po1.same s67) po2 hg t1e t2e (by decide) (by decide) ⟨1, 1, 1, 6, fun _ => ⟨lz _ (by simp) (by decide), lz _ (by simp) (by decide), by decide, .inr ⟨by decide, by decide, by decide, by decide⟩⟩⟩ nzf ndzf nezf (.inl ⟨by simp, by simp, by decide⟩) fun H8 s8 cs ds fr8 _ _ _ _ _ _ cr one => ⟨rfl, ?_⟩
    have s58 := (s56.trans s67).trans s8
    have l5 : 5 < cs.length := by
      obtain ⟨_, _, _, _, _, _, _, pu, pv, _⟩ := id fr8
      exact long5 hg pu.okl pv.okl cr one
    refine fun q6 dq6 nq6 ndq6 neq6 => mkSq_go nq6 ndq6 neq6 fun H9 s9 a6 => ⟨rfl, (by show 6 ≤ sizeLine; decide), fun lq hlq => ⟨lq, rfl, ⟨_, SqL.of upd_same⟩, ?_⟩⟩
    have sq9 := same_new (o := .lst [.ref q1, .ref q2, .ref q3, .ref q4, .ref q5, .ref q6]) (Same.refl H9) hlq
    have s59 := (s58.trans s9).trans sq9
    have hY : upd H9 lq (.lst [.ref q1, .ref q2, .ref q3, .ref q4, .ref q5, .ref q6]) lq = some (.lst [.ref q1, .ref q2, .ref q3, .ref q4, .ref q5, .ref q6]) := upd_same
    have frY := (fr17.same s15).same s59
    have hqY := s59 _ _ (s15 _ _ hq17)
    have b5 : Same H1 (upd H9 lq (.lst [.ref q1, .ref q2, .ref q3, .ref q4, .ref q5, .ref q6])) := ((((s2.trans s3).trans s4).trans s5).trans s59)
    have all : ∀ y ∈ [V.ref q1, .ref q2, .ref q3, .ref q4, .ref q5, .ref q6], Oth C CP CF CFr CSq (upd H9 lq (.lst [.ref q1, .ref q2, .ref q3, .ref q4, .ref q5, .ref q6])) y a b (1 + r) flag p ts bs := by
      intro y hy
      have c : y = .ref q1 ∨ y = .ref q2 ∨ y = .ref q3 ∨ y = .ref q4 ∨ y = .ref q5 ∨ y = .ref q6 := by simpa using hy
      rcases c with rfl | rfl | rfl | rfl | rfl | rfl
      · exact ⟨_, _, _, _, _, _, _, _, _, rfl, a1.same b5, frY, fun z => by have := z.1; omega⟩
      · exact ⟨_, _, _, _, _, _, _, _, _, rfl, a2.same (((s3.trans s4).trans s5).trans s59), frY, fun z => by have := z.2.1; omega⟩
      · exact ⟨_, _, _, _, _, _, _, _, _, rfl, a3.same ((s4.trans s5).trans s59), frY, fun z => by have := z.2.2.1; omega⟩
      · exact ⟨_, _, _, _, _, _, _, _, _, rfl, a4.same (s5.trans s59), frY, fun z => by have := z.2.2.2.1; revert this; cases flag <;> decide⟩
      · exact ⟨_, _, _, _, _, _, _, _, _, rfl, a5.same s59, frY, fun z => by have := z.1; omega⟩
      · exact ⟨_, _, _, _, _, _, _, _, _, rfl, a6.same sq9, (fr8.same s9).same sq9, fun z => by have := congrArg List.length z.2.2.2.2.2.1; omega⟩
    generalize upd H9 lq (.lst [.ref q1, .ref q2, .ref q3, .ref q4, .ref q5, .ref q6]) = HY at *
    refine for_list (xs := [V.ref q1, .ref q2, .ref q3, .ref q4, .ref q5, .ref q6]) (fun i σ H' => ∃ zo, σ = [some (.ref a0), some (.ref st), some (.int p), some (.ref x), some (.int a), some (.int b), some (.int (1 + r)), some (.bl flag), some (.ref z), some (.ref sq), some (.ref l1), some (.ref l2), z12, z13, z14, z15, zo] ∧ Same HY H') ?_ ?_ ?_ ?_
    · exact ⟨none, rfl, Same.refl _⟩
    · rintro i σ H' _ ⟨_, _, s⟩
      exact SqL.of (s _ _ hY)
    · rintro i y σ H' hi ⟨zo, rfl, s⟩
      obtain ⟨q, m', n', z', c', f', p', ts', bs', rfl, sa, fa, nt⟩ := all y (List.mem_of_getElem? hi)
      obtain ⟨dqq, hqq⟩ := id (sa.same s)
      refine ⟨_, rfl, _, rfl, sq, dq, _, _, rfl, s _ _ hqY, ins_ty TS.cl YS hqq, nfS, sq, .ref q, a, b, 1 + r, flag, z, rfl, ⟨dq, s _ _ hqY⟩, .inl ⟨q, m', n', z', c', f', p, p', ts, bs, ts', bs', rfl, sa.same s, frY.same s, fa.same s, fun H2 s2 => ?_⟩⟩
      rw [decide_eq_false nt]
      exact ⟨_, rfl, iteF ⟨_, rfl, s.trans s2⟩⟩
    rintro σ H' ⟨zo, rfl, s⟩
    have hqE := s _ _ hqY
    have frE := frY.same s
    refine ⟨_, rfl, _, rfl, _, rfl, _, rfl, _, rfl, _, rfl, (by show 5 ≤ sizeLine; decide), fun tq htq => ?_⟩
    have stq := same_new (o := .tup [.int a, .int b, .int (1 + r), .bl flag, .ref z]) (Same.refl H') htq
    refine ⟨sq, dq, _, _, rfl, stq _ _ hqE, .base (.tup upd_same), nftS, sq, .ref tq, a, b, 1 + r, flag, z, rfl, ⟨dq, stq _ _ hqE⟩, .inr ⟨⟨_, .base (.tup upd_same), ktS⟩, ?_⟩⟩
    have hqF := stq _ _ hqE
    have frF := frE.same stq
    obtain ⟨dz, _, _, _, _, hz, _⟩ := id frF
    refine ⟨_, rfl, _, rfl, iteT ?_⟩
    refine ⟨_, rfl, _, rfl, sq, dq, _, _, rfl, hqF, ins_ty TFr.cl YFr hz, nffS, sq, .ref z, a, b, 1 + r, flag, z, rfl, ⟨dq, hqF⟩, .inr ⟨⟨_, ins_ty TFr.cl YFr hz, kfS⟩, ?_⟩⟩
    refine ⟨_, rfl, _, rfl, iteT ?_⟩
    refine ⟨_, rfl, sq, dq, _, _, rfl, hqF, .base .non, nfnS, sq, .non, a, b, 1 + r, flag, z, rfl, ⟨dq, hqF⟩, .inr ⟨⟨_, .base .non, knS⟩, ?_⟩⟩
    exact ⟨_, rfl, k _⟩
end
end Sq

namespace Sq
open PySem PySem.Spec PyProof.Rows L2
theorem cls_some {K : PySem.W.Frag} {C : Addr} (h : PySem.W.hasDictIn K C = true) : (PySem.W.clsIn K C).isSome = true := by
  obtain ⟨cd, hc, _⟩ := PySem.W.any_some h
  rw [hc]
  rfl
theorem kit_own {K : PySem.W.Frag} {C : Addr} {t : Value} (h : PySem.W.hasDictIn K C = true) (ht : PySem.W.typeIn K (.ref C) = some (.type "type")) (hs : PySem.W.subIn K t (.ref C) = some true) : PySem.W.kitOne K t (.ref C) = some true := by
  unfold PySem.W.kitOne
  split
  · rfl
  · show (if ((PySem.W.clsIn K C).isSome && PySem.W.typeIn K (.ref C) == some (.type "type")) = true then PySem.W.subIn K t (.ref C) else none) = some true
    rw [cls_some h, ht]
    simpa using hs
theorem kit_tyo {K : PySem.W.Frag} {C : Addr} {T : String} {b : Bool} (h : PySem.W.hasDictIn K C = true) (ht : PySem.W.typeIn K (.ref C) = some (.type "type")) (hs : PySem.W.subIn K (.type T) (.ref C) = some b) : PySem.W.kitOne K (.type T) (.ref C) = some b := by
  unfold PySem.W.kitOne
  rw [if_neg (by simp)]
  show (if ((PySem.W.clsIn K C).isSome && PySem.W.typeIn K (.ref C) == some (.type "type")) = true then PySem.W.subIn K (.type T) (.ref C) else none) = some b
  rw [cls_some h, ht]
  simpa using hs
theorem kit_ty2 {K : PySem.W.Frag} {C : Addr} {T : String} {b : Bool} (hm : PySem.W.kitMeta T = true) (hs : PySem.W.subIn K (.ref C) (.type T) = some b) : PySem.W.kitOne K (.ref C) (.type T) = some b := by
  unfold PySem.W.kitOne
  rw [if_neg (by simp)]
  show (if PySem.W.kitMeta T = true then PySem.W.subIn K (.ref C) (.type T) else none) = some b
  rw [if_pos hm]
  exact hs
theorem ns_ok {K : PySem.W.Frag} {N : Addr} {oc : Value} {od : Option Addr} {es : Array DictEntry} {n : Nat} {sl : Array (Option Value)} (h : K.lookup N = some ⟨oc, od, .dict es n, sl⟩) (e : (es.toList.all fun e => match e.key with | .str _ _ => true | _ => false) = true) : PySem.W.nsOkIn K N = true := by
  unfold PySem.W.nsOkIn
  rw [h]
  rw [Array.all_toList] at e
  exact e
theorem tail0 {K : PySem.W.Frag} : PySem.W.tailIn K [.type "ValueError", .type "Exception", .type "BaseException", .type "object"] [.type "ValueError", .type "Exception", .type "BaseException", .type "object"] = true := by
  unfold PySem.W.tailIn
  simp
theorem tail1 {K : PySem.W.Frag} {C : Addr} {nm q : Str} {N : Addr} {bs bm : List Value} {sn : List Str} {sub : List Value} {ab : Bool} {col : Option Bool} {dd : Option Addr} {k0 k1 k2 k3 k5 : Option Value} {nw : String} (h : K.lookup C = some (excClassObj nm q C N bs bm true sn sub ab col dd k0 k1 k2 k3 k5 nw)) (ok : PySem.W.nsOkIn K N = true) (ni : PySem.W.nsIn K N "__init__" = some none) :
    PySem.W.tailIn K [.type "ValueError", .type "Exception", .type "BaseException", .type "object"] [.ref C, .type "ValueError", .type "Exception", .type "BaseException", .type "object"] = true := by
  unfold PySem.W.tailIn
  dsimp only
  rw [h]
  show (_ || (PySem.W.nsOkIn K N && PySem.W.nsIn K N "__init__" == some none && PySem.W.tailIn K _ _)) = true
  rw [ok, ni, tail0]
  simp
theorem exc_in {K : PySem.W.Frag} {C : Addr} {nm q : Str} {N : Addr} {bs bm bmB : List Value} {sn : List Str} {sub : List Value} {ab : Bool} {col : Option Bool} {dd : Option Addr} {k0 k1 k2 k3 k5 : Option Value} {nw : String} (h : K.lookup C = some (excClassObj nm q C N bs bm true sn sub ab col dd k0 k1 k2 k3 k5 nw)) (ok : PySem.W.nsOkIn K N = true) (ni : PySem.W.nsIn K N "__init__" = some none) (tl : PySem.W.tailIn K bmB bm = true) :
    PySem.W.excIn K C bmB nw = true := by
  unfold PySem.W.excIn
  rw [h]
  show (C == C && nw == nw && !false && PySem.W.tailIn K bmB bm && PySem.W.nsOkIn K N && PySem.W.nsIn K N "__init__" == some none) = true
  rw [tl, ok, ni]
  simp
theorem kit_ownF {K : PySem.W.Frag} {C D : Addr} (h : PySem.W.hasDictIn K C = true) (ht : PySem.W.typeIn K (.ref C) = some (.type "type")) (hs : PySem.W.subIn K (.ref D) (.ref C) = some false) (self : PySem.W.subIn K (.ref C) (.ref C) = some true) : PySem.W.kitOne K (.ref D) (.ref C) = some false := by
  unfold PySem.W.kitOne
  split
  · rename_i c
    have e : (Value.ref D) = .ref C := by simpa using c
    rw [e, self] at hs
    cases hs
  · show (if ((PySem.W.clsIn K C).isSome && PySem.W.typeIn K (.ref C) == some (.type "type")) = true then PySem.W.subIn K (.ref D) (.ref C) else none) = some false
    rw [cls_some h, ht]
    simpa using hs
theorem all_mk {P : Program} {w : World} {K : PySem.W.Frag} {h : Heap} {mg : Str → Option Value} {fa : Addr} (X : K.In h) (G : h.Ns mainGlobals mg) (hfa : mg "law" = some (.ref fa))
    {fla CF ffinit dfinit CP fpinit CFr ffrinit CSq fsqinit ffrneg ffreq fsqeq fhas CRd CS NaS CNF NaNF fisint fisprime CR freq CPL fplaceInit NaPL frow fisseq ffnum ftaken CNN NaNN ffover fisnum fratioInit dratioInit fasratio CN fnoRatioInit NaN finverse CSt CFR fwordInit NaFR fpfdiv fpcoef fpmul flow ffeq fsame COF NaOF fpgcd fwhole fcommon fshort fcontent fdiv ftrimmed fapart frd fpolyof fnums frover fdivd CNC NaNC fr_P_Mult ff_R_Mult fr_R_Mult fisop fasp fmult fpneg fstinit frneg fpeq fstate flpr fdraw flip flfrac funit fnumber fpair fgcd fsmall flpoly fpassed fgiven : Addr} {odla anla odfinit anfinit oe1finit odpinit anpinit odfrinit anfrinit odsqinit ansqinit odfrneg anfrneg odfreq anfreq odsqeq ansqeq odhas anhas ddS ndS ddNF ndNF odisint anisint odisprime anisprime odreq anreq odplaceInit anplaceInit ddPL odrow anrow odisseq anisseq odfnum anfnum odtaken antaken ddNN ndNN odfover anfover odisnum anisnum odratioInit anratioInit oe1ratioInit odasratio anasratio odnoRatioInit annoRatioInit ddN odinverse aninverse odwordInit anwordInit ddFR odpfdiv anpfdiv odpcoef anpcoef odpmul anpmul odlow anlow odfeq anfeq odsame ansame ddOF ndOF odpgcd anpgcd odwhole anwhole odcommon ancommon odshort anshort odcontent ancontent oddiv andiv odtrimmed antrimmed odapart anapart odrd anrd odpolyof anpolyof odnums annums odrover anrover oddivd andivd ddNC ndNC odisop anisop odasp anasp odmult anmult odpneg anpneg odstinit anstinit odrneg anrneg odpeq anpeq odstate anstate odlpr anlpr oddraw andraw odlip anlip odlfrac anlfrac odunit anunit odnumber annumber odpair anpair odgcd angcd odsmall ansmall odlpoly anlpoly odpassed anpassed odgiven angiven : Option Addr} {slla slfinit skfinit slpinit slfrinit slsqinit slfrneg slfreq slsqeq slhas nsS nsNF slisint slisprime slreq slplaceInit slrow slisseq slfnum sltaken nsNN slfover slisnum slratioInit skratioInit slasratio slnoRatioInit slinverse slwordInit slpfdiv slpcoef slpmul sllow slfeq slsame nsOF slpgcd slwhole slcommon slshort slcontent sldiv sltrimmed slapart slrd slpolyof slnums slrover sldivd nsNC slisop slasp slmult slpneg slstinit slrneg slpeq slstate sllpr sldraw sllip sllfrac slunit slnumber slpair slgcd slsmall sllpoly slpassed slgiven : Array (Option Value)} {ocla kVla dcla pmla cdla ctla ocfinit kVfinit dcfinit pmfinit cdfinit ctfinit oefinit ocpinit kVpinit dcpinit pmpinit cdpinit ctpinit ocfrinit kVfrinit dcfrinit pmfrinit cdfrinit ctfrinit ocsqinit kVsqinit dcsqinit pmsqinit cdsqinit ctsqinit ocfrneg kVfrneg dcfrneg pmfrneg cdfrneg ctfrneg ocfreq kVfreq dcfreq pmfreq cdfreq ctfreq ocsqeq kVsqeq dcsqeq pmsqeq cdsqeq ctsqeq ochas kVhas dchas pmhas cdhas cthas ncS ncNF ocisint kVisint dcisint pmisint cdisint ctisint ocisprime kVisprime dcisprime pmisprime cdisprime ctisprime ocreq kVreq dcreq pmreq cdreq ctreq ocplaceInit kVplaceInit dcplaceInit pmplaceInit cdplaceInit ctplaceInit ocrow kVrow dcrow pmrow cdrow ctrow ocisseq kVisseq dcisseq pmisseq cdisseq ctisseq ocfnum kVfnum dcfnum pmfnum cdfnum ctfnum octaken kVtaken dctaken pmtaken cdtaken cttaken ncNN ocfover kVfover dcfover pmfover cdfover ctfover ocisnum kVisnum dcisnum pmisnum cdisnum ctisnum ocratioInit kVratioInit dcratioInit pmratioInit cdratioInit ctratioInit oeratioInit ocasratio kVasratio dcasratio pmasratio cdasratio ctasratio ocnoRatioInit kVnoRatioInit dcnoRatioInit pmnoRatioInit cdnoRatioInit ctnoRatioInit ocinverse kVinverse dcinverse pminverse cdinverse ctinverse ocwordInit kVwordInit dcwordInit pmwordInit cdwordInit ctwordInit ocpfdiv kVpfdiv dcpfdiv pmpfdiv cdpfdiv ctpfdiv ocpcoef kVpcoef dcpcoef pmpcoef cdpcoef ctpcoef ocpmul kVpmul dcpmul pmpmul cdpmul ctpmul oclow kVlow dclow pmlow cdlow ctlow ocfeq kVfeq dcfeq pmfeq cdfeq ctfeq ocsame kVsame dcsame pmsame cdsame ctsame ncOF ocpgcd kVpgcd dcpgcd pmpgcd cdpgcd ctpgcd ocwhole kVwhole dcwhole pmwhole cdwhole ctwhole occommon kVcommon dccommon pmcommon cdcommon ctcommon ocshort kVshort dcshort pmshort cdshort ctshort occontent kVcontent dccontent pmcontent cdcontent ctcontent ocdiv kVdiv dcdiv pmdiv cddiv ctdiv octrimmed kVtrimmed dctrimmed pmtrimmed cdtrimmed cttrimmed ocapart kVapart dcapart pmapart cdapart ctapart ocrd kVrd dcrd pmrd cdrd ctrd ocpolyof kVpolyof dcpolyof pmpolyof cdpolyof ctpolyof ocnums kVnums dcnums pmnums cdnums ctnums ocrover kVrover dcrover pmrover cdrover ctrover ocdivd kVdivd dcdivd pmdivd cddivd ctdivd ncNC ocisop kVisop dcisop pmisop cdisop ctisop ocasp kVasp dcasp pmasp cdasp ctasp ocmult kVmult dcmult pmmult cdmult ctmult ocpneg kVpneg dcpneg pmpneg cdpneg ctpneg ocstinit kVstinit dcstinit pmstinit cdstinit ctstinit ocrneg kVrneg dcrneg pmrneg cdrneg ctrneg ocpeq kVpeq dcpeq pmpeq cdpeq ctpeq ocstate kVstate dcstate pmstate cdstate ctstate oclpr kVlpr dclpr pmlpr cdlpr ctlpr ocdraw kVdraw dcdraw pmdraw cddraw ctdraw oclip kVlip dclip pmlip cdlip ctlip oclfrac kVlfrac dclfrac pmlfrac cdlfrac ctlfrac ocunit kVunit dcunit pmunit cdunit ctunit ocnumber kVnumber dcnumber pmnumber cdnumber ctnumber ocpair kVpair dcpair pmpair cdpair ctpair ocgcd kVgcd dcgcd pmgcd cdgcd ctgcd ocsmall kVsmall dcsmall pmsmall cdsmall ctsmall oclpoly kVlpoly dclpoly pmlpoly cdlpoly ctlpoly ocpassed kVpassed dcpassed pmpassed cdpassed ctpassed ocgiven kVgiven dcgiven pmgiven cdgiven ctgiven : Value} {nfinit npS npNF npNN nratioInit npOF npNC : Nat} {tkfinit tk_GREATEST_PRIME tkMO tkratioInit tk_SIGHTING_PRIME : Tok} {nmS qS nmNF qNF nmPL qPL nmNN qNN nmN qN nmFR qFR nmOF qOF nmNC qNC : Str} {bsS subS bsNF subNF bsPL subPL bsNN subNN bsN subN bsFR subFR bsOF subOF bsNC subNC : List Value} {snS snNF snPL snNN snN snFR snOF snNC : List Str} {abS abNF abPL abNN abN abFR abOF abNC : Bool} {colS colNF colPL colNN colN colFR colOF colNC : Option Bool} {m0S m1S m2S m3S m5S m0NF m1NF m2NF m3NF m5NF m0PL m1PL m2PL m3PL m5PL m0NN m1NN m2NN m3NN m5NN m0N m1N m2N m3N m5N m0FR m1FR m2FR m3FR m5FR m0OF m1OF m2OF m3OF m5OF m0NC m1NC m2NC m3NC m5NC fomult romult : Option Value} {neS neNF neNN neOF neNC : Array DictEntry}
    (ala : PySem.W.nsIn K mainGlobals "law" = some (some (.ref fla)))
    (lla : K.lookup fla = some ⟨ocla, odla, .func (PySem.W.fnOf "law" "law" (defArgs s_law) (defBody s_law) (defScope s_law) .none kVla dcla pmla anla cdla ctla), slla⟩)
    (cla : PySem.W.codeIn K cdla "law" = true)
    (kla : PySem.W.keepIn K (.ref fla) = true)
    (aF : PySem.W.nsIn K mainGlobals "Field" = some (some (.ref CF)))
    (pgF : PySem.W.plainGet K CF Str.empty = true)
    (hdF : PySem.W.hasDictIn K CF = true)
    (poF : PySem.W.plainOver K CF = true)
    (saF : PySem.W.findIn K (.ref CF) "__setattr__" = some (some (.builtin "object.__setattr__")))
    (mkF : PySem.W.makesIn K CF = true)
    (kcF : PySem.W.keepIn K (.ref CF) = true)
    (nF_prime : PySem.W.findIn K (.ref CF) "prime" = some none)
    (q1F : PySem.W.findIn K (.ref CF) "__class__" = some (some (.builtin "object.__class__")))
    (q2F : PySem.W.mroIn K CF (.type "object") = some true)
    (q3F : PySem.W.typeIn K (.ref CF) = some (.type "type"))
    (afinit : PySem.W.findIn K (.ref CF) "__init__" = some (some (.ref ffinit)))
    (lfinit : K.lookup ffinit = some ⟨ocfinit, odfinit, .func (PySem.W.fnOf "__init__" "Field.__init__" (defArgs s_finit) (defBody s_finit) (defScope s_finit) (.ref dfinit) kVfinit dcfinit pmfinit anfinit cdfinit ctfinit), slfinit⟩)
    (cfinit : PySem.W.codeIn K cdfinit "Field.__init__" = true)
    (kfinit : PySem.W.keepIn K (.ref ffinit) = true)
    (ifinit : PySem.W.isFn K (.ref ffinit) = true)
    (efinit : K.lookup dfinit = some ⟨oefinit, oe1finit, .seq #[Value.int 0 tkfinit] nfinit, skfinit⟩)
    (aP : PySem.W.nsIn K mainGlobals "Poly" = some (some (.ref CP)))
    (pgP : PySem.W.plainGet K CP Str.empty = true)
    (hdP : PySem.W.hasDictIn K CP = true)
    (poP : PySem.W.plainOver K CP = true)
    (saP : PySem.W.findIn K (.ref CP) "__setattr__" = some (some (.builtin "object.__setattr__")))
    (mkP : PySem.W.makesIn K CP = true)
    (kcP : PySem.W.keepIn K (.ref CP) = true)
    (nP_field : PySem.W.findIn K (.ref CP) "field" = some none)
    (nP_coefficients : PySem.W.findIn K (.ref CP) "coefficients" = some none)
    (nP_degree : PySem.W.findIn K (.ref CP) "degree" = some none)
    (q1P : PySem.W.findIn K (.ref CP) "__class__" = some (some (.builtin "object.__class__")))
    (q2P : PySem.W.mroIn K CP (.type "object") = some true)
    (q3P : PySem.W.typeIn K (.ref CP) = some (.type "type"))
    (apinit : PySem.W.findIn K (.ref CP) "__init__" = some (some (.ref fpinit)))
    (lpinit : K.lookup fpinit = some ⟨ocpinit, odpinit, .func (PySem.W.fnOf "__init__" "Poly.__init__" (defArgs s_pinit) (defBody s_pinit) (defScope s_pinit) .none kVpinit dcpinit pmpinit anpinit cdpinit ctpinit), slpinit⟩)
    (cpinit : PySem.W.codeIn K cdpinit "Poly.__init__" = true)
    (kpinit : PySem.W.keepIn K (.ref fpinit) = true)
    (ipinit : PySem.W.isFn K (.ref fpinit) = true)
    (aFr : PySem.W.nsIn K mainGlobals "Fraction" = some (some (.ref CFr)))
    (pgFr : PySem.W.plainGet K CFr Str.empty = true)
    (hdFr : PySem.W.hasDictIn K CFr = true)
    (poFr : PySem.W.plainOver K CFr = true)
    (saFr : PySem.W.findIn K (.ref CFr) "__setattr__" = some (some (.builtin "object.__setattr__")))
    (mkFr : PySem.W.makesIn K CFr = true)
    (kcFr : PySem.W.keepIn K (.ref CFr) = true)
    (nFr_field : PySem.W.findIn K (.ref CFr) "field" = some none)
    (nFr_top : PySem.W.findIn K (.ref CFr) "top" = some none)
    (nFr_bottom : PySem.W.findIn K (.ref CFr) "bottom" = some none)
    (nFr_degrees : PySem.W.findIn K (.ref CFr) "degrees" = some none)
    (q1Fr : PySem.W.findIn K (.ref CFr) "__class__" = some (some (.builtin "object.__class__")))
    (q2Fr : PySem.W.mroIn K CFr (.type "object") = some true)
    (afrinit : PySem.W.findIn K (.ref CFr) "__init__" = some (some (.ref ffrinit)))
    (lfrinit : K.lookup ffrinit = some ⟨ocfrinit, odfrinit, .func (PySem.W.fnOf "__init__" "Fraction.__init__" (defArgs s_frinit) (defBody s_frinit) (defScope s_frinit) .none kVfrinit dcfrinit pmfrinit anfrinit cdfrinit ctfrinit), slfrinit⟩)
    (cfrinit : PySem.W.codeIn K cdfrinit "Fraction.__init__" = true)
    (kfrinit : PySem.W.keepIn K (.ref ffrinit) = true)
    (ifrinit : PySem.W.isFn K (.ref ffrinit) = true)
    (aSq : PySem.W.nsIn K mainGlobals "Square" = some (some (.ref CSq)))
    (pgSq : PySem.W.plainGet K CSq Str.empty = true)
    (hdSq : PySem.W.hasDictIn K CSq = true)
    (poSq : PySem.W.plainOver K CSq = true)
    (saSq : PySem.W.findIn K (.ref CSq) "__setattr__" = some (some (.builtin "object.__setattr__")))
    (mkSq : PySem.W.makesIn K CSq = true)
    (kcSq : PySem.W.keepIn K (.ref CSq) = true)
    (nSq_m : PySem.W.findIn K (.ref CSq) "m" = some none)
    (nSq_n : PySem.W.findIn K (.ref CSq) "n" = some none)
    (nSq_size : PySem.W.findIn K (.ref CSq) "size" = some none)
    (nSq_closed : PySem.W.findIn K (.ref CSq) "closed" = some none)
    (nSq_fraction : PySem.W.findIn K (.ref CSq) "fraction" = some none)
    (q1Sq : PySem.W.findIn K (.ref CSq) "__class__" = some (some (.builtin "object.__class__")))
    (q2Sq : PySem.W.mroIn K CSq (.type "object") = some true)
    (q3Sq : PySem.W.typeIn K (.ref CSq) = some (.type "type"))
    (asqinit : PySem.W.findIn K (.ref CSq) "__init__" = some (some (.ref fsqinit)))
    (lsqinit : K.lookup fsqinit = some ⟨ocsqinit, odsqinit, .func (PySem.W.fnOf "__init__" "Square.__init__" (defArgs s_sqinit) (defBody s_sqinit) (defScope s_sqinit) .none kVsqinit dcsqinit pmsqinit ansqinit cdsqinit ctsqinit), slsqinit⟩)
    (csqinit : PySem.W.codeIn K cdsqinit "Square.__init__" = true)
    (ksqinit : PySem.W.keepIn K (.ref fsqinit) = true)
    (isqinit : PySem.W.isFn K (.ref fsqinit) = true)
    (afrneg : PySem.W.findIn K (.ref CFr) "__neg__" = some (some (.ref ffrneg)))
    (lfrneg : K.lookup ffrneg = some ⟨ocfrneg, odfrneg, .func (PySem.W.fnOf "__neg__" "Fraction.__neg__" (defArgs s_frneg) (defBody s_frneg) (defScope s_frneg) .none kVfrneg dcfrneg pmfrneg anfrneg cdfrneg ctfrneg), slfrneg⟩)
    (cfrneg : PySem.W.codeIn K cdfrneg "Fraction.__neg__" = true)
    (kfrneg : PySem.W.keepIn K (.ref ffrneg) = true)
    (ifrneg : PySem.W.isFn K (.ref ffrneg) = true)
    (afreq : PySem.W.findIn K (.ref CFr) "__eq__" = some (some (.ref ffreq)))
    (lfreq : K.lookup ffreq = some ⟨ocfreq, odfreq, .func (PySem.W.fnOf "__eq__" "Fraction.__eq__" (defArgs s_freq) (defBody s_freq) (defScope s_freq) .none kVfreq dcfreq pmfreq anfreq cdfreq ctfreq), slfreq⟩)
    (cfreq : PySem.W.codeIn K cdfreq "Fraction.__eq__" = true)
    (kfreq : PySem.W.keepIn K (.ref ffreq) = true)
    (ifreq : PySem.W.isFn K (.ref ffreq) = true)
    (asqeq : PySem.W.findIn K (.ref CSq) "__eq__" = some (some (.ref fsqeq)))
    (lsqeq : K.lookup fsqeq = some ⟨ocsqeq, odsqeq, .func (PySem.W.fnOf "__eq__" "Square.__eq__" (defArgs s_sqeq) (defBody s_sqeq) (defScope s_sqeq) .none kVsqeq dcsqeq pmsqeq ansqeq cdsqeq ctsqeq), slsqeq⟩)
    (csqeq : PySem.W.codeIn K cdsqeq "Square.__eq__" = true)
    (ksqeq : PySem.W.keepIn K (.ref fsqeq) = true)
    (isqeq : PySem.W.isFn K (.ref fsqeq) = true)
    (ahas : PySem.W.findIn K (.ref CSq) "has" = some (some (.ref fhas)))
    (lhas : K.lookup fhas = some ⟨ochas, odhas, .func (PySem.W.fnOf "has" "Square.has" (defArgs s_has) (defBody s_has) (defScope s_has) .none kVhas dchas pmhas anhas cdhas cthas), slhas⟩)
    (chas : PySem.W.codeIn K cdhas "Square.has" = true)
    (khas : PySem.W.keepIn K (.ref fhas) = true)
    (ihas : PySem.W.isFn K (.ref fhas) = true)
    (z_len : PySem.W.nsIn K mainGlobals "len" = some none)
    (z_abs : PySem.W.nsIn K mainGlobals "abs" = some none)
    (z_int : PySem.W.nsIn K mainGlobals "int" = some none)
    (z_range : PySem.W.nsIn K mainGlobals "range" = some none)
    (z_isinstance : PySem.W.nsIn K mainGlobals "isinstance" = some none)
    (z_list : PySem.W.nsIn K mainGlobals "list" = some none)
    (z_tuple : PySem.W.nsIn K mainGlobals "tuple" = some none)
    (z_bool : PySem.W.nsIn K mainGlobals "bool" = some none)
    (y5 : PySem.W.specialIn K (.builtin "object.__class__") "__get__" = some (some (.builtin "getset_descriptor.__get__")))
    (y6 : PySem.W.takesIn K (.builtin "object.__class__") = some true)
    (aRd : PySem.W.nsIn K mainGlobals "Ready" = some (some (.ref CRd)))
    (pgRd : PySem.W.plainGet K CRd Str.empty = true)
    (hdRd : PySem.W.hasDictIn K CRd = true)
    (poRd : PySem.W.plainOver K CRd = true)
    (saRd : PySem.W.findIn K (.ref CRd) "__setattr__" = some (some (.builtin "object.__setattr__")))
    (mkRd : PySem.W.makesIn K CRd = true)
    (kcRd : PySem.W.keepIn K (.ref CRd) = true)
    (nRd_row : PySem.W.findIn K (.ref CRd) "row" = some none)
    (q1Rd : PySem.W.findIn K (.ref CRd) "__class__" = some (some (.builtin "object.__class__")))
    (q2Rd : PySem.W.mroIn K CRd (.type "object") = some true)
    (q3Rd : PySem.W.typeIn K (.ref CRd) = some (.type "type"))
    (wRd_list : PySem.W.subIn K (.type "list") (.ref CRd) = some false)
    (wSq_tuple : PySem.W.subIn K (.type "tuple") (.ref CSq) = some false)
    (wSq_NoneType : PySem.W.subIn K (.type "NoneType") (.ref CSq) = some false)
    (wSq_Fr : PySem.W.subIn K (.ref CFr) (.ref CSq) = some false)
    (wSq_Sq : PySem.W.subIn K (.ref CSq) (.ref CSq) = some true)
    (nf_Sq_tuple : PySem.W.notFirst K CSq (.type "tuple") = true)
    (nf_Sq_NoneType : PySem.W.notFirst K CSq (.type "NoneType") = true)
    (nf_Sq_Fr : PySem.W.notFirst K CSq (.ref CFr) = true)
    (aS : PySem.W.nsIn K mainGlobals "SeriesError" = some (some (.ref CS)))
    (xLS : K.lookup CS = some (excClassObj nmS qS CS NaS bsS [.type "ValueError", .type "Exception", .type "BaseException", .type "object"] true snS subS abS colS ddS m0S m1S m2S m3S m5S "ValueError.__new__"))
    (n1S : K.lookup NaS = some ⟨ncS, ndS, .dict neS npS, nsS⟩)
    (n2S : (neS.toList.all fun e => match e.key with | .str _ _ => true | _ => false) = true)
    (n3S : PySem.W.nsIn K NaS "__init__" = some none)
    (aNF : PySem.W.nsIn K mainGlobals "NoField" = some (some (.ref CNF)))
    (xLNF : K.lookup CNF = some (excClassObj nmNF qNF CNF NaNF bsNF [.ref CS, .type "ValueError", .type "Exception", .type "BaseException", .type "object"] true snNF subNF abNF colNF ddNF m0NF m1NF m2NF m3NF m5NF "ValueError.__new__"))
    (x3NF : PySem.W.typeIn K (.ref CNF) = some (.type "type"))
    (x4NF : PySem.W.keepIn K (.ref CNF) = true)
    (x2NF : PySem.W.subIn K (.ref CNF) (.type "BaseException") = some true)
    (n1NF : K.lookup NaNF = some ⟨ncNF, ndNF, .dict neNF npNF, nsNF⟩)
    (n2NF : (neNF.toList.all fun e => match e.key with | .str _ _ => true | _ => false) = true)
    (n3NF : PySem.W.nsIn K NaNF "__init__" = some none)
    (g_GREATEST_PRIME : PySem.W.nsIn K mainGlobals "GREATEST_PRIME" = some (some (.int 9973 tk_GREATEST_PRIME)))
    (aisint : PySem.W.nsIn K mainGlobals "is_an_integer" = some (some (.ref fisint)))
    (lisint : K.lookup fisint = some ⟨ocisint, odisint, .func (PySem.W.fnOf "is_an_integer" "is_an_integer" (defArgs s_isint) (defBody s_isint) (defScope s_isint) .none kVisint dcisint pmisint anisint cdisint ctisint), slisint⟩)
    (cisint : PySem.W.codeIn K cdisint "is_an_integer" = true)
    (kisint : PySem.W.keepIn K (.ref fisint) = true)
    (aisprime : PySem.W.nsIn K mainGlobals "_is_prime" = some (some (.ref fisprime)))
    (lisprime : K.lookup fisprime = some ⟨ocisprime, odisprime, .func (PySem.W.fnOf "_is_prime" "_is_prime" (defArgs s_isprime) (defBody s_isprime) (defScope s_isprime) .none kVisprime dcisprime pmisprime anisprime cdisprime ctisprime), slisprime⟩)
    (cisprime : PySem.W.codeIn K cdisprime "_is_prime" = true)
    (kisprime : PySem.W.keepIn K (.ref fisprime) = true)
    (g_isqrt : PySem.W.nsIn K mainGlobals "isqrt" = some (some (.builtin "math.isqrt")))
    (aR : PySem.W.nsIn K mainGlobals "Ratio" = some (some (.ref CR)))
    (pgR : PySem.W.plainGet K CR Str.empty = true)
    (hdR : PySem.W.hasDictIn K CR = true)
    (poR : PySem.W.plainOver K CR = true)
    (saR : PySem.W.findIn K (.ref CR) "__setattr__" = some (some (.builtin "object.__setattr__")))
    (mkR : PySem.W.makesIn K CR = true)
    (kcR : PySem.W.keepIn K (.ref CR) = true)
    (nR_top : PySem.W.findIn K (.ref CR) "top" = some none)
    (nR_bottom : PySem.W.findIn K (.ref CR) "bottom" = some none)
    (q1R : PySem.W.findIn K (.ref CR) "__class__" = some (some (.builtin "object.__class__")))
    (q2R : PySem.W.mroIn K CR (.type "object") = some true)
    (q3R : PySem.W.typeIn K (.ref CR) = some (.type "type"))
    (areq : PySem.W.findIn K (.ref CR) "__eq__" = some (some (.ref freq)))
    (lreq : K.lookup freq = some ⟨ocreq, odreq, .func (PySem.W.fnOf "__eq__" "Ratio.__eq__" (defArgs s_req) (defBody s_req) (defScope s_req) .none kVreq dcreq pmreq anreq cdreq ctreq), slreq⟩)
    (creq : PySem.W.codeIn K cdreq "Ratio.__eq__" = true)
    (kreq : PySem.W.keepIn K (.ref freq) = true)
    (ireq : PySem.W.isFn K (.ref freq) = true)
    (nf_R_int : PySem.W.notFirst K CR (.type "int") = true)
    (wR_int : PySem.W.subIn K (.ref CR) (.type "int") = some false)
    (wR_bool : PySem.W.subIn K (.ref CR) (.type "bool") = some false)
    (w_int : PySem.W.subIn K (.type "int") (.ref CR) = some false)
    (w_str : PySem.W.subIn K (.type "str") (.ref CR) = some false)
    (w_NoneType : PySem.W.subIn K (.type "NoneType") (.ref CR) = some false)
    (aPL : PySem.W.nsIn K mainGlobals "NoPoly" = some (some (.ref CPL)))
    (x3PL : PySem.W.typeIn K (.ref CPL) = some (.type "type"))
    (aplaceInit : PySem.W.findIn K (.ref CPL) "__init__" = some (some (.ref fplaceInit)))
    (lplaceInit : K.lookup fplaceInit = some ⟨ocplaceInit, odplaceInit, .func (PySem.W.fnOf "__init__" "NoPoly.__init__" (defArgs s_placeInit) (defBody s_placeInit) (defScope s_placeInit) .none kVplaceInit dcplaceInit pmplaceInit anplaceInit cdplaceInit ctplaceInit), slplaceInit⟩)
    (cplaceInit : PySem.W.codeIn K cdplaceInit "NoPoly.__init__" = true)
    (kplaceInit : PySem.W.keepIn K (.ref fplaceInit) = true)
    (xLPL : K.lookup CPL = some (excClassObj nmPL qPL CPL NaPL bsPL [.ref CS, .type "ValueError", .type "Exception", .type "BaseException", .type "object"] true snPL subPL abPL colPL ddPL m0PL m1PL m2PL m3PL m5PL "ValueError.__new__"))
    (x1PL : PySem.W.findIn K (.ref CPL) "__setattr__" = some (some (.builtin "object.__setattr__")))
    (x2PL : PySem.W.subIn K (.ref CPL) (.type "BaseException") = some true)
    (x4PL : PySem.W.keepIn K (.ref CPL) = true)
    (x5PL : PySem.W.findIn K (.ref CPL) "place" = some none)
    (x6PL : PySem.W.typeIn K (.ref fplaceInit) = some (.type "function"))
    (arow : PySem.W.nsIn K mainGlobals "_row" = some (some (.ref frow)))
    (lrow : K.lookup frow = some ⟨ocrow, odrow, .func (PySem.W.fnOf "_row" "_row" (defArgs s_row) (defBody s_row) (defScope s_row) .none kVrow dcrow pmrow anrow cdrow ctrow), slrow⟩)
    (crow : PySem.W.codeIn K cdrow "_row" = true)
    (krow : PySem.W.keepIn K (.ref frow) = true)
    (cvP : PySem.W.findCls K (.ref CP) (.type "type") "MOST" = some (.val (.int 100 tkMO)))
    (rdP : PySem.W.readsIn K CP (.type "type") = true)
    (gaP : PySem.W.specialIn K (.ref CP) "__getattribute__" = some (some (.builtin "type.__getattribute__")))
    (aisseq : PySem.W.nsIn K mainGlobals "is_a_sequence" = some (some (.ref fisseq)))
    (lisseq : K.lookup fisseq = some ⟨ocisseq, odisseq, .func (PySem.W.fnOf "is_a_sequence" "is_a_sequence" (defArgs s_isseq) (defBody s_isseq) (defScope s_isseq) .none kVisseq dcisseq pmisseq anisseq cdisseq ctisseq), slisseq⟩)
    (cisseq : PySem.W.codeIn K cdisseq "is_a_sequence" = true)
    (kisseq : PySem.W.keepIn K (.ref fisseq) = true)
    (afnum : PySem.W.findIn K (.ref CF) "number" = some (some (.ref ffnum)))
    (lfnum : K.lookup ffnum = some ⟨ocfnum, odfnum, .func (PySem.W.fnOf "number" "Field.number" (defArgs s_fnum) (defBody s_fnum) (defScope s_fnum) .none kVfnum dcfnum pmfnum anfnum cdfnum ctfnum), slfnum⟩)
    (cfnum : PySem.W.codeIn K cdfnum "Field.number" = true)
    (kfnum : PySem.W.keepIn K (.ref ffnum) = true)
    (ifnum : PySem.W.isFn K (.ref ffnum) = true)
    (ataken : PySem.W.nsIn K mainGlobals "taken" = some (some (.ref ftaken)))
    (ltaken : K.lookup ftaken = some ⟨octaken, odtaken, .func (PySem.W.fnOf "taken" "taken" (defArgs s_taken) (defBody s_taken) (defScope s_taken) .none kVtaken dctaken pmtaken antaken cdtaken cttaken), sltaken⟩)
    (ctaken : PySem.W.codeIn K cdtaken "taken" = true)
    (ktaken : PySem.W.keepIn K (.ref ftaken) = true)
    (aNN : PySem.W.nsIn K mainGlobals "NoNumber" = some (some (.ref CNN)))
    (xLNN : K.lookup CNN = some (excClassObj nmNN qNN CNN NaNN bsNN [.ref CS, .type "ValueError", .type "Exception", .type "BaseException", .type "object"] true snNN subNN abNN colNN ddNN m0NN m1NN m2NN m3NN m5NN "ValueError.__new__"))
    (x3NN : PySem.W.typeIn K (.ref CNN) = some (.type "type"))
    (x4NN : PySem.W.keepIn K (.ref CNN) = true)
    (x2NN : PySem.W.subIn K (.ref CNN) (.type "BaseException") = some true)
    (x7NN : PySem.W.subIn K (.ref CNN) (.ref CNN) = some true)
    (y8NN : PySem.W.hasDictIn K CNN = true)
    (n1NN : K.lookup NaNN = some ⟨ncNN, ndNN, .dict neNN npNN, nsNN⟩)
    (n2NN : (neNN.toList.all fun e => match e.key with | .str _ _ => true | _ => false) = true)
    (n3NN : PySem.W.nsIn K NaNN "__init__" = some none)
    (afover : PySem.W.findIn K (.ref CF) "over" = some (some (.ref ffover)))
    (lfover : K.lookup ffover = some ⟨ocfover, odfover, .func (PySem.W.fnOf "over" "Field.over" (defArgs s_fover) (defBody s_fover) (defScope s_fover) .none kVfover dcfover pmfover anfover cdfover ctfover), slfover⟩)
    (cfover : PySem.W.codeIn K cdfover "Field.over" = true)
    (kfover : PySem.W.keepIn K (.ref ffover) = true)
    (ifover : PySem.W.isFn K (.ref ffover) = true)
    (aisnum : PySem.W.nsIn K mainGlobals "is_number" = some (some (.ref fisnum)))
    (lisnum : K.lookup fisnum = some ⟨ocisnum, odisnum, .func (PySem.W.fnOf "is_number" "is_number" (defArgs s_isnum) (defBody s_isnum) (defScope s_isnum) .none kVisnum dcisnum pmisnum anisnum cdisnum ctisnum), slisnum⟩)
    (cisnum : PySem.W.codeIn K cdisnum "is_number" = true)
    (kisnum : PySem.W.keepIn K (.ref fisnum) = true)
    (aratioInit : PySem.W.findIn K (.ref CR) "__init__" = some (some (.ref fratioInit)))
    (lratioInit : K.lookup fratioInit = some ⟨ocratioInit, odratioInit, .func (PySem.W.fnOf "__init__" "Ratio.__init__" (defArgs s_ratioInit) (defBody s_ratioInit) (defScope s_ratioInit) (.ref dratioInit) kVratioInit dcratioInit pmratioInit anratioInit cdratioInit ctratioInit), slratioInit⟩)
    (cratioInit : PySem.W.codeIn K cdratioInit "Ratio.__init__" = true)
    (kratioInit : PySem.W.keepIn K (.ref fratioInit) = true)
    (iratioInit : PySem.W.isFn K (.ref fratioInit) = true)
    (eratioInit : K.lookup dratioInit = some ⟨oeratioInit, oe1ratioInit, .seq #[Value.int 1 tkratioInit] nratioInit, skratioInit⟩)
    (aasratio : PySem.W.nsIn K mainGlobals "as_ratio" = some (some (.ref fasratio)))
    (lasratio : K.lookup fasratio = some ⟨ocasratio, odasratio, .func (PySem.W.fnOf "as_ratio" "as_ratio" (defArgs s_asratio) (defBody s_asratio) (defScope s_asratio) .none kVasratio dcasratio pmasratio anasratio cdasratio ctasratio), slasratio⟩)
    (casratio : PySem.W.codeIn K cdasratio "as_ratio" = true)
    (kasratio : PySem.W.keepIn K (.ref fasratio) = true)
    (aN : PySem.W.nsIn K mainGlobals "NoRatio" = some (some (.ref CN)))
    (x3N : PySem.W.typeIn K (.ref CN) = some (.type "type"))
    (anoRatioInit : PySem.W.findIn K (.ref CN) "__init__" = some (some (.ref fnoRatioInit)))
    (lnoRatioInit : K.lookup fnoRatioInit = some ⟨ocnoRatioInit, odnoRatioInit, .func (PySem.W.fnOf "__init__" "NoRatio.__init__" (defArgs s_noRatioInit) (defBody s_noRatioInit) (defScope s_noRatioInit) .none kVnoRatioInit dcnoRatioInit pmnoRatioInit annoRatioInit cdnoRatioInit ctnoRatioInit), slnoRatioInit⟩)
    (cnoRatioInit : PySem.W.codeIn K cdnoRatioInit "NoRatio.__init__" = true)
    (knoRatioInit : PySem.W.keepIn K (.ref fnoRatioInit) = true)
    (xLN : K.lookup CN = some (excClassObj nmN qN CN NaN bsN [.ref CS, .type "ValueError", .type "Exception", .type "BaseException", .type "object"] true snN subN abN colN ddN m0N m1N m2N m3N m5N "ValueError.__new__"))
    (x1N : PySem.W.findIn K (.ref CN) "__setattr__" = some (some (.builtin "object.__setattr__")))
    (x2N : PySem.W.subIn K (.ref CN) (.type "BaseException") = some true)
    (x4N : PySem.W.keepIn K (.ref CN) = true)
    (x5N : PySem.W.findIn K (.ref CN) "word" = some none)
    (x6N : PySem.W.typeIn K (.ref fnoRatioInit) = some (.type "function"))
    (g_gcd : PySem.W.nsIn K mainGlobals "gcd_math" = some (some (.builtin "math.gcd")))
    (ainverse : PySem.W.nsIn K mainGlobals "_inverse" = some (some (.ref finverse)))
    (linverse : K.lookup finverse = some ⟨ocinverse, odinverse, .func (PySem.W.fnOf "_inverse" "_inverse" (defArgs s_inverse) (defBody s_inverse) (defScope s_inverse) .none kVinverse dcinverse pminverse aninverse cdinverse ctinverse), slinverse⟩)
    (cinverse : PySem.W.codeIn K cdinverse "_inverse" = true)
    (kinverse : PySem.W.keepIn K (.ref finverse) = true)
    (wP_int : PySem.W.subIn K (.type "int") (.ref CP) = some false)
    (wP_R : PySem.W.subIn K (.ref CR) (.ref CP) = some false)
    (wP_P : PySem.W.subIn K (.ref CP) (.ref CP) = some true)
    (aSt : PySem.W.nsIn K mainGlobals "Settled" = some (some (.ref CSt)))
    (pgSt : PySem.W.plainGet K CSt Str.empty = true)
    (hdSt : PySem.W.hasDictIn K CSt = true)
    (poSt : PySem.W.plainOver K CSt = true)
    (saSt : PySem.W.findIn K (.ref CSt) "__setattr__" = some (some (.builtin "object.__setattr__")))
    (mkSt : PySem.W.makesIn K CSt = true)
    (kcSt : PySem.W.keepIn K (.ref CSt) = true)
    (nSt_poly : PySem.W.findIn K (.ref CSt) "poly" = some none)
    (q1St : PySem.W.findIn K (.ref CSt) "__class__" = some (some (.builtin "object.__class__")))
    (q2St : PySem.W.mroIn K CSt (.type "object") = some true)
    (q3St : PySem.W.typeIn K (.ref CSt) = some (.type "type"))
    (wSt_P : PySem.W.subIn K (.ref CP) (.ref CSt) = some false)
    (wSt_St : PySem.W.subIn K (.ref CSt) (.ref CSt) = some true)
    (aFR : PySem.W.nsIn K mainGlobals "NoFraction" = some (some (.ref CFR)))
    (x3FR : PySem.W.typeIn K (.ref CFR) = some (.type "type"))
    (awordInit : PySem.W.findIn K (.ref CFR) "__init__" = some (some (.ref fwordInit)))
    (lwordInit : K.lookup fwordInit = some ⟨ocwordInit, odwordInit, .func (PySem.W.fnOf "__init__" "NoFraction.__init__" (defArgs s_wordInit) (defBody s_wordInit) (defScope s_wordInit) .none kVwordInit dcwordInit pmwordInit anwordInit cdwordInit ctwordInit), slwordInit⟩)
    (cwordInit : PySem.W.codeIn K cdwordInit "NoFraction.__init__" = true)
    (kwordInit : PySem.W.keepIn K (.ref fwordInit) = true)
    (xLFR : K.lookup CFR = some (excClassObj nmFR qFR CFR NaFR bsFR [.ref CS, .type "ValueError", .type "Exception", .type "BaseException", .type "object"] true snFR subFR abFR colFR ddFR m0FR m1FR m2FR m3FR m5FR "ValueError.__new__"))
    (x1FR : PySem.W.findIn K (.ref CFR) "__setattr__" = some (some (.builtin "object.__setattr__")))
    (x2FR : PySem.W.subIn K (.ref CFR) (.type "BaseException") = some true)
    (x4FR : PySem.W.keepIn K (.ref CFR) = true)
    (x5FR : PySem.W.findIn K (.ref CFR) "word" = some none)
    (x6FR : PySem.W.typeIn K (.ref fwordInit) = some (.type "function"))
    (apfdiv : PySem.W.findIn K (.ref CP) "__floordiv__" = some (some (.ref fpfdiv)))
    (lpfdiv : K.lookup fpfdiv = some ⟨ocpfdiv, odpfdiv, .func (PySem.W.fnOf "__floordiv__" "Poly.__floordiv__" (defArgs s_pfdiv) (defBody s_pfdiv) (defScope s_pfdiv) .none kVpfdiv dcpfdiv pmpfdiv anpfdiv cdpfdiv ctpfdiv), slpfdiv⟩)
    (cpfdiv : PySem.W.codeIn K cdpfdiv "Poly.__floordiv__" = true)
    (kpfdiv : PySem.W.keepIn K (.ref fpfdiv) = true)
    (ipfdiv : PySem.W.isFn K (.ref fpfdiv) = true)
    (apcoef : PySem.W.findIn K (.ref CP) "coefficient" = some (some (.ref fpcoef)))
    (lpcoef : K.lookup fpcoef = some ⟨ocpcoef, odpcoef, .func (PySem.W.fnOf "coefficient" "Poly.coefficient" (defArgs s_pcoef) (defBody s_pcoef) (defScope s_pcoef) .none kVpcoef dcpcoef pmpcoef anpcoef cdpcoef ctpcoef), slpcoef⟩)
    (cpcoef : PySem.W.codeIn K cdpcoef "Poly.coefficient" = true)
    (kpcoef : PySem.W.keepIn K (.ref fpcoef) = true)
    (ipcoef : PySem.W.isFn K (.ref fpcoef) = true)
    (apmul : PySem.W.findIn K (.ref CP) "__mul__" = some (some (.ref fpmul)))
    (lpmul : K.lookup fpmul = some ⟨ocpmul, odpmul, .func (PySem.W.fnOf "__mul__" "Poly.__mul__" (defArgs s_pmul) (defBody s_pmul) (defScope s_pmul) .none kVpmul dcpmul pmpmul anpmul cdpmul ctpmul), slpmul⟩)
    (cpmul : PySem.W.codeIn K cdpmul "Poly.__mul__" = true)
    (kpmul : PySem.W.keepIn K (.ref fpmul) = true)
    (ipmul : PySem.W.isFn K (.ref fpmul) = true)
    (alow : PySem.W.nsIn K mainGlobals "_in_lowest_terms" = some (some (.ref flow)))
    (llow : K.lookup flow = some ⟨oclow, odlow, .func (PySem.W.fnOf "_in_lowest_terms" "_in_lowest_terms" (defArgs s_low) (defBody s_low) (defScope s_low) .none kVlow dclow pmlow anlow cdlow ctlow), sllow⟩)
    (clow : PySem.W.codeIn K cdlow "_in_lowest_terms" = true)
    (klow : PySem.W.keepIn K (.ref flow) = true)
    (afeq : PySem.W.findIn K (.ref CF) "__eq__" = some (some (.ref ffeq)))
    (lfeq : K.lookup ffeq = some ⟨ocfeq, odfeq, .func (PySem.W.fnOf "__eq__" "Field.__eq__" (defArgs s_feq) (defBody s_feq) (defScope s_feq) .none kVfeq dcfeq pmfeq anfeq cdfeq ctfeq), slfeq⟩)
    (cfeq : PySem.W.codeIn K cdfeq "Field.__eq__" = true)
    (kfeq : PySem.W.keepIn K (.ref ffeq) = true)
    (ifeq : PySem.W.isFn K (.ref ffeq) = true)
    (asame : PySem.W.nsIn K mainGlobals "check_same_field" = some (some (.ref fsame)))
    (lsame : K.lookup fsame = some ⟨ocsame, odsame, .func (PySem.W.fnOf "check_same_field" "check_same_field" (defArgs s_same) (defBody s_same) (defScope s_same) .none kVsame dcsame pmsame ansame cdsame ctsame), slsame⟩)
    (csame : PySem.W.codeIn K cdsame "check_same_field" = true)
    (ksame : PySem.W.keepIn K (.ref fsame) = true)
    (wF_int : PySem.W.subIn K (.type "int") (.ref CF) = some false)
    (aOF : PySem.W.nsIn K mainGlobals "OtherField" = some (some (.ref COF)))
    (xLOF : K.lookup COF = some (excClassObj nmOF qOF COF NaOF bsOF [.ref CS, .type "ValueError", .type "Exception", .type "BaseException", .type "object"] true snOF subOF abOF colOF ddOF m0OF m1OF m2OF m3OF m5OF "ValueError.__new__"))
    (x3OF : PySem.W.typeIn K (.ref COF) = some (.type "type"))
    (x4OF : PySem.W.keepIn K (.ref COF) = true)
    (x2OF : PySem.W.subIn K (.ref COF) (.type "BaseException") = some true)
    (n1OF : K.lookup NaOF = some ⟨ncOF, ndOF, .dict neOF npOF, nsOF⟩)
    (n2OF : (neOF.toList.all fun e => match e.key with | .str _ _ => true | _ => false) = true)
    (n3OF : PySem.W.nsIn K NaOF "__init__" = some none)
    (neF : PySem.W.findIn K (.ref CF) "__ne__" = some (some (.builtin "object.__ne__")))
    (apgcd : PySem.W.nsIn K mainGlobals "gcd_polys" = some (some (.ref fpgcd)))
    (lpgcd : K.lookup fpgcd = some ⟨ocpgcd, odpgcd, .func (PySem.W.fnOf "gcd" "gcd" (defArgs s_pgcd) (defBody s_pgcd) (defScope s_pgcd) .none kVpgcd dcpgcd pmpgcd anpgcd cdpgcd ctpgcd), slpgcd⟩)
    (cpgcd : PySem.W.codeIn K cdpgcd "gcd" = true)
    (kpgcd : PySem.W.keepIn K (.ref fpgcd) = true)
    (awhole : PySem.W.nsIn K mainGlobals "whole" = some (some (.ref fwhole)))
    (lwhole : K.lookup fwhole = some ⟨ocwhole, odwhole, .func (PySem.W.fnOf "whole" "whole" (defArgs s_whole) (defBody s_whole) (defScope s_whole) .none kVwhole dcwhole pmwhole anwhole cdwhole ctwhole), slwhole⟩)
    (cwhole : PySem.W.codeIn K cdwhole "whole" = true)
    (kwhole : PySem.W.keepIn K (.ref fwhole) = true)
    (g_lcm : PySem.W.nsIn K mainGlobals "lcm" = some (some (.builtin "math.lcm")))
    (acommon : PySem.W.nsIn K mainGlobals "common_row" = some (some (.ref fcommon)))
    (lcommon : K.lookup fcommon = some ⟨occommon, odcommon, .func (PySem.W.fnOf "common_row" "common_row" (defArgs s_common) (defBody s_common) (defScope s_common) .none kVcommon dccommon pmcommon ancommon cdcommon ctcommon), slcommon⟩)
    (ccommon : PySem.W.codeIn K cdcommon "common_row" = true)
    (kcommon : PySem.W.keepIn K (.ref fcommon) = true)
    (ashort : PySem.W.nsIn K mainGlobals "shortened" = some (some (.ref fshort)))
    (lshort : K.lookup fshort = some ⟨ocshort, odshort, .func (PySem.W.fnOf "shortened" "shortened" (defArgs s_short) (defBody s_short) (defScope s_short) .none kVshort dcshort pmshort anshort cdshort ctshort), slshort⟩)
    (cshort : PySem.W.codeIn K cdshort "shortened" = true)
    (kshort : PySem.W.keepIn K (.ref fshort) = true)
    (acontent : PySem.W.nsIn K mainGlobals "content" = some (some (.ref fcontent)))
    (lcontent : K.lookup fcontent = some ⟨occontent, odcontent, .func (PySem.W.fnOf "content" "content" (defArgs s_content) (defBody s_content) (defScope s_content) .none kVcontent dccontent pmcontent ancontent cdcontent ctcontent), slcontent⟩)
    (ccontent : PySem.W.codeIn K cdcontent "content" = true)
    (kcontent : PySem.W.keepIn K (.ref fcontent) = true)
    (adiv : PySem.W.nsIn K mainGlobals "division" = some (some (.ref fdiv)))
    (ldiv : K.lookup fdiv = some ⟨ocdiv, oddiv, .func (PySem.W.fnOf "division" "division" (defArgs s_div) (defBody s_div) (defScope s_div) .none kVdiv dcdiv pmdiv andiv cddiv ctdiv), sldiv⟩)
    (cdiv : PySem.W.codeIn K cddiv "division" = true)
    (kdiv : PySem.W.keepIn K (.ref fdiv) = true)
    (z_zip : PySem.W.nsIn K mainGlobals "zip" = some none)
    (z_reversed : PySem.W.nsIn K mainGlobals "reversed" = some none)
    (atrimmed : PySem.W.nsIn K mainGlobals "trimmed" = some (some (.ref ftrimmed)))
    (ltrimmed : K.lookup ftrimmed = some ⟨octrimmed, odtrimmed, .func (PySem.W.fnOf "trimmed" "trimmed" (defArgs s_trimmed) (defBody s_trimmed) (defScope s_trimmed) .none kVtrimmed dctrimmed pmtrimmed antrimmed cdtrimmed cttrimmed), sltrimmed⟩)
    (ctrimmed : PySem.W.codeIn K cdtrimmed "trimmed" = true)
    (ktrimmed : PySem.W.keepIn K (.ref ftrimmed) = true)
    (aapart : PySem.W.nsIn K mainGlobals "_are_seen_apart" = some (some (.ref fapart)))
    (lapart : K.lookup fapart = some ⟨ocapart, odapart, .func (PySem.W.fnOf "_are_seen_apart" "_are_seen_apart" (defArgs s_apart) (defBody s_apart) (defScope s_apart) .none kVapart dcapart pmapart anapart cdapart ctapart), slapart⟩)
    (capart : PySem.W.codeIn K cdapart "_are_seen_apart" = true)
    (kapart : PySem.W.keepIn K (.ref fapart) = true)
    (g_SIGHTING_PRIME : PySem.W.nsIn K mainGlobals "SIGHTING_PRIME" = some (some (.int 2305843009213693951 tk_SIGHTING_PRIME)))
    (ard : PySem.W.findIn K (.ref CRd) "__init__" = some (some (.ref frd)))
    (lrd : K.lookup frd = some ⟨ocrd, odrd, .func (PySem.W.fnOf "__init__" "Ready.__init__" (defArgs s_rd) (defBody s_rd) (defScope s_rd) .none kVrd dcrd pmrd anrd cdrd ctrd), slrd⟩)
    (crd : PySem.W.codeIn K cdrd "Ready.__init__" = true)
    (krd : PySem.W.keepIn K (.ref frd) = true)
    (ird : PySem.W.isFn K (.ref frd) = true)
    (apolyof : PySem.W.nsIn K mainGlobals "poly_of" = some (some (.ref fpolyof)))
    (lpolyof : K.lookup fpolyof = some ⟨ocpolyof, odpolyof, .func (PySem.W.fnOf "poly_of" "poly_of" (defArgs s_polyof) (defBody s_polyof) (defScope s_polyof) .none kVpolyof dcpolyof pmpolyof anpolyof cdpolyof ctpolyof), slpolyof⟩)
    (cpolyof : PySem.W.codeIn K cdpolyof "poly_of" = true)
    (kpolyof : PySem.W.keepIn K (.ref fpolyof) = true)
    (anums : PySem.W.nsIn K mainGlobals "numbers_of" = some (some (.ref fnums)))
    (lnums : K.lookup fnums = some ⟨ocnums, odnums, .func (PySem.W.fnOf "numbers_of" "numbers_of" (defArgs s_nums) (defBody s_nums) (defScope s_nums) .none kVnums dcnums pmnums annums cdnums ctnums), slnums⟩)
    (cnums : PySem.W.codeIn K cdnums "numbers_of" = true)
    (knums : PySem.W.keepIn K (.ref fnums) = true)
    (arover : PySem.W.findIn K (.ref CR) "over" = some (some (.ref frover)))
    (lrover : K.lookup frover = some ⟨ocrover, odrover, .func (PySem.W.fnOf "over" "Ratio.over" (defArgs s_rover) (defBody s_rover) (defScope s_rover) .none kVrover dcrover pmrover anrover cdrover ctrover), slrover⟩)
    (crover : PySem.W.codeIn K cdrover "Ratio.over" = true)
    (krover : PySem.W.keepIn K (.ref frover) = true)
    (irover : PySem.W.isFn K (.ref frover) = true)
    (sf_P : PySem.W.selfFirst K CP = true)
    (adivd : PySem.W.findIn K (.ref CP) "divided" = some (some (.ref fdivd)))
    (ldivd : K.lookup fdivd = some ⟨ocdivd, oddivd, .func (PySem.W.fnOf "divided" "Poly.divided" (defArgs s_divd) (defBody s_divd) (defScope s_divd) .none kVdivd dcdivd pmdivd andivd cddivd ctdivd), sldivd⟩)
    (cdivd : PySem.W.codeIn K cddivd "Poly.divided" = true)
    (kdivd : PySem.W.keepIn K (.ref fdivd) = true)
    (idivd : PySem.W.isFn K (.ref fdivd) = true)
    (aNC : PySem.W.nsIn K mainGlobals "NoCount" = some (some (.ref CNC)))
    (xLNC : K.lookup CNC = some (excClassObj nmNC qNC CNC NaNC bsNC [.ref CS, .type "ValueError", .type "Exception", .type "BaseException", .type "object"] true snNC subNC abNC colNC ddNC m0NC m1NC m2NC m3NC m5NC "ValueError.__new__"))
    (x3NC : PySem.W.typeIn K (.ref CNC) = some (.type "type"))
    (x4NC : PySem.W.keepIn K (.ref CNC) = true)
    (x2NC : PySem.W.subIn K (.ref CNC) (.type "BaseException") = some true)
    (n1NC : K.lookup NaNC = some ⟨ncNC, ndNC, .dict neNC npNC, nsNC⟩)
    (n2NC : (neNC.toList.all fun e => match e.key with | .str _ _ => true | _ => false) = true)
    (n3NC : PySem.W.nsIn K NaNC "__init__" = some none)
    (i1mult : PySem.W.findIn K (.type "int") "__mul__" = some fomult)
    (i2mult : PySem.W.findIn K (.type "int") "__rmul__" = some romult)
    (ar_P_Mult : PySem.W.findIn K (.ref CP) "__rmul__" = some (some (.ref fr_P_Mult)))
    (wR_R : PySem.W.subIn K (.ref CR) (.ref CR) = some true)
    (sf_R : PySem.W.selfFirst K CR = true)
    (af_R_Mult : PySem.W.findIn K (.ref CR) "__mul__" = some (some (.ref ff_R_Mult)))
    (if_R_Mult : PySem.W.isFn K (.ref ff_R_Mult) = true)
    (ar_R_Mult : PySem.W.findIn K (.ref CR) "__rmul__" = some (some (.ref fr_R_Mult)))
    (aisop : PySem.W.nsIn K mainGlobals "is_operand_polys" = some (some (.ref fisop)))
    (lisop : K.lookup fisop = some ⟨ocisop, odisop, .func (PySem.W.fnOf "_is_operand" "_is_operand" (defArgs s_isop) (defBody s_isop) (defScope s_isop) .none kVisop dcisop pmisop anisop cdisop ctisop), slisop⟩)
    (cisop : PySem.W.codeIn K cdisop "_is_operand" = true)
    (kisop : PySem.W.keepIn K (.ref fisop) = true)
    (aasp : PySem.W.nsIn K mainGlobals "_as_poly" = some (some (.ref fasp)))
    (lasp : K.lookup fasp = some ⟨ocasp, odasp, .func (PySem.W.fnOf "_as_poly" "_as_poly" (defArgs s_asp) (defBody s_asp) (defScope s_asp) .none kVasp dcasp pmasp anasp cdasp ctasp), slasp⟩)
    (casp : PySem.W.codeIn K cdasp "_as_poly" = true)
    (kasp : PySem.W.keepIn K (.ref fasp) = true)
    (amult : PySem.W.nsIn K mainGlobals "multiplied" = some (some (.ref fmult)))
    (lmult : K.lookup fmult = some ⟨ocmult, odmult, .func (PySem.W.fnOf "multiplied" "multiplied" (defArgs s_mult) (defBody s_mult) (defScope s_mult) .none kVmult dcmult pmmult anmult cdmult ctmult), slmult⟩)
    (cmult : PySem.W.codeIn K cdmult "multiplied" = true)
    (kmult : PySem.W.keepIn K (.ref fmult) = true)
    (z_enumerate : PySem.W.nsIn K mainGlobals "enumerate" = some none)
    (apneg : PySem.W.findIn K (.ref CP) "__neg__" = some (some (.ref fpneg)))
    (lpneg : K.lookup fpneg = some ⟨ocpneg, odpneg, .func (PySem.W.fnOf "__neg__" "Poly.__neg__" (defArgs s_pneg) (defBody s_pneg) (defScope s_pneg) .none kVpneg dcpneg pmpneg anpneg cdpneg ctpneg), slpneg⟩)
    (cpneg : PySem.W.codeIn K cdpneg "Poly.__neg__" = true)
    (kpneg : PySem.W.keepIn K (.ref fpneg) = true)
    (ipneg : PySem.W.isFn K (.ref fpneg) = true)
    (astinit : PySem.W.findIn K (.ref CSt) "__init__" = some (some (.ref fstinit)))
    (lstinit : K.lookup fstinit = some ⟨ocstinit, odstinit, .func (PySem.W.fnOf "__init__" "Settled.__init__" (defArgs s_stinit) (defBody s_stinit) (defScope s_stinit) .none kVstinit dcstinit pmstinit anstinit cdstinit ctstinit), slstinit⟩)
    (cstinit : PySem.W.codeIn K cdstinit "Settled.__init__" = true)
    (kstinit : PySem.W.keepIn K (.ref fstinit) = true)
    (istinit : PySem.W.isFn K (.ref fstinit) = true)
    (arneg : PySem.W.findIn K (.ref CR) "__neg__" = some (some (.ref frneg)))
    (lrneg : K.lookup frneg = some ⟨ocrneg, odrneg, .func (PySem.W.fnOf "__neg__" "Ratio.__neg__" (defArgs s_rneg) (defBody s_rneg) (defScope s_rneg) .none kVrneg dcrneg pmrneg anrneg cdrneg ctrneg), slrneg⟩)
    (crneg : PySem.W.codeIn K cdrneg "Ratio.__neg__" = true)
    (krneg : PySem.W.keepIn K (.ref frneg) = true)
    (irneg : PySem.W.isFn K (.ref frneg) = true)
    (apeq : PySem.W.findIn K (.ref CP) "__eq__" = some (some (.ref fpeq)))
    (lpeq : K.lookup fpeq = some ⟨ocpeq, odpeq, .func (PySem.W.fnOf "__eq__" "Poly.__eq__" (defArgs s_peq) (defBody s_peq) (defScope s_peq) .none kVpeq dcpeq pmpeq anpeq cdpeq ctpeq), slpeq⟩)
    (cpeq : PySem.W.codeIn K cdpeq "Poly.__eq__" = true)
    (kpeq : PySem.W.keepIn K (.ref fpeq) = true)
    (ipeq : PySem.W.isFn K (.ref fpeq) = true)
    (astate : PySem.W.nsIn K mainGlobals "_law_state" = some (some (.ref fstate)))
    (lstate : K.lookup fstate = some ⟨ocstate, odstate, .func (PySem.W.fnOf "_law_state" "_law_state" (defArgs s_state) (defBody s_state) (defScope s_state) .none kVstate dcstate pmstate anstate cdstate ctstate), slstate⟩)
    (cstate : PySem.W.codeIn K cdstate "_law_state" = true)
    (kstate : PySem.W.keepIn K (.ref fstate) = true)
    (alpr : PySem.W.nsIn K mainGlobals "_law_prime" = some (some (.ref flpr)))
    (llpr : K.lookup flpr = some ⟨oclpr, odlpr, .func (PySem.W.fnOf "_law_prime" "_law_prime" (defArgs s_lpr) (defBody s_lpr) (defScope s_lpr) .none kVlpr dclpr pmlpr anlpr cdlpr ctlpr), sllpr⟩)
    (clpr : PySem.W.codeIn K cdlpr "_law_prime" = true)
    (klpr : PySem.W.keepIn K (.ref flpr) = true)
    (adraw : PySem.W.nsIn K mainGlobals "_law_draw" = some (some (.ref fdraw)))
    (ldraw : K.lookup fdraw = some ⟨ocdraw, oddraw, .func (PySem.W.fnOf "_law_draw" "_law_draw" (defArgs s_draw) (defBody s_draw) (defScope s_draw) .none kVdraw dcdraw pmdraw andraw cddraw ctdraw), sldraw⟩)
    (cdraw : PySem.W.codeIn K cddraw "_law_draw" = true)
    (kdraw : PySem.W.keepIn K (.ref fdraw) = true)
    (alip : PySem.W.nsIn K mainGlobals "_law_is_prime" = some (some (.ref flip)))
    (llip : K.lookup flip = some ⟨oclip, odlip, .func (PySem.W.fnOf "_law_is_prime" "_law_is_prime" (defArgs s_lip) (defBody s_lip) (defScope s_lip) .none kVlip dclip pmlip anlip cdlip ctlip), sllip⟩)
    (clip : PySem.W.codeIn K cdlip "_law_is_prime" = true)
    (klip : PySem.W.keepIn K (.ref flip) = true)
    (alfrac : PySem.W.nsIn K mainGlobals "_law_fraction" = some (some (.ref flfrac)))
    (llfrac : K.lookup flfrac = some ⟨oclfrac, odlfrac, .func (PySem.W.fnOf "_law_fraction" "_law_fraction" (defArgs s_lfrac) (defBody s_lfrac) (defScope s_lfrac) .none kVlfrac dclfrac pmlfrac anlfrac cdlfrac ctlfrac), sllfrac⟩)
    (clfrac : PySem.W.codeIn K cdlfrac "_law_fraction" = true)
    (klfrac : PySem.W.keepIn K (.ref flfrac) = true)
    (aunit : PySem.W.nsIn K mainGlobals "_law_unit" = some (some (.ref funit)))
    (lunit : K.lookup funit = some ⟨ocunit, odunit, .func (PySem.W.fnOf "_law_unit" "_law_unit" (defArgs s_unit) (defBody s_unit) (defScope s_unit) .none kVunit dcunit pmunit anunit cdunit ctunit), slunit⟩)
    (cunit : PySem.W.codeIn K cdunit "_law_unit" = true)
    (kunit : PySem.W.keepIn K (.ref funit) = true)
    (anumber : PySem.W.nsIn K mainGlobals "_law_number" = some (some (.ref fnumber)))
    (lnumber : K.lookup fnumber = some ⟨ocnumber, odnumber, .func (PySem.W.fnOf "_law_number" "_law_number" (defArgs s_number) (defBody s_number) (defScope s_number) .none kVnumber dcnumber pmnumber annumber cdnumber ctnumber), slnumber⟩)
    (cnumber : PySem.W.codeIn K cdnumber "_law_number" = true)
    (knumber : PySem.W.keepIn K (.ref fnumber) = true)
    (apair : PySem.W.nsIn K mainGlobals "_law_pair" = some (some (.ref fpair)))
    (lpair : K.lookup fpair = some ⟨ocpair, odpair, .func (PySem.W.fnOf "_law_pair" "_law_pair" (defArgs s_pair) (defBody s_pair) (defScope s_pair) .none kVpair dcpair pmpair anpair cdpair ctpair), slpair⟩)
    (cpair : PySem.W.codeIn K cdpair "_law_pair" = true)
    (kpair : PySem.W.keepIn K (.ref fpair) = true)
    (agcd : PySem.W.nsIn K mainGlobals "_law_gcd" = some (some (.ref fgcd)))
    (lgcd : K.lookup fgcd = some ⟨ocgcd, odgcd, .func (PySem.W.fnOf "_law_gcd" "_law_gcd" (defArgs s_gcd) (defBody s_gcd) (defScope s_gcd) .none kVgcd dcgcd pmgcd angcd cdgcd ctgcd), slgcd⟩)
    (cgcd : PySem.W.codeIn K cdgcd "_law_gcd" = true)
    (kgcd : PySem.W.keepIn K (.ref fgcd) = true)
    (asmall : PySem.W.nsIn K mainGlobals "_law_small" = some (some (.ref fsmall)))
    (lsmall : K.lookup fsmall = some ⟨ocsmall, odsmall, .func (PySem.W.fnOf "_law_small" "_law_small" (defArgs s_small) (defBody s_small) (defScope s_small) .none kVsmall dcsmall pmsmall ansmall cdsmall ctsmall), slsmall⟩)
    (csmall : PySem.W.codeIn K cdsmall "_law_small" = true)
    (ksmall : PySem.W.keepIn K (.ref fsmall) = true)
    (alpoly : PySem.W.nsIn K mainGlobals "_law_poly" = some (some (.ref flpoly)))
    (llpoly : K.lookup flpoly = some ⟨oclpoly, odlpoly, .func (PySem.W.fnOf "_law_poly" "_law_poly" (defArgs s_lpoly) (defBody s_lpoly) (defScope s_lpoly) .none kVlpoly dclpoly pmlpoly anlpoly cdlpoly ctlpoly), sllpoly⟩)
    (clpoly : PySem.W.codeIn K cdlpoly "_law_poly" = true)
    (klpoly : PySem.W.keepIn K (.ref flpoly) = true)
    (apassed : PySem.W.nsIn K mainGlobals "_law_passed" = some (some (.ref fpassed)))
    (lpassed : K.lookup fpassed = some ⟨ocpassed, odpassed, .func (PySem.W.fnOf "_law_passed" "_law_passed" (defArgs s_passed) (defBody s_passed) (defScope s_passed) .none kVpassed dcpassed pmpassed anpassed cdpassed ctpassed), slpassed⟩)
    (cpassed : PySem.W.codeIn K cdpassed "_law_passed" = true)
    (kpassed : PySem.W.keepIn K (.ref fpassed) = true)
    (agiven : PySem.W.nsIn K mainGlobals "_law_given" = some (some (.ref fgiven)))
    (lgiven : K.lookup fgiven = some ⟨ocgiven, odgiven, .func (PySem.W.fnOf "_law_given" "_law_given" (defArgs s_given) (defBody s_given) (defScope s_given) .none kVgiven dcgiven pmgiven angiven cdgiven ctgiven), slgiven⟩)
    (cgiven : PySem.W.codeIn K cdgiven "_law_given" = true)
    (kgiven : PySem.W.keepIn K (.ref fgiven) = true) :
    ∃ fd : FuncData, (∀ (s : Shared) (v : Value), BindsTo s fd ⟨[v], []⟩ [("_law_script", v)]) ∧ ∀ base : Heap, K.In base → base.Ns mainGlobals mg → FnOk P w K mg base CX0 20 fa fd ["_law_script"] (spLaw K) := by
  have e := hfa.symm.trans (PySem.W.mg_of X G ala)
  cases e
  have F_la := fun_mk (st := s_law) lla cla kla
  have m_F : mg "Field" = some (.ref CF) := PySem.W.mg_of X G aF
  have F_finit : FunD K "__init__" "Field.__init__" (defArgs s_finit) (defBody s_finit) (defScope s_finit) [.int 0] [] ffinit _ := ⟨⟨_, _, _, _, _, _, _, _, _, _, rfl, lfinit, cfinit, .inr ⟨by simp, dfinit, _, [Value.int 0 tkfinit], nfinit, rfl, efinit, rfl, .cons ⟨_, rfl⟩ .nil⟩, .inl rfl⟩, kfinit⟩
  obtain ⟨ds2, v2, b_F⟩ := F_finit.binds1 (ps := ["self", "prime"]) 2 1 (by simp) rfl fun _ _ _ _ _ _ _ us its hl hi => match us, its, hl, hi with | [_, _], [_], _, _ => ⟨_, rfl, rfl⟩
  cases v2
  have m_P : mg "Poly" = some (.ref CP) := PySem.W.mg_of X G aP
  have F_pinit := fun_mk (st := s_pinit) lpinit cpinit kpinit
  have b_pinit := F_pinit.binds (ps := ["self", "field", "coefficients"]) fun _ _ _ _ _ _ us hl => match us, hl with | [_, _, _], _ => rfl
  have m_Fr : mg "Fraction" = some (.ref CFr) := PySem.W.mg_of X G aFr
  have F_frinit := fun_mk (st := s_frinit) lfrinit cfrinit kfrinit
  have b_frinit := F_frinit.binds (ps := ["self", "top", "bottom"]) fun _ _ _ _ _ _ us hl => match us, hl with | [_, _, _], _ => rfl
  have m_Sq : mg "Square" = some (.ref CSq) := PySem.W.mg_of X G aSq
  have F_sqinit := fun_mk (st := s_sqinit) lsqinit csqinit ksqinit
  have b_sqinit := F_sqinit.binds (ps := ["self", "m", "n", "size", "closed", "fraction"]) fun _ _ _ _ _ _ us hl => match us, hl with | [_, _, _, _, _, _], _ => rfl
  have F_frneg := fun_mk (st := s_frneg) lfrneg cfrneg kfrneg
  have b_frneg := F_frneg.binds (ps := ["self"]) fun _ _ _ _ _ _ us hl => match us, hl with | [_], _ => rfl
  have F_freq := fun_mk (st := s_freq) lfreq cfreq kfreq
  have b_freq := F_freq.binds (ps := ["self", "other"]) fun _ _ _ _ _ _ us hl => match us, hl with | [_, _], _ => rfl
  have F_sqeq := fun_mk (st := s_sqeq) lsqeq csqeq ksqeq
  have b_sqeq := F_sqeq.binds (ps := ["self", "other"]) fun _ _ _ _ _ _ us hl => match us, hl with | [_, _], _ => rfl
  have F_has := fun_mk (st := s_has) lhas chas khas
  have b_has := F_has.binds (ps := ["self", "m", "n"]) fun _ _ _ _ _ _ us hl => match us, hl with | [_, _, _], _ => rfl
  have z_len := PySem.W.mg_none_of X G z_len
  have z_abs := PySem.W.mg_none_of X G z_abs
  have z_int := PySem.W.mg_none_of X G z_int
  have z_range := PySem.W.mg_none_of X G z_range
  have D : DTx mg := ⟨z_len, z_abs, z_int, z_range⟩
  have z_isinstance := PySem.W.mg_none_of X G z_isinstance
  have z_list := PySem.W.mg_none_of X G z_list
  have z_tuple := PySem.W.mg_none_of X G z_tuple
  have BQ : QTx mg := ⟨z_isinstance, z_list, z_tuple, z_len⟩
  have z_bool := PySem.W.mg_none_of X G z_bool
  have I : ITx mg := ⟨z_isinstance, z_int, z_bool⟩
  have TSq : SqTx K CSq := ⟨⟨pgSq, hdSq, poSq, saSq⟩, nSq_m, nSq_n, nSq_size, nSq_closed, nSq_fraction⟩
  have YxSq : FrY K CSq := ⟨q1Sq, y5, y6, q2Sq⟩
  have TFr : FrTx K CFr := ⟨⟨pgFr, hdFr, poFr, saFr⟩, nFr_field, nFr_top, nFr_bottom, nFr_degrees⟩
  have YxFr : FrY K CFr := ⟨q1Fr, y5, y6, q2Fr⟩
  have m_Rd : mg "Ready" = some (.ref CRd) := PySem.W.mg_of X G aRd
  have MF : Mk K CF ffinit := ⟨mkF, afinit, ifinit, kcF⟩
  have MP : Mk K CP fpinit := ⟨mkP, apinit, ipinit, kcP⟩
  have MFr : Mk K CFr ffrinit := ⟨mkFr, afrinit, ifrinit, kcFr⟩
  have MSq : Mk K CSq fsqinit := ⟨mkSq, asqinit, isqinit, kcSq⟩
  have TF : FTx K CF := ⟨⟨pgF, hdF, poF, saF⟩, nF_prime⟩
  have m_NF : mg "NoField" = some (.ref CNF) := PySem.W.mg_of X G aNF
  have RNNF : RNx K mg "NoField" CNF := ⟨exc_in xLNF (ns_ok n1NF n2NF) n3NF (tail1 xLS (ns_ok n1S n2S) n3S), m_NF, x4NF, x2NF, x3NF⟩
  have GK_GREATEST_PRIME : mg "GREATEST_PRIME" = some (.int 9973 tk_GREATEST_PRIME) := PySem.W.mg_of X G g_GREATEST_PRIME
  have F_isint := fun_mk (st := s_isint) lisint cisint kisint
  have b_isint := F_isint.binds (ps := ["value"]) fun _ _ _ _ _ _ us hl => match us, hl with | [_], _ => rfl
  have m_isint : mg "is_an_integer" = some (.ref fisint) := PySem.W.mg_of X G aisint
  have F_isprime := fun_mk (st := s_isprime) lisprime cisprime kisprime
  have b_isprime := F_isprime.binds (ps := ["count"]) fun _ _ _ _ _ _ us hl => match us, hl with | [_], _ => rfl
  have m_isprime : mg "_is_prime" = some (.ref fisprime) := PySem.W.mg_of X G aisprime
  have RT : RTx mg := ⟨PySem.W.mg_of X G g_isqrt, z_range⟩
  have m_R : mg "Ratio" = some (.ref CR) := PySem.W.mg_of X G aR
  have F_req := fun_mk (st := s_req) lreq creq kreq
  have b_req := F_req.binds (ps := ["self", "other"]) fun _ _ _ _ _ _ us hl => match us, hl with | [_, _], _ => rfl
  have TP : PTx K CP := ⟨⟨pgP, hdP, poP, saP⟩, nP_field, nP_coefficients, nP_degree⟩
  have T : CTx K CR := ⟨⟨pgR, hdR, poR, saR⟩, nR_top, nR_bottom⟩
  have Y : ITy K CR := ⟨q1R, y5, y6, q2R, kit_ty2 (by decide +kernel) wR_int, kit_ty2 (by decide +kernel) wR_bool⟩
  have Z : KZx K CR := ⟨kit_tyo hdR q3R w_int, kit_tyo hdR q3R w_str, kit_tyo hdR q3R w_NoneType⟩
  have m_PL : mg "NoPoly" = some (.ref CPL) := PySem.W.mg_of X G aPL
  have F_placeInit := fun_mk (st := s_placeInit) lplaceInit cplaceInit kplaceInit
  have b_placeInit := F_placeInit.binds (ps := ["self", "place"]) fun _ _ _ _ _ _ us hl => match us, hl with | [_, _], _ => rfl
  have NPL : NTxF K "place" CPL fplaceInit := ⟨⟨⟨nmPL, qPL, NaPL, bsPL, _, snPL, subPL, abPL, colPL, ddPL, m0PL, m1PL, m2PL, m3PL, m5PL, xLPL, rfl⟩, x1PL, x2PL, x3PL, x4PL⟩, x5PL, aplaceInit, x6PL⟩
  have F_row := fun_mk (st := s_row) lrow crow krow
  have b_row := F_row.binds (ps := ["field", "coefficients"]) fun _ _ _ _ _ _ us hl => match us, hl with | [_, _], _ => rfl
  have m_row : mg "_row" = some (.ref frow) := PySem.W.mg_of X G arow
  have rdc : ClX.CRead K CP (.type "type") := ⟨rdP, gaP⟩
  have cvc : ClX.CVal K CP (.type "type") "MOST" (.int 100) (.int 100 tkMO) := ⟨cvP, ⟨_, rfl⟩⟩
  have F_isseq := fun_mk (st := s_isseq) lisseq cisseq kisseq
  have b_isseq := F_isseq.binds (ps := ["value"]) fun _ _ _ _ _ _ us hl => match us, hl with | [_], _ => rfl
  have m_isseq : mg "is_a_sequence" = some (.ref fisseq) := PySem.W.mg_of X G aisseq
  have F_fnum := fun_mk (st := s_fnum) lfnum cfnum kfnum
  have b_fnum := F_fnum.binds (ps := ["self", "value"]) fun _ _ _ _ _ _ us hl => match us, hl with | [_, _], _ => rfl
  have F_taken := fun_mk (st := s_taken) ltaken ctaken ktaken
  have b_taken := F_taken.binds (ps := ["field", "values"]) fun _ _ _ _ _ _ us hl => match us, hl with | [_, _], _ => rfl
  have m_taken : mg "taken" = some (.ref ftaken) := PySem.W.mg_of X G ataken
  have m_NN : mg "NoNumber" = some (.ref CNN) := PySem.W.mg_of X G aNN
  have RNNN : RNx K mg "NoNumber" CNN := ⟨exc_in xLNN (ns_ok n1NN n2NN) n3NN (tail1 xLS (ns_ok n1S n2S) n3S), m_NN, x4NN, x2NN, x3NN⟩
  have teNN := PySem.W.exm_ref x2NN y8NN x3NN x7NN
  have F_fover := fun_mk (st := s_fover) lfover cfover kfover
  have b_fover := F_fover.binds (ps := ["self", "one", "other"]) fun _ _ _ _ _ _ us hl => match us, hl with | [_, _, _], _ => rfl
  have F_isnum := fun_mk (st := s_isnum) lisnum cisnum kisnum
  have b_isnum := F_isnum.binds (ps := ["value"]) fun _ _ _ _ _ _ us hl => match us, hl with | [_], _ => rfl
  have m_isnum : mg "is_number" = some (.ref fisnum) := PySem.W.mg_of X G aisnum
  have F_ratioInit : FunD K "__init__" "Ratio.__init__" (defArgs s_ratioInit) (defBody s_ratioInit) (defScope s_ratioInit) [.int 1] [] fratioInit _ := ⟨⟨_, _, _, _, _, _, _, _, _, _, rfl, lratioInit, cratioInit, .inr ⟨by simp, dratioInit, _, [Value.int 1 tkratioInit], nratioInit, rfl, eratioInit, rfl, .cons ⟨_, rfl⟩ .nil⟩, .inl rfl⟩, kratioInit⟩
  obtain ⟨ds0, v0, b_R⟩ := F_ratioInit.binds1 (ps := ["self", "top", "bottom"]) 3 1 (by simp) rfl fun _ _ _ _ _ _ _ us its hl hi => match us, its, hl, hi with | [_, _, _], [_], _, _ => ⟨_, rfl, rfl⟩
  cases v0
  obtain ⟨ds1, v1, b_R1⟩ := F_ratioInit.binds1 (ps := ["self", "top", "bottom"]) 2 0 (by simp) rfl fun _ _ _ _ _ _ _ us its hl hi => match us, its, hl, hi with | [_, _], [_], _, _ => ⟨_, rfl, rfl⟩
  have F_asratio := fun_mk (st := s_asratio) lasratio casratio kasratio
  have b_asratio := F_asratio.binds (ps := ["number"]) fun _ _ _ _ _ _ us hl => match us, hl with | [_], _ => rfl
  have m_asratio : mg "as_ratio" = some (.ref fasratio) := PySem.W.mg_of X G aasratio
  have MR : Mk K CR fratioInit := ⟨mkR, aratioInit, iratioInit, kcR⟩
  have m_N : mg "NoRatio" = some (.ref CN) := PySem.W.mg_of X G aN
  have F_noRatioInit := fun_mk (st := s_noRatioInit) lnoRatioInit cnoRatioInit knoRatioInit
  have b_noRatioInit := F_noRatioInit.binds (ps := ["self", "word"]) fun _ _ _ _ _ _ us hl => match us, hl with | [_, _], _ => rfl
  have NN : NTx K mg CN fnoRatioInit := ⟨⟨⟨nmN, qN, NaN, bsN, _, snN, subN, abN, colN, ddN, m0N, m1N, m2N, m3N, m5N, xLN, rfl⟩, x1N, x2N, x3N, x4N⟩, x5N, anoRatioInit, x6N⟩
  have GG : mg "gcd_math" = some (.builtin "math.gcd") := PySem.W.mg_of X G g_gcd
  have GT : GTx mg CN := ⟨GG, m_N⟩
  have F_inverse := fun_mk (st := s_inverse) linverse cinverse kinverse
  have b_inverse := F_inverse.binds (ps := ["number", "prime"]) fun _ _ _ _ _ _ us hl => match us, hl with | [_, _], _ => rfl
  have m_inverse : mg "_inverse" = some (.ref finverse) := PySem.W.mg_of X G ainverse
  have YPP : IPyP K CR CP := ⟨q1P, y5, y6, q2P, kit_tyo hdP q3P wP_int, kit_ownF hdP q3P wP_R wP_P⟩
  have m_St : mg "Settled" = some (.ref CSt) := PySem.W.mg_of X G aSt
  have m_FR : mg "NoFraction" = some (.ref CFR) := PySem.W.mg_of X G aFR
  have F_wordInit := fun_mk (st := s_wordInit) lwordInit cwordInit kwordInit
  have b_wordInit := F_wordInit.binds (ps := ["self", "word"]) fun _ _ _ _ _ _ us hl => match us, hl with | [_, _], _ => rfl
  have NFR : NTxF K "word" CFR fwordInit := ⟨⟨⟨nmFR, qFR, NaFR, bsFR, _, snFR, subFR, abFR, colFR, ddFR, m0FR, m1FR, m2FR, m3FR, m5FR, xLFR, rfl⟩, x1FR, x2FR, x3FR, x4FR⟩, x5FR, awordInit, x6FR⟩
  have F_pfdiv := fun_mk (st := s_pfdiv) lpfdiv cpfdiv kpfdiv
  have b_pfdiv := F_pfdiv.binds (ps := ["self", "other"]) fun _ _ _ _ _ _ us hl => match us, hl with | [_, _], _ => rfl
  have F_pcoef := fun_mk (st := s_pcoef) lpcoef cpcoef kpcoef
  have b_pcoef := F_pcoef.binds (ps := ["self", "k"]) fun _ _ _ _ _ _ us hl => match us, hl with | [_, _], _ => rfl
  have F_pmul := fun_mk (st := s_pmul) lpmul cpmul kpmul
  have b_pmul := F_pmul.binds (ps := ["self", "other"]) fun _ _ _ _ _ _ us hl => match us, hl with | [_, _], _ => rfl
  have F_low := fun_mk (st := s_low) llow clow klow
  have b_low := F_low.binds (ps := ["top", "bottom"]) fun _ _ _ _ _ _ us hl => match us, hl with | [_, _], _ => rfl
  have m_low : mg "_in_lowest_terms" = some (.ref flow) := PySem.W.mg_of X G alow
  have F_feq := fun_mk (st := s_feq) lfeq cfeq kfeq
  have b_feq := F_feq.binds (ps := ["self", "other"]) fun _ _ _ _ _ _ us hl => match us, hl with | [_, _], _ => rfl
  have F_same := fun_mk (st := s_same) lsame csame ksame
  have b_same := F_same.binds (ps := ["one", "other"]) fun _ _ _ _ _ _ us hl => match us, hl with | [_, _], _ => rfl
  have m_same : mg "check_same_field" = some (.ref fsame) := PySem.W.mg_of X G asame
  have YF : IFy K CF := ⟨q1F, y5, y6, q2F, kit_tyo hdF q3F wF_int⟩
  have m_OF : mg "OtherField" = some (.ref COF) := PySem.W.mg_of X G aOF
  have RNOF : RNx K mg "OtherField" COF := ⟨exc_in xLOF (ns_ok n1OF n2OF) n3OF (tail1 xLS (ns_ok n1S n2S) n3S), m_OF, x4OF, x2OF, x3OF⟩
  have NEF : NeOp K CF ffeq := ⟨afeq, ifeq, neF, q2F⟩
  have F_pgcd := fun_mk (st := s_pgcd) lpgcd cpgcd kpgcd
  have b_pgcd := F_pgcd.binds (ps := ["one", "other"]) fun _ _ _ _ _ _ us hl => match us, hl with | [_, _], _ => rfl
  have m_pgcd : mg "gcd_polys" = some (.ref fpgcd) := PySem.W.mg_of X G apgcd
  have F_whole := fun_mk (st := s_whole) lwhole cwhole kwhole
  have b_whole := F_whole.binds (ps := ["field", "numbers"]) fun _ _ _ _ _ _ us hl => match us, hl with | [_, _], _ => rfl
  have m_whole : mg "whole" = some (.ref fwhole) := PySem.W.mg_of X G awhole
  have GX_lcm : mg "lcm" = some (.builtin "math.lcm") := PySem.W.mg_of X G g_lcm
  have F_common := fun_mk (st := s_common) lcommon ccommon kcommon
  have b_common := F_common.binds (ps := ["one", "other", "prime"]) fun _ _ _ _ _ _ us hl => match us, hl with | [_, _, _], _ => rfl
  have m_common : mg "common_row" = some (.ref fcommon) := PySem.W.mg_of X G acommon
  have F_short := fun_mk (st := s_short) lshort cshort kshort
  have b_short := F_short.binds (ps := ["row", "prime"]) fun _ _ _ _ _ _ us hl => match us, hl with | [_, _], _ => rfl
  have m_short : mg "shortened" = some (.ref fshort) := PySem.W.mg_of X G ashort
  have F_content := fun_mk (st := s_content) lcontent ccontent kcontent
  have b_content := F_content.binds (ps := ["row", "prime"]) fun _ _ _ _ _ _ us hl => match us, hl with | [_, _], _ => rfl
  have m_content : mg "content" = some (.ref fcontent) := PySem.W.mg_of X G acontent
  have F_div := fun_mk (st := s_div) ldiv cdiv kdiv
  have b_div := F_div.binds (ps := ["high", "low", "prime"]) fun _ _ _ _ _ _ us hl => match us, hl with | [_, _, _], _ => rfl
  have m_div : mg "division" = some (.ref fdiv) := PySem.W.mg_of X G adiv
  have z_zip := PySem.W.mg_none_of X G z_zip
  have z_reversed := PySem.W.mg_none_of X G z_reversed
  have F_trimmed := fun_mk (st := s_trimmed) ltrimmed ctrimmed ktrimmed
  have b_trimmed := F_trimmed.binds (ps := ["row", "prime"]) fun _ _ _ _ _ _ us hl => match us, hl with | [_, _], _ => rfl
  have m_trimmed : mg "trimmed" = some (.ref ftrimmed) := PySem.W.mg_of X G atrimmed
  have F_apart := fun_mk (st := s_apart) lapart capart kapart
  have b_apart := F_apart.binds (ps := ["one", "other"]) fun _ _ _ _ _ _ us hl => match us, hl with | [_, _], _ => rfl
  have m_apart : mg "_are_seen_apart" = some (.ref fapart) := PySem.W.mg_of X G aapart
  have GK_SIGHTING_PRIME : mg "SIGHTING_PRIME" = some (.int 2305843009213693951 tk_SIGHTING_PRIME) := PySem.W.mg_of X G g_SIGHTING_PRIME
  have F_rd := fun_mk (st := s_rd) lrd crd krd
  have b_rd := F_rd.binds (ps := ["self", "row"]) fun _ _ _ _ _ _ us hl => match us, hl with | [_, _], _ => rfl
  have F_polyof := fun_mk (st := s_polyof) lpolyof cpolyof kpolyof
  have b_polyof := F_polyof.binds (ps := ["field", "row", "bottom"]) fun _ _ _ _ _ _ us hl => match us, hl with | [_, _, _], _ => rfl
  have m_polyof : mg "poly_of" = some (.ref fpolyof) := PySem.W.mg_of X G apolyof
  have TRd : IRd K CRd := ⟨⟨pgRd, hdRd, poRd, saRd⟩, nRd_row, q1Rd, y5, y6, q2Rd⟩
  have MRd : Mk K CRd frd := ⟨mkRd, ard, ird, kcRd⟩
  have F_nums := fun_mk (st := s_nums) lnums cnums knums
  have b_nums := F_nums.binds (ps := ["field", "row", "bottom"]) fun _ _ _ _ _ _ us hl => match us, hl with | [_, _, _], _ => rfl
  have m_nums : mg "numbers_of" = some (.ref fnums) := PySem.W.mg_of X G anums
  have F_rover := fun_mk (st := s_rover) lrover crover krover
  have b_rover := F_rover.binds (ps := ["self", "other"]) fun _ _ _ _ _ _ us hl => match us, hl with | [_, _], _ => rfl
  have d_FloorDiv : PySem.dunder Operator.FloorDiv.info.2 = ("__floordiv__" : Str) := by decide +kernel
  have O_pfdiv : OwnOp K CP fpfdiv (PySem.dunder Operator.FloorDiv.info.2) := ⟨by rw [d_FloorDiv]; exact apfdiv, ipfdiv⟩
  have F_divd := fun_mk (st := s_divd) ldivd cdivd kdivd
  have b_divd := F_divd.binds (ps := ["self", "other"]) fun _ _ _ _ _ _ us hl => match us, hl with | [_, _], _ => rfl
  have m_NC : mg "NoCount" = some (.ref CNC) := PySem.W.mg_of X G aNC
  have RNNC : RNx K mg "NoCount" CNC := ⟨exc_in xLNC (ns_ok n1NC n2NC) n3NC (tail1 xLS (ns_ok n1S n2S) n3S), m_NC, x4NC, x2NC, x3NC⟩
  have d_Mult : PySem.dunder Operator.Mult.info.2 = ("__mul__" : Str) := by decide +kernel
  have O_pmul : OwnOp K CP fpmul (PySem.dunder Operator.Mult.info.2) := ⟨by rw [d_Mult]; exact apmul, ipmul⟩
  have dr_Mult : dunderR Operator.Mult.info.2 = ("__rmul__" : Str) := by decide +kernel
  have NI_P_Mult : IntOp K CP Operator.Mult.info.2 := ⟨⟨_, by rw [d_Mult]; exact i1mult⟩, ⟨_, by rw [dr_Mult]; exact i2mult⟩, wP_int, ⟨_, by rw [dr_Mult]; exact ar_P_Mult⟩⟩
  have ne_P_R : CP ≠ CR := fun z => by rw [z, wR_R] at wP_R; cases wP_R
  have NO_P_R_Mult : OthOp K CP CR Operator.Mult.info.2 := ⟨sf_R, ⟨ff_R_Mult, ⟨by rw [d_Mult]; exact af_R_Mult, if_R_Mult⟩⟩, wP_R, ⟨_, by rw [dr_Mult]; exact ar_P_Mult⟩, ⟨_, by rw [dr_Mult]; exact ar_R_Mult⟩, ne_P_R⟩
  have F_isop := fun_mk (st := s_isop) lisop cisop kisop
  have b_isop := F_isop.binds (ps := ["value"]) fun _ _ _ _ _ _ us hl => match us, hl with | [_], _ => rfl
  have m_isop : mg "is_operand_polys" = some (.ref fisop) := PySem.W.mg_of X G aisop
  have F_asp := fun_mk (st := s_asp) lasp casp kasp
  have b_asp := F_asp.binds (ps := ["field", "operand"]) fun _ _ _ _ _ _ us hl => match us, hl with | [_, _], _ => rfl
  have m_asp : mg "_as_poly" = some (.ref fasp) := PySem.W.mg_of X G aasp
  have F_mult := fun_mk (st := s_mult) lmult cmult kmult
  have b_mult := F_mult.binds (ps := ["ones", "others"]) fun _ _ _ _ _ _ us hl => match us, hl with | [_, _], _ => rfl
  have m_mult : mg "multiplied" = some (.ref fmult) := PySem.W.mg_of X G amult
  have z_enumerate := PySem.W.mg_none_of X G z_enumerate
  have F_pneg := fun_mk (st := s_pneg) lpneg cpneg kpneg
  have b_pneg := F_pneg.binds (ps := ["self"]) fun _ _ _ _ _ _ us hl => match us, hl with | [_], _ => rfl
  have F_stinit := fun_mk (st := s_stinit) lstinit cstinit kstinit
  have b_stinit := F_stinit.binds (ps := ["self", "poly"]) fun _ _ _ _ _ _ us hl => match us, hl with | [_, _], _ => rfl
  have F_rneg := fun_mk (st := s_rneg) lrneg crneg krneg
  have b_rneg := F_rneg.binds (ps := ["self"]) fun _ _ _ _ _ _ us hl => match us, hl with | [_], _ => rfl
  have TSt : STx2 K CSt := ⟨⟨pgSt, hdSt, poSt, saSt⟩, nSt_poly, q1St, y5, y6, q2St⟩
  have MSt : Mk K CSt fstinit := ⟨mkSt, astinit, istinit, kcSt⟩
  have F_peq := fun_mk (st := s_peq) lpeq cpeq kpeq
  have b_peq := F_peq.binds (ps := ["self", "other"]) fun _ _ _ _ _ _ us hl => match us, hl with | [_, _], _ => rfl
  have F_state := fun_mk (st := s_state) lstate cstate kstate
  have b_state := F_state.binds (ps := ["_law_script"]) fun _ _ _ _ _ _ us hl => match us, hl with | [_], _ => rfl
  have m_state : mg "_law_state" = some (.ref fstate) := PySem.W.mg_of X G astate
  have F_lpr := fun_mk (st := s_lpr) llpr clpr klpr
  have b_lpr := F_lpr.binds (ps := ["_law_state_here"]) fun _ _ _ _ _ _ us hl => match us, hl with | [_], _ => rfl
  have m_lpr : mg "_law_prime" = some (.ref flpr) := PySem.W.mg_of X G alpr
  have F_draw := fun_mk (st := s_draw) ldraw cdraw kdraw
  have b_draw := F_draw.binds (ps := ["_law_state_here", "_law_many"]) fun _ _ _ _ _ _ us hl => match us, hl with | [_, _], _ => rfl
  have m_draw : mg "_law_draw" = some (.ref fdraw) := PySem.W.mg_of X G adraw
  have F_lip := fun_mk (st := s_lip) llip clip klip
  have b_lip := F_lip.binds (ps := ["_law_value"]) fun _ _ _ _ _ _ us hl => match us, hl with | [_], _ => rfl
  have m_lip : mg "_law_is_prime" = some (.ref flip) := PySem.W.mg_of X G alip
  have F_lfrac := fun_mk (st := s_lfrac) llfrac clfrac klfrac
  have b_lfrac := F_lfrac.binds (ps := ["_law_state_here", "_law_prime_here", "_law_field"]) fun _ _ _ _ _ _ us hl => match us, hl with | [_, _, _], _ => rfl
  have m_lfrac : mg "_law_fraction" = some (.ref flfrac) := PySem.W.mg_of X G alfrac
  have F_unit := fun_mk (st := s_unit) lunit cunit kunit
  have b_unit := F_unit.binds (ps := ["_law_state_here", "_law_prime_here"]) fun _ _ _ _ _ _ us hl => match us, hl with | [_, _], _ => rfl
  have m_unit : mg "_law_unit" = some (.ref funit) := PySem.W.mg_of X G aunit
  have F_number := fun_mk (st := s_number) lnumber cnumber knumber
  have b_number := F_number.binds (ps := ["_law_state_here", "_law_prime_here"]) fun _ _ _ _ _ _ us hl => match us, hl with | [_, _], _ => rfl
  have m_number : mg "_law_number" = some (.ref fnumber) := PySem.W.mg_of X G anumber
  have F_pair := fun_mk (st := s_pair) lpair cpair kpair
  have b_pair := F_pair.binds (ps := ["_law_prime_here", "_law_top", "_law_bottom"]) fun _ _ _ _ _ _ us hl => match us, hl with | [_, _, _], _ => rfl
  have m_pair : mg "_law_pair" = some (.ref fpair) := PySem.W.mg_of X G apair
  have F_gcd := fun_mk (st := s_gcd) lgcd cgcd kgcd
  have b_gcd := F_gcd.binds (ps := ["_law_one", "_law_other"]) fun _ _ _ _ _ _ us hl => match us, hl with | [_, _], _ => rfl
  have m_gcd : mg "_law_gcd" = some (.ref fgcd) := PySem.W.mg_of X G agcd
  have F_small := fun_mk (st := s_small) lsmall csmall ksmall
  have b_small := F_small.binds (ps := ["_law_state_here", "_law_prime_here", "_law_size"]) fun _ _ _ _ _ _ us hl => match us, hl with | [_, _, _], _ => rfl
  have m_small : mg "_law_small" = some (.ref fsmall) := PySem.W.mg_of X G asmall
  have F_lpoly := fun_mk (st := s_lpoly) llpoly clpoly klpoly
  have b_lpoly := F_lpoly.binds (ps := ["_law_field", "_law_row"]) fun _ _ _ _ _ _ us hl => match us, hl with | [_, _], _ => rfl
  have m_lpoly : mg "_law_poly" = some (.ref flpoly) := PySem.W.mg_of X G alpoly
  have F_passed := fun_mk (st := s_passed) lpassed cpassed kpassed
  have b_passed := F_passed.binds (ps := ["_law_prime_here", "_law_pair_here", "_law_k"]) fun _ _ _ _ _ _ us hl => match us, hl with | [_, _, _], _ => rfl
  have m_passed : mg "_law_passed" = some (.ref fpassed) := PySem.W.mg_of X G apassed
  have F_given := fun_mk (st := s_given) lgiven cgiven kgiven
  have b_given := F_given.binds (ps := ["_law_pair_here"]) fun _ _ _ _ _ _ us hl => match us, hl with | [_], _ => rfl
  have m_given : mg "_law_given" = some (.ref fgiven) := PySem.W.mg_of X G agiven
  refine ⟨PySem.W.fnOf "law" "law" (defArgs s_law) (defBody s_law) (defScope s_law) .none kVla dcla pmla anla cdla ctla, fun s v => .of_eq rfl, fun base _ _ => ?_⟩
  have G_isint := ok_isint (P := P) (w := w) (mg := mg) (base := base)  F_isint I
  have G_isprime := ok_isprime (P := P) (w := w) (mg := mg) (base := base)  F_isprime RT
  have G_finit := ok_finit (P := P) (w := w) (mg := mg) (base := base) (CF := CF) F_finit TF RNNF GK_GREATEST_PRIME G_isint m_isint kisint b_isint G_isprime m_isprime kisprime b_isprime
  have G_req := ok_req (P := P) (w := w) (mg := mg) (base := base) (C := CR) F_req T Y Z I m_R G_isint m_isint kisint b_isint
  have G_placeInit := ok_placeInit (P := P) (w := w) (mg := mg) (base := base)  F_placeInit NPL
  have G_isseq := ok_isseq (P := P) (w := w) (mg := mg) (base := base)  F_isseq BQ
  have G_isnum := ok_isnum (P := P) (w := w) (mg := mg) (base := base) (C := CR) F_isnum I m_R G_isint m_isint kisint b_isint
  have G_noRatioInit := ok_noRatioInit (P := P) (w := w) (mg := mg) (base := base)  F_noRatioInit NN
  have G_ratioInit := ok_ratioInit (P := P) (w := w) (mg := mg) (base := base) (C := CR) F_ratioInit T NN GT G_noRatioInit b_noRatioInit G_isint m_isint kisint b_isint
  have G_asratio := ok_asratio (P := P) (w := w) (mg := mg) (base := base) (C := CR) F_asratio T Y Z I m_R MR G_ratioInit b_R1 v1
  have G_numI := ok_numI (P := P) (w := w) (mg := mg) (base := base) (C := CR) (CF := CF) F_fnum T TF Z I m_R RNNN G_isnum m_isnum kisnum b_isnum G_asratio m_asratio kasratio b_asratio
  have G_inverse := ok_inverse (P := P) (w := w) (mg := mg) (base := base)  F_inverse
  have G_overI := ok_overI (P := P) (w := w) (mg := mg) (base := base) (C := CR) (CF := CF) F_fover TF RNNN ⟨afnum, ifnum, kfnum⟩ G_numI b_fnum G_inverse m_inverse kinverse b_inverse
  have G_num := ok_num (P := P) (w := w) (mg := mg) (base := base) (C := CR) (CF := CF) F_fnum T TF Y Z I m_R RNNN G_isnum m_isnum kisnum b_isnum G_asratio m_asratio kasratio b_asratio ⟨afover, ifover, kfover⟩ G_overI b_fover
  have G_taken := ok_taken (P := P) (w := w) (mg := mg) (base := base) (C := CR) (CF := CF) F_taken TF m_NN teNN ⟨afnum, ifnum, kfnum⟩ G_num b_fnum
  have G_row := ok_row (P := P) (w := w) (mg := mg) (base := base) (C := CR) (CF := CF) (CP := CP) (CRd := CRd) F_row BQ m_Rd m_P m_PL NPL G_placeInit b_placeInit rdc cvc G_isseq m_isseq kisseq b_isseq G_taken m_taken ktaken b_taken
  have G_pinit := ok_pinit (P := P) (w := w) (mg := mg) (base := base) (C := CR) (CF := CF) (CP := CP) (CRd := CRd) F_pinit BQ TP ⟨areq, ireq⟩ nf_R_int G_req b_req G_row m_row krow b_row
  have G_feq := ok_feq (P := P) (w := w) (mg := mg) (base := base) (CF := CF) F_feq TF YF I m_F
  have G_same := ok_same (P := P) (w := w) (mg := mg) (base := base) (CF := CF) F_same TF YF RNOF NEF (by simp [PySem.W.notFirst]) G_feq b_feq
  have G_wordInit := ok_wordInit (P := P) (w := w) (mg := mg) (base := base)  F_wordInit NFR
  have G_whole := ok_whole (P := P) (w := w) (mg := mg) (base := base) (C := CR) (CF := CF) F_whole BQ T TF GX_lcm
  have G_content := ok_content (P := P) (w := w) (mg := mg) (base := base)  F_content GG
  have G_short := ok_short (P := P) (w := w) (mg := mg) (base := base)  F_short G_content m_content kcontent b_content
  have G_trimmed := ok_trimmed (P := P) (w := w) (mg := mg) (base := base)  F_trimmed BQ
  have G_div := ok_div (P := P) (w := w) (mg := mg) (base := base)  F_div D BQ GG z_zip z_reversed G_trimmed m_trimmed ktrimmed b_trimmed
  have G_commonP := ok_commonP (P := P) (w := w) (mg := mg) (base := base)  F_common BQ G_short m_short kshort b_short G_div m_div kdiv b_div
  have G_apart := ok_apart (P := P) (w := w) (mg := mg) (base := base)  F_apart BQ GK_SIGHTING_PRIME G_trimmed m_trimmed ktrimmed b_trimmed G_commonP m_common kcommon b_common
  have G_commonZ := ok_commonZ (P := P) (w := w) (mg := mg) (base := base)  F_common BQ G_short m_short kshort b_short G_div m_div kdiv b_div G_apart m_apart kapart b_apart
  have G_rowR := ok_rowR (P := P) (w := w) (mg := mg) (base := base) (CRd := CRd) F_row BQ TRd m_Rd
  have G_pinitR := ok_pinitR (P := P) (w := w) (mg := mg) (base := base) (C := CR) (CF := CF) (CP := CP) (CRd := CRd) F_pinit BQ TP ⟨areq, ireq⟩ nf_R_int G_req b_req G_rowR m_row krow b_row
  have G_rd := ok_rd (P := P) (w := w) (mg := mg) (base := base) (CRd := CRd) F_rd BQ TRd
  have G_rover := ok_rover (P := P) (w := w) (mg := mg) (base := base) (C := CR) F_rover T Y Z m_R MR G_ratioInit b_R G_asratio m_asratio kasratio b_asratio
  have G_fover := ok_fover (P := P) (w := w) (mg := mg) (base := base) (C := CR) (CF := CF) F_fover T TF Y RNNN ⟨afnum, ifnum, kfnum⟩ G_num b_fnum G_inverse m_inverse kinverse b_inverse ⟨arover, irover, krover⟩ G_rover b_rover ⟨areq, ireq⟩ nf_R_int G_req b_req
  have G_nums := ok_nums (P := P) (w := w) (mg := mg) (base := base) (C := CR) (CF := CF) F_nums TF m_R MR G_ratioInit b_R ⟨afover, ifover, kfover⟩ G_fover b_fover
  have G_polyof := ok_polyof (P := P) (w := w) (mg := mg) (base := base) (C := CR) (CP := CP) (CF := CF) (CRd := CRd) F_polyof MP G_pinitR b_pinit m_P MRd G_rd b_rd m_Rd G_nums m_nums knums b_nums
  have G_pgcd := ok_pgcd (P := P) (w := w) (mg := mg) (base := base) (C := CR) (CP := CP) (CF := CF) (CRd := CRd) F_pgcd BQ TP TF (kit_tyo hdRd q3Rd wRd_list) MP m_P G_pinit b_pinit G_same m_same ksame b_same G_whole m_whole kwhole b_whole G_commonP G_commonZ m_common kcommon b_common G_polyof m_polyof kpolyof b_polyof
  have G_divdG := ok_divdG (P := P) (w := w) (mg := mg) (base := base) (C := CR) (CP := CP) (CF := CF) F_divd TP TF G_same m_same ksame b_same m_PL NPL G_placeInit b_placeInit G_whole m_whole kwhole b_whole G_div m_div kdiv b_div G_polyof m_polyof kpolyof b_polyof
  have G_pfdivG := ok_pfdivG (P := P) (w := w) (mg := mg) (base := base) (C := CR) (CP := CP) (CF := CF) F_pfdiv I TP YPP m_P ⟨adivd, idivd, kdivd⟩ G_divdG b_divd
  have G_pcoef := ok_pcoef (P := P) (w := w) (mg := mg) (base := base) (C := CR) (CF := CF) (CP := CP) F_pcoef TF TP RNNC ⟨afnum, ifnum, kfnum⟩ G_num b_fnum G_isint m_isint kisint b_isint
  have G_isop := ok_isop (P := P) (w := w) (mg := mg) (base := base) (C := CR) (CP := CP) F_isop I T Y Z TP YPP m_P G_isnum m_isnum kisnum b_isnum
  have G_asp := ok_asp (P := P) (w := w) (mg := mg) (base := base) (C := CR) (CP := CP) (CF := CF) (CRd := CRd) F_asp I T Y TP TF YPP MP G_pinitR b_pinit m_P MRd G_rd b_rd m_Rd ⟨afnum, ifnum, kfnum⟩ G_num b_fnum
  have G_mult := ok_mult (P := P) (w := w) (mg := mg) (base := base)  F_mult D BQ z_enumerate
  have G_pmul := ok_pmul (P := P) (w := w) (mg := mg) (base := base) (C := CR) (CP := CP) (CF := CF) F_pmul TP G_isop m_isop kisop b_isop G_asp m_asp kasp b_asp G_same m_same ksame b_same G_whole m_whole kwhole b_whole G_mult m_mult kmult b_mult G_polyof m_polyof kpolyof b_polyof
  have G_lowG := ok_lowG (P := P) (w := w) (mg := mg) (base := base) (C := CR) (CP := CP) (CF := CF) F_low T Y Z TP TF G_same m_same ksame b_same m_FR NFR G_wordInit b_wordInit G_pgcd m_pgcd kpgcd b_pgcd sf_P O_pfdiv G_pfdivG b_pfdiv ⟨apcoef, ipcoef, kpcoef⟩ G_pcoef b_pcoef O_pmul NI_P_Mult NO_P_R_Mult ⟨areq, ireq⟩ nf_R_int G_req b_req G_pmul b_pmul ⟨afover, ifover, kfover⟩ G_fover b_fover
  have G_frinitG := ok_frinitG (P := P) (w := w) (mg := mg) (base := base) (C := CR) (CP := CP) (CF := CF) (CFr := CFr) (CSt := CSt) F_frinit I TP YPP TFr m_St (kit_ownF hdSt q3St wSt_P wSt_St) G_lowG m_low klow b_low
  have G_rneg8 := ok_rneg8 (P := P) (w := w) (mg := mg) (base := base) (C := CR) F_rneg T m_R MR G_ratioInit b_R
  have G_pneg := ok_pneg (P := P) (w := w) (mg := mg) (base := base) (C := CR) (CP := CP) (CF := CF) (CRd := CRd) F_pneg TP TF MP G_pinitR b_pinit m_P MRd G_rd b_rd m_Rd ⟨afnum, ifnum, kfnum⟩ G_num b_fnum ⟨arneg, irneg⟩ G_rneg8 b_rneg
  have G_frinitS := ok_frinitS (P := P) (w := w) (mg := mg) (base := base) (C := CR) (CP := CP) (CF := CF) (CFr := CFr) (CSt := CSt) F_frinit I TP TFr m_St TSt
  have G_stinit := ok_stinit (P := P) (w := w) (mg := mg) (base := base) (CSt := CSt) F_stinit TSt
  have G_frneg := ok_frneg (P := P) (w := w) (mg := mg) (base := base) (C := CR) (CF := CF) (CP := CP) (CFr := CFr) (CSt := CSt) F_frneg TFr ⟨apneg, ipneg⟩ G_pneg b_pneg MFr G_frinitS b_frinit m_Fr MSt G_stinit b_stinit m_St
  have G_peq := ok_peq (P := P) (w := w) (mg := mg) (base := base) (C := CR) (CF := CF) (CP := CP) F_peq BQ TP YPP TF YF m_P ⟨afeq, ifeq⟩ (by simp [PySem.W.notFirst]) G_feq b_feq ⟨areq, ireq⟩ G_req b_req
  have G_freq := ok_freq (P := P) (w := w) (mg := mg) (base := base) (C := CR) (CF := CF) (CP := CP) (CFr := CFr) F_freq BQ TP YPP TFr YxFr m_Fr ⟨apeq, ipeq⟩ (by simp [PySem.W.notFirst]) G_peq b_peq
  have G_sqinit := ok_sqinit (P := P) (w := w) (mg := mg) (base := base) (CSq := CSq) F_sqinit TSq
  have G_sqeq := ok_sqeq (P := P) (w := w) (mg := mg) (base := base) (C := CR) (CF := CF) (CP := CP) (CFr := CFr) (CSq := CSq) F_sqeq BQ TSq YxSq TFr YxFr m_Sq ⟨afreq, ifreq⟩ (by simp [PySem.W.notFirst]) G_freq b_freq
  have G_has := ok_has (P := P) (w := w) (mg := mg) (base := base) (CSq := CSq) F_has TSq
  have G_state := ok_state (P := P) (w := w) (mg := mg) (base := base)  F_state D
  have G_draw := ok_draw (P := P) (w := w) (mg := mg) (base := base)  F_draw D
  have G_lip := ok_lip (P := P) (w := w) (mg := mg) (base := base)  F_lip D
  have G_lpr := ok_lpr (P := P) (w := w) (mg := mg) (base := base)  F_lpr D G_draw m_draw kdraw b_draw G_lip m_lip klip b_lip
  have G_drawA := ok_drawA (P := P) (w := w) (mg := mg) (base := base)  F_draw D
  have G_gcd := ok_gcd (P := P) (w := w) (mg := mg) (base := base)  F_gcd D
  have G_pair := ok_pair (P := P) (w := w) (mg := mg) (base := base)  F_pair D G_gcd m_gcd kgcd b_gcd
  have G_number := ok_number (P := P) (w := w) (mg := mg) (base := base)  F_number G_drawA m_draw kdraw b_draw G_pair m_pair kpair b_pair
  have G_unit := ok_unit (P := P) (w := w) (mg := mg) (base := base)  F_unit G_number m_number knumber b_number
  have G_small := ok_small (P := P) (w := w) (mg := mg) (base := base)  F_small D G_number m_number knumber b_number
  have G_given := ok_given (P := P) (w := w) (mg := mg) (base := base) (C := CR) F_given m_R MR G_ratioInit b_R
  have G_passed := ok_passed (P := P) (w := w) (mg := mg) (base := base) (C := CR) F_passed D m_R MR G_ratioInit b_R G_given m_given kgiven b_given
  have G_lpoly := ok_lpoly (P := P) (w := w) (mg := mg) (base := base) (C := CR) (CP := CP) (CF := CF) (CRd := CRd) F_lpoly D TF (kit_tyo hdRd q3Rd wRd_list) MP m_P G_pinit b_pinit G_passed m_passed kpassed b_passed
  have G_lfrac := ok_lfrac (P := P) (w := w) (mg := mg) (base := base) (C := CR) (CF := CF) (CP := CP) (CFr := CFr) F_lfrac G_drawA m_draw kdraw b_draw G_unit m_unit kunit b_unit G_small m_small ksmall b_small G_lpoly m_lpoly klpoly b_lpoly MFr G_frinitG b_frinit m_Fr
  exact ok_law F_la D BQ I TSq YxSq TFr YxFr (kit_tyo hdRd q3Rd wRd_list) (kit_tyo hdSq q3Sq wSq_tuple) (kit_tyo hdSq q3Sq wSq_NoneType) (kit_ownF hdSq q3Sq wSq_Fr wSq_Sq) (by simp [PySem.W.notFirst]) nf_Sq_tuple nf_Sq_NoneType nf_Sq_Fr (by simp [PySem.W.notFirst]) m_F m_P m_Fr m_Sq MF MP MFr MSq G_finit b_F G_pinit b_pinit G_frinitG b_frinit ⟨afrneg, ifrneg⟩ G_frneg b_frneg ⟨afreq, ifreq⟩ G_freq b_freq G_sqinit b_sqinit ⟨asqeq, isqeq⟩ G_sqeq b_sqeq ⟨ahas, ihas, khas⟩ G_has b_has G_state m_state kstate b_state G_lpr m_lpr klpr b_lpr G_drawA m_draw kdraw b_draw G_lfrac m_lfrac klfrac b_lfrac
theorem walk {l : PySem.W.OpenLaw} {q : Program} {loose : List Str} {XP : (Str → Option Value) → Heap → Prop} {YP : World → Heap → Prop} {d : DefRec} {K : Params → PySem.W.Frag} (hn : l.most = some 63) (hdf : d.params.defaults = [])
    (hY : ∀ (w : World) (h : Heap), YP w h → (K w.params).In h)
    (F : ∀ (w : World) (mg : Str → Option Value) (fa : Addr) (h : Heap), (K w.params).In h → h.Ns mainGlobals mg → mg d.name = some (.ref fa) →
      ∃ fd : FuncData, (∀ (s : Shared) (u : Value), BindsTo s fd ⟨[u], []⟩ [("_law_script", u)]) ∧ ∀ base : Heap, (K w.params).In base → base.Ns mainGlobals mg → FnOk l.prog w (K w.params) mg base CX0 20 fa fd ["_law_script"] (spLaw (K w.params))) :
    PySem.W.WalkO q loose XP YP l.row.toRowW d [] (fun f vs => PySem.call f vs) :=
  L2.walk_of (n := 63) (k := 20) (x := "_law_script") (CX := fun _ => CX0) (sp := fun w => spLaw (K w.params)) hn (by decide) hdf ⟨rfl, by decide, by decide⟩ hY F (fun _ _ a ns hl _ hS => ⟨a, ns, rfl, hS, hl, fun _ => rfl⟩) fun _ _ _ _ _ z => z
end Sq

open PySem PySem.W PyProof.Rows
section
set_option hygiene false
local macro_rules | `(tactic| kernel_rfl) => `(tactic| (rename_i w0; with_reducible refine Sq.splitRun ?_ (Sq.splitRun ?_ ?_); exact r1 w0; (unfold PySem.W.openGood; refine Sq.splitF rfl ?_ ?_; exact r2 w0; refine Sq.splitF rfl ?_ ?_; exact r3 w0; refine Sq.splitF rfl ?_ ?_; exact r4 w0; refine Sq.splitF rfl ?_ ?_; exact r5 w0; exact r6 w0); exact r7 w0))
set_option maxRecDepth 100000 in
set_option maxHeartbeats 0 in
@[reducible] noncomputable def Sq.hd : Sq.RunP PySem.Challenge.rw_seriessquares_k16_square_has.Holds := by
  apply Sq.runP
  intro r1 r2 r3 r4 r5 r6 r7
  w_on; o_law; k_headL; (case hw => w_witness2)
  k_fill
  refine Sq.walk (l := PySem.Challenge.rw_seriessquares_k16_square_has) rfl rfl (fun w h Y => PySem.W.kIn_of Y) ?F
  case F =>
    intro w mg fa h KX G hmg
    refine' Sq.all_mk KX G hmg ?ala ?lla ?cla ?kla ?aF ?pgF ?hdF ?poF ?saF ?mkF ?kcF ?nF_prime ?q1F ?q2F ?q3F ?afinit ?lfinit ?cfinit ?kfinit ?ifinit ?efinit ?aP ?pgP ?hdP ?poP ?saP ?mkP ?kcP ?nP_field ?nP_coefficients ?nP_degree ?q1P ?q2P ?q3P ?apinit ?lpinit ?cpinit ?kpinit ?ipinit ?aFr ?pgFr ?hdFr ?poFr ?saFr ?mkFr ?kcFr ?nFr_field ?nFr_top ?nFr_bottom ?nFr_degrees ?q1Fr ?q2Fr ?afrinit ?lfrinit ?cfrinit ?kfrinit ?ifrinit ?aSq ?pgSq ?hdSq ?poSq ?saSq ?mkSq ?kcSq ?nSq_m ?nSq_n ?nSq_size ?nSq_closed ?nSq_fraction ?q1Sq ?q2Sq ?q3Sq ?asqinit ?lsqinit ?csqinit ?ksqinit ?isqinit ?afrneg ?lfrneg ?cfrneg ?kfrneg ?ifrneg ?afreq ?lfreq ?cfreq ?kfreq ?ifreq ?asqeq ?lsqeq ?csqeq ?ksqeq ?isqeq ?ahas ?lhas ?chas ?khas ?ihas ?z_len ?z_abs ?z_int ?z_range ?z_isinstance ?z_list ?z_tuple ?z_bool ?y5 ?y6 ?aRd ?pgRd ?hdRd ?poRd ?saRd ?mkRd ?kcRd ?nRd_row ?q1Rd ?q2Rd ?q3Rd ?wRd_list ?wSq_tuple ?wSq_NoneType ?wSq_Fr ?wSq_Sq ?nf_Sq_tuple ?nf_Sq_NoneType ?nf_Sq_Fr ?aS ?xLS ?n1S ?n2S ?n3S ?aNF ?xLNF ?x3NF ?x4NF ?x2NF ?n1NF ?n2NF ?n3NF ?g_GREATEST_PRIME ?aisint ?lisint ?cisint ?kisint ?aisprime ?lisprime ?cisprime ?kisprime ?g_isqrt ?aR ?pgR ?hdR ?poR ?saR ?mkR ?kcR ?nR_top ?nR_bottom ?q1R ?q2R ?q3R ?areq ?lreq ?creq ?kreq ?ireq ?nf_R_int ?wR_int ?wR_bool ?w_int ?w_str ?w_NoneType ?aPL ?x3PL ?aplaceInit ?lplaceInit ?cplaceInit ?kplaceInit ?xLPL ?x1PL ?x2PL ?x4PL ?x5PL ?x6PL ?arow ?lrow ?crow ?krow ?cvP ?rdP ?gaP ?aisseq ?lisseq ?cisseq ?kisseq ?afnum ?lfnum ?cfnum ?kfnum ?ifnum ?ataken ?ltaken ?ctaken ?ktaken ?aNN ?xLNN ?x3NN ?x4NN ?x2NN ?x7NN ?y8NN ?n1NN ?n2NN ?n3NN ?afover ?lfover ?cfover ?kfover ?ifover ?aisnum ?lisnum ?cisnum ?kisnum ?aratioInit ?lratioInit ?cratioInit ?kratioInit ?iratioInit ?eratioInit ?aasratio ?lasratio ?casratio ?kasratio ?aN ?x3N ?anoRatioInit ?lnoRatioInit ?cnoRatioInit ?knoRatioInit ?xLN ?x1N ?x2N ?x4N ?x5N ?x6N ?g_gcd ?ainverse ?linverse ?cinverse ?kinverse ?wP_int ?wP_R ?wP_P ?aSt ?pgSt ?hdSt ?poSt ?saSt ?mkSt ?kcSt ?nSt_poly ?q1St ?q2St ?q3St ?wSt_P ?wSt_St ?aFR ?x3FR ?awordInit ?lwordInit ?cwordInit ?kwordInit ?xLFR ?x1FR ?x2FR ?x4FR ?x5FR ?x6FR ?apfdiv ?lpfdiv ?cpfdiv ?kpfdiv ?ipfdiv ?apcoef ?lpcoef ?cpcoef ?kpcoef ?ipcoef ?apmul ?lpmul ?cpmul ?kpmul ?ipmul ?alow ?llow ?clow ?klow ?afeq ?lfeq ?cfeq ?kfeq ?ifeq ?asame ?lsame ?csame ?ksame ?wF_int ?aOF ?xLOF ?x3OF ?x4OF ?x2OF ?n1OF ?n2OF ?n3OF ?neF ?apgcd ?lpgcd ?cpgcd ?kpgcd ?awhole ?lwhole ?cwhole ?kwhole ?g_lcm ?acommon ?lcommon ?ccommon ?kcommon ?ashort ?lshort ?cshort ?kshort ?acontent ?lcontent ?ccontent ?kcontent ?adiv ?ldiv ?cdiv ?kdiv ?z_zip ?z_reversed ?atrimmed ?ltrimmed ?ctrimmed ?ktrimmed ?aapart ?lapart ?capart ?kapart ?g_SIGHTING_PRIME ?ard ?lrd ?crd ?krd ?ird ?apolyof ?lpolyof ?cpolyof ?kpolyof ?anums ?lnums ?cnums ?knums ?arover ?lrover ?crover ?krover ?irover ?sf_P ?adivd ?ldivd ?cdivd ?kdivd ?idivd ?aNC ?xLNC ?x3NC ?x4NC ?x2NC ?n1NC ?n2NC ?n3NC ?i1mult ?i2mult ?ar_P_Mult ?wR_R ?sf_R ?af_R_Mult ?if_R_Mult ?ar_R_Mult ?aisop ?lisop ?cisop ?kisop ?aasp ?lasp ?casp ?kasp ?amult ?lmult ?cmult ?kmult ?z_enumerate ?apneg ?lpneg ?cpneg ?kpneg ?ipneg ?astinit ?lstinit ?cstinit ?kstinit ?istinit ?arneg ?lrneg ?crneg ?krneg ?irneg ?apeq ?lpeq ?cpeq ?kpeq ?ipeq ?astate ?lstate ?cstate ?kstate ?alpr ?llpr ?clpr ?klpr ?adraw ?ldraw ?cdraw ?kdraw ?alip ?llip ?clip ?klip ?alfrac ?llfrac ?clfrac ?klfrac ?aunit ?lunit ?cunit ?kunit ?anumber ?lnumber ?cnumber ?knumber ?apair ?lpair ?cpair ?kpair ?agcd ?lgcd ?cgcd ?kgcd ?asmall ?lsmall ?csmall ?ksmall ?alpoly ?llpoly ?clpoly ?klpoly ?apassed ?lpassed ?cpassed ?kpassed ?agiven ?lgiven ?cgiven ?kgiven
    (case ala => k_is)
    (case lla => k_is)
    (case cla => k_is)
    (case kla => k_is)
    (case aF => k_is)
    (case pgF => k_is)
    (case hdF => k_is)
    (case poF => k_is)
    (case saF => k_is)
    (case mkF => k_is)
    (case kcF => k_is)
    (case nF_prime => k_is)
    (case q1F => k_is)
    (case q2F => k_is)
    (case q3F => k_is)
    (case afinit => k_is)
    (case lfinit => k_is)
    (case cfinit => k_is)
    (case kfinit => k_is)
    (case ifinit => k_is)
    (case efinit => k_is)
    (case aP => k_is)
    (case pgP => k_is)
    (case hdP => k_is)
    (case poP => k_is)
    (case saP => k_is)
    (case mkP => k_is)
    (case kcP => k_is)
    (case nP_field => k_is)
    (case nP_coefficients => k_is)
    (case nP_degree => k_is)
    (case q1P => k_is)
    (case q2P => k_is)
    (case q3P => k_is)
    (case apinit => k_is)
    (case lpinit => k_is)
    (case cpinit => k_is)
    (case kpinit => k_is)
    (case ipinit => k_is)
    (case aFr => k_is)
    (case pgFr => k_is)
    (case hdFr => k_is)
    (case poFr => k_is)
    (case saFr => k_is)
    (case mkFr => k_is)
    (case kcFr => k_is)
    (case nFr_field => k_is)
    (case nFr_top => k_is)
    (case nFr_bottom => k_is)
    (case nFr_degrees => k_is)
    (case q1Fr => k_is)
    (case q2Fr => k_is)
    (case afrinit => k_is)
    (case lfrinit => k_is)
    (case cfrinit => k_is)
    (case kfrinit => k_is)
    (case ifrinit => k_is)
    (case aSq => k_is)
    (case pgSq => k_is)
    (case hdSq => k_is)
    (case poSq => k_is)
    (case saSq => k_is)
    (case mkSq => k_is)
    (case kcSq => k_is)
    (case nSq_m => k_is)
    (case nSq_n => k_is)
    (case nSq_size => k_is)
    (case nSq_closed => k_is)
    (case nSq_fraction => k_is)
    (case q1Sq => k_is)
    (case q2Sq => k_is)
    (case q3Sq => k_is)
    (case asqinit => k_is)
    (case lsqinit => k_is)
    (case csqinit => k_is)
    (case ksqinit => k_is)
    (case isqinit => k_is)
    (case afrneg => k_is)
    (case lfrneg => k_is)
    (case cfrneg => k_is)
    (case kfrneg => k_is)
    (case ifrneg => k_is)
    (case afreq => k_is)
    (case lfreq => k_is)
    (case cfreq => k_is)
    (case kfreq => k_is)
    (case ifreq => k_is)
    (case asqeq => k_is)
    (case lsqeq => k_is)
    (case csqeq => k_is)
    (case ksqeq => k_is)
    (case isqeq => k_is)
    (case ahas => k_is)
    (case lhas => k_is)
    (case chas => k_is)
    (case khas => k_is)
    (case ihas => k_is)
    (case z_len => k_is)
    (case z_abs => k_is)
    (case z_int => k_is)
    (case z_range => k_is)
    (case z_isinstance => k_is)
    (case z_list => k_is)
    (case z_tuple => k_is)
    (case z_bool => k_is)
    (case y5 => k_is)
    (case y6 => k_is)
    (case aRd => k_is)
    (case pgRd => k_is)
    (case hdRd => k_is)
    (case poRd => k_is)
    (case saRd => k_is)
    (case mkRd => k_is)
    (case kcRd => k_is)
    (case nRd_row => k_is)
    (case q1Rd => k_is)
    (case q2Rd => k_is)
    (case q3Rd => k_is)
    (case wRd_list => k_is)
    (case wSq_tuple => k_is)
    (case wSq_NoneType => k_is)
    (case wSq_Fr => k_is)
    (case wSq_Sq => k_is)
    (case nf_Sq_tuple => k_is)
    (case nf_Sq_NoneType => k_is)
    (case nf_Sq_Fr => k_is)
    (case aS => k_is)
    (case xLS => k_is)
    (case n1S => k_is)
    (case n2S => rfl)
    (case n3S => k_is)
    (case aNF => k_is)
    (case xLNF => k_is)
    (case x3NF => k_is)
    (case x4NF => k_is)
    (case x2NF => k_is)
    (case n1NF => k_is)
    (case n2NF => rfl)
    (case n3NF => k_is)
    (case g_GREATEST_PRIME => k_is)
    (case aisint => k_is)
    (case lisint => k_is)
    (case cisint => k_is)
    (case kisint => k_is)
    (case aisprime => k_is)
    (case lisprime => k_is)
    (case cisprime => k_is)
    (case kisprime => k_is)
    (case g_isqrt => k_is)
    (case aR => k_is)
    (case pgR => k_is)
    (case hdR => k_is)
    (case poR => k_is)
    (case saR => k_is)
    (case mkR => k_is)
    (case kcR => k_is)
    (case nR_top => k_is)
    (case nR_bottom => k_is)
    (case q1R => k_is)
    (case q2R => k_is)
    (case q3R => k_is)
    (case areq => k_is)
    (case lreq => k_is)
    (case creq => k_is)
    (case kreq => k_is)
    (case ireq => k_is)
    (case nf_R_int => k_is)
    (case wR_int => k_is)
    (case wR_bool => k_is)
    (case w_int => k_is)
    (case w_str => k_is)
    (case w_NoneType => k_is)
    (case aPL => k_is)
    (case x3PL => k_is)
    (case aplaceInit => k_is)
    (case lplaceInit => k_is)
    (case cplaceInit => k_is)
    (case kplaceInit => k_is)
    (case xLPL => k_is)
    (case x1PL => k_is)
    (case x2PL => k_is)
    (case x4PL => k_is)
    (case x5PL => k_is)
    (case x6PL => k_is)
    (case arow => k_is)
    (case lrow => k_is)
    (case crow => k_is)
    (case krow => k_is)
    (case cvP => k_is)
    (case rdP => k_is)
    (case gaP => k_is)
    (case aisseq => k_is)
    (case lisseq => k_is)
    (case cisseq => k_is)
    (case kisseq => k_is)
    (case afnum => k_is)
    (case lfnum => k_is)
    (case cfnum => k_is)
    (case kfnum => k_is)
    (case ifnum => k_is)
    (case ataken => k_is)
    (case ltaken => k_is)
    (case ctaken => k_is)
    (case ktaken => k_is)
    (case aNN => k_is)
    (case xLNN => k_is)
    (case x3NN => k_is)
    (case x4NN => k_is)
    (case x2NN => k_is)
    (case x7NN => k_is)
    (case y8NN => k_is)
    (case n1NN => k_is)
    (case n2NN => rfl)
    (case n3NN => k_is)
    (case afover => k_is)
    (case lfover => k_is)
    (case cfover => k_is)
    (case kfover => k_is)
    (case ifover => k_is)
    (case aisnum => k_is)
    (case lisnum => k_is)
    (case cisnum => k_is)
    (case kisnum => k_is)
    (case aratioInit => k_is)
    (case lratioInit => k_is)
    (case cratioInit => k_is)
    (case kratioInit => k_is)
    (case iratioInit => k_is)
    (case eratioInit => k_is)
    (case aasratio => k_is)
    (case lasratio => k_is)
    (case casratio => k_is)
    (case kasratio => k_is)
    (case aN => k_is)
    (case x3N => k_is)
    (case anoRatioInit => k_is)
    (case lnoRatioInit => k_is)
    (case cnoRatioInit => k_is)
    (case knoRatioInit => k_is)
    (case xLN => k_is)
    (case x1N => k_is)
    (case x2N => k_is)
    (case x4N => k_is)
    (case x5N => k_is)
    (case x6N => k_is)
    (case g_gcd => k_is)
    (case ainverse => k_is)
    (case linverse => k_is)
    (case cinverse => k_is)
    (case kinverse => k_is)
    (case wP_int => k_is)
    (case wP_R => k_is)
    (case wP_P => k_is)
    (case aSt => k_is)
    (case pgSt => k_is)
    (case hdSt => k_is)
    (case poSt => k_is)
    (case saSt => k_is)
    (case mkSt => k_is)
    (case kcSt => k_is)
    (case nSt_poly => k_is)
    (case q1St => k_is)
    (case q2St => k_is)
    (case q3St => k_is)
    (case wSt_P => k_is)
    (case wSt_St => k_is)
    (case aFR => k_is)
    (case x3FR => k_is)
    (case awordInit => k_is)
    (case lwordInit => k_is)
    (case cwordInit => k_is)
    (case kwordInit => k_is)
    (case xLFR => k_is)
    (case x1FR => k_is)
    (case x2FR => k_is)
    (case x4FR => k_is)
    (case x5FR => k_is)
    (case x6FR => k_is)
    (case apfdiv => k_is)
    (case lpfdiv => k_is)
    (case cpfdiv => k_is)
    (case kpfdiv => k_is)
    (case ipfdiv => k_is)
    (case apcoef => k_is)
    (case lpcoef => k_is)
    (case cpcoef => k_is)
    (case kpcoef => k_is)
    (case ipcoef => k_is)
    (case apmul => k_is)
    (case lpmul => k_is)
    (case cpmul => k_is)
    (case kpmul => k_is)
    (case ipmul => k_is)
    (case alow => k_is)
    (case llow => k_is)
    (case clow => k_is)
    (case klow => k_is)
    (case afeq => k_is)
    (case lfeq => k_is)
    (case cfeq => k_is)
    (case kfeq => k_is)
    (case ifeq => k_is)
    (case asame => k_is)
    (case lsame => k_is)
    (case csame => k_is)
    (case ksame => k_is)
    (case wF_int => k_is)
    (case aOF => k_is)
    (case xLOF => k_is)
    (case x3OF => k_is)
    (case x4OF => k_is)
    (case x2OF => k_is)
    (case n1OF => k_is)
    (case n2OF => rfl)
    (case n3OF => k_is)
    (case neF => k_is)
    (case apgcd => k_is)
    (case lpgcd => k_is)
    (case cpgcd => k_is)
    (case kpgcd => k_is)
    (case awhole => k_is)
    (case lwhole => k_is)
    (case cwhole => k_is)
    (case kwhole => k_is)
    (case g_lcm => k_is)
    (case acommon => k_is)
    (case lcommon => k_is)
    (case ccommon => k_is)
    (case kcommon => k_is)
    (case ashort => k_is)
    (case lshort => k_is)
    (case cshort => k_is)
    (case kshort => k_is)
    (case acontent => k_is)
    (case lcontent => k_is)
    (case ccontent => k_is)
    (case kcontent => k_is)
    (case adiv => k_is)
    (case ldiv => k_is)
    (case cdiv => k_is)
    (case kdiv => k_is)
    (case z_zip => k_is)
    (case z_reversed => k_is)
    (case atrimmed => k_is)
    (case ltrimmed => k_is)
    (case ctrimmed => k_is)
    (case ktrimmed => k_is)
    (case aapart => k_is)
    (case lapart => k_is)
    (case capart => k_is)
    (case kapart => k_is)
    (case g_SIGHTING_PRIME => k_is)
    (case ard => k_is)
    (case lrd => k_is)
    (case crd => k_is)
    (case krd => k_is)
    (case ird => k_is)
    (case apolyof => k_is)
    (case lpolyof => k_is)
    (case cpolyof => k_is)
    (case kpolyof => k_is)
    (case anums => k_is)
    (case lnums => k_is)
    (case cnums => k_is)
    (case knums => k_is)
    (case arover => k_is)
    (case lrover => k_is)
    (case crover => k_is)
    (case krover => k_is)
    (case irover => k_is)
    (case sf_P => k_is)
    (case adivd => k_is)
    (case ldivd => k_is)
    (case cdivd => k_is)
    (case kdivd => k_is)
    (case idivd => k_is)
    (case aNC => k_is)
    (case xLNC => k_is)
    (case x3NC => k_is)
    (case x4NC => k_is)
    (case x2NC => k_is)
    (case n1NC => k_is)
    (case n2NC => rfl)
    (case n3NC => k_is)
    (case i1mult => k_is)
    (case i2mult => k_is)
    (case ar_P_Mult => k_is)
    (case wR_R => k_is)
    (case sf_R => k_is)
    (case af_R_Mult => k_is)
    (case if_R_Mult => k_is)
    (case ar_R_Mult => k_is)
    (case aisop => k_is)
    (case lisop => k_is)
    (case cisop => k_is)
    (case kisop => k_is)
    (case aasp => k_is)
    (case lasp => k_is)
    (case casp => k_is)
    (case kasp => k_is)
    (case amult => k_is)
    (case lmult => k_is)
    (case cmult => k_is)
    (case kmult => k_is)
    (case z_enumerate => k_is)
    (case apneg => k_is)
    (case lpneg => k_is)
    (case cpneg => k_is)
    (case kpneg => k_is)
    (case ipneg => k_is)
    (case astinit => k_is)
    (case lstinit => k_is)
    (case cstinit => k_is)
    (case kstinit => k_is)
    (case istinit => k_is)
    (case arneg => k_is)
    (case lrneg => k_is)
    (case crneg => k_is)
    (case krneg => k_is)
    (case irneg => k_is)
    (case apeq => k_is)
    (case lpeq => k_is)
    (case cpeq => k_is)
    (case kpeq => k_is)
    (case ipeq => k_is)
    (case astate => k_is)
    (case lstate => k_is)
    (case cstate => k_is)
    (case kstate => k_is)
    (case alpr => k_is)
    (case llpr => k_is)
    (case clpr => k_is)
    (case klpr => k_is)
    (case adraw => k_is)
    (case ldraw => k_is)
    (case cdraw => k_is)
    (case kdraw => k_is)
    (case alip => k_is)
    (case llip => k_is)
    (case clip => k_is)
    (case klip => k_is)
    (case alfrac => k_is)
    (case llfrac => k_is)
    (case clfrac => k_is)
    (case klfrac => k_is)
    (case aunit => k_is)
    (case lunit => k_is)
    (case cunit => k_is)
    (case kunit => k_is)
    (case anumber => k_is)
    (case lnumber => k_is)
    (case cnumber => k_is)
    (case knumber => k_is)
    (case apair => k_is)
    (case lpair => k_is)
    (case cpair => k_is)
    (case kpair => k_is)
    (case agcd => k_is)
    (case lgcd => k_is)
    (case cgcd => k_is)
    (case kgcd => k_is)
    (case asmall => k_is)
    (case lsmall => k_is)
    (case csmall => k_is)
    (case ksmall => k_is)
    (case alpoly => k_is)
    (case llpoly => k_is)
    (case clpoly => k_is)
    (case klpoly => k_is)
    (case apassed => k_is)
    (case lpassed => k_is)
    (case cpassed => k_is)
    (case kpassed => k_is)
    (case agiven => k_is)
    (case lgiven => k_is)
    (case cgiven => k_is)
    (case kgiven => k_is)
end
set_option maxHeartbeats 0
theorem Sq.runs_1 : ∀ w : World, Sq.hd.1 w := fun w => cast (by kernel_rfl : Sq.hd0.1 w = Sq.hd.1 w) (Sq.run_1 w)
theorem Sq.runs_2 : ∀ w : World, Sq.hd.2.1 w := fun w => cast (by kernel_rfl : Sq.hd0.2.1 w = Sq.hd.2.1 w) (Sq.run_2 w)
theorem Sq.runs_3 : ∀ w : World, Sq.hd.2.2.1 w := fun w => cast (by kernel_rfl : Sq.hd0.2.2.1 w = Sq.hd.2.2.1 w) (Sq.run_3 w)
theorem Sq.runs_4 : ∀ w : World, Sq.hd.2.2.2.1 w := fun w => cast (by kernel_rfl : Sq.hd0.2.2.2.1 w = Sq.hd.2.2.2.1 w) (Sq.run_4 w)
theorem Sq.runs_5 : ∀ w : World, Sq.hd.2.2.2.2.1 w := fun w => cast (by kernel_rfl : Sq.hd0.2.2.2.2.1 w = Sq.hd.2.2.2.2.1 w) (Sq.run_5 w)
theorem Sq.runs_6 : ∀ w : World, Sq.hd.2.2.2.2.2.1 w := fun w => cast (by kernel_rfl : Sq.hd0.2.2.2.2.2.1 w = Sq.hd.2.2.2.2.2.1 w) (Sq.run_6 w)
theorem Sq.runs_7 : ∀ w : World, Sq.hd.2.2.2.2.2.2.1 w := fun w => cast (by kernel_rfl : Sq.hd0.2.2.2.2.2.2.1 w = Sq.hd.2.2.2.2.2.2.1 w) (Sq.run_7 w)
theorem PySem.Challenge.cw_seriessquares_k16_square_has_holds : PySem.Challenge.rw_seriessquares_k16_square_has.Holds :=
  Sq.hd.2.2.2.2.2.2.2 Sq.runs_1 Sq.runs_2 Sq.runs_3 Sq.runs_4 Sq.runs_5 Sq.runs_6 Sq.runs_7

