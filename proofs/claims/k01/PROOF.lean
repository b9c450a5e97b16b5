import PyProof.Rows.All
import Wide.All
import OpenK.AllK
import Wide.FinOn
import HandS.ForMost
import HandS.ForExc
import HandS.Codes
import HandS.Wide
import HandS.Gcd
import HandS.Flow
import HandS.IsInst
import HandS.ExcInit
import HandS.ExcField
import HandS.ExcIs
import HandS.Defaults
import HandS.MakeKw
import HandS.EndBits
import KE.KExcIs
import HandS.MakeKwOnly
import PySem.Challenge.RW_seriessquares_k01_ratio_made
set_option Elab.async false
set_option linter.all false
set_option maxRecDepth 100000
set_option maxHeartbeats 4000000
namespace Sq
open PySem L2
def top (i : Nat) : Stmt := PySem.Challenge.pw_seriessquares_k01_ratio_made.main.body.getD i (.Pass ⟨0, 0, 0, 0⟩)
abbrev s_state : Stmt := top 14
abbrev s_draw : Stmt := top 15
abbrev s_gcd : Stmt := top 16
abbrev s_lisint : Stmt := top 17
abbrev s_great : Stmt := top 18
/-- the heap stands but at p -/
def But (p : Addr) (H H' : Hp) : Prop := ∀ b o, H b = some o → b ≠ p → H' b = some o
theorem But.refl (p : Addr) (H : Hp) : But p H H := fun _ _ h _ => h
theorem But.trans {p : Addr} {H H1 H2 : Hp} (a : But p H H1) (b : But p H1 H2) : But p H H2 := fun c o h n => b c o (a c o h n) n
theorem But.upd {p : Addr} {H H1 : Hp} {o : HO} (a : But p H H1) : But p H (upd H1 p o) := fun c u h n => (upd_ne n).trans (a c u h n)
theorem But.new {p q : Addr} {H H1 : Hp} {o : HO} (a : But p H H1) (n : H1 q = none) : But p H (L2.upd H1 q o) := fun c u h nc => (upd_ne (ne_of_none (a c u h nc) n)).trans (a c u h nc)
theorem Same.but {p : Addr} {H H1 : Hp} (a : Same H H1) : But p H H1 := fun c u h _ => a c u h
/-- the five things of the state, and the script's ints -/
def St5 (H : Hp) (p a : Addr) (ns : List Int) (i l m c : Int) : Prop := H p = some (.lst [.ref a, .int i, .int l, .int m, .int c]) ∧ H a = some (.lst (ns.map V.int)) ∧ a ≠ p ∧ 0 ≤ i ∧ 0 ≤ m ∧ m < 2147483648
def StAt (H : Hp) (p : Addr) : Prop := ∃ a ns i l m c, St5 H p a ns i l m c
def spDraw : Sp := fun vs H Q _ => ∃ (p : Addr) (n : Int), vs = [.ref p, .int n] ∧ 0 < n ∧ n < 1073741824 ∧ StAt H p ∧ ∀ v H', 0 ≤ v → v < n → StAt H' p → But p H H' → Q (.int v) H'
theorem St5.set {H : Hp} {p a : Addr} {ns : List Int} {i l m c : Int} (S : St5 H p a ns i l m c) {i' l' m' c' : Int} (h0 : 0 ≤ i') (h1 : 0 ≤ m') (h2 : m' < 2147483648) :
    St5 (upd H p (.lst [.ref a, .int i', .int l', .int m', .int c'])) p a ns i' l' m' c' := ⟨upd_same, (upd_ne S.2.2.1).trans S.2.1, S.2.2.1, h0, h1, h2⟩
structure DTx (mg : Str → Option Value) : Prop where
  b_len : mg "len" = none
  b_abs : mg "abs" = none
  b_int : mg "int" = none
  b_range : mg "range" = none
section
variable {P : Program} {w : World} {K : PySem.W.Frag} {mg : Str → Option Value} {base : Heap}
theorem sc_draw : FnScope ["_law_state_here", "_law_many", "_law_item", "_law_found", "_law_twice"] ["_law_state_here", "_law_many"] (defScope s_draw) := ⟨rfl, rfl, rfl, by decide +kernel, rfl, by decide +kernel, by decide +kernel⟩
theorem ok_draw {f : Addr} {fd : FuncData} (F : Fun K "_law_draw" "_law_draw" s_draw f fd) (T : DTx mg) : FnOk P w K mg base CX0 1 f fd ["_law_state_here", "_law_many"] spDraw := by
  refine F.ok sc_draw (fun vs H Q E h => ?_) (fun cdv A outer s H vs Q E hr h => ?_)
  · obtain ⟨p, n, rfl, _⟩ := h
    rfl
  · obtain ⟨p, n, rfl, hn0, hn1, ⟨a, ns, i, l, m, c, S⟩, k⟩ := h
    refine ⟨_, (C8.pss_cut (ps_asg (pe_op op_add (pe_ix ix_list (pv 0) pe_int (fun _ _ => rfl)) pe_int) (pg_sub (pv 0) pe_int set_list))
      (C8.pss_cut (ps_if (PW.pt (pw_and (pt_cmpR op_le (pe_ix ix_list (pv 0) pe_int (fun _ _ => rfl)) pe_int (nomark _)) (pw_and1 (pt_cmpR op_lt (pe_ix ix_list (pv 0) pe_int (fun _ _ => rfl)) (pe_callB call_len_seq (by rfl) T.b_len (by decide +kernel) (pa_cons (pe_ix ix_list (pv 0) pe_int (fun _ _ => rfl)) pa_nil)) (nomark _)))))
        (pss_cons (ps_set (i := 2) sc_draw.nd rfl (Or.inl rfl) (pe_ix ix_list (pe_ix ix_list (pv 0) pe_int (fun _ _ => rfl)) (pe_ix ix_list (pv 0) pe_int (fun _ _ => rfl)) (fun _ _ => rfl)))
      (pss_cons (ps_asg (pe_op op_add (pe_ix ix_list (pv 0) pe_int (fun _ _ => rfl)) pe_int) (pg_sub (pv 0) pe_int set_list))
      (pss_one (ps_if (pt_cmpR op_ge (pe_callB call_abs (by rfl) T.b_abs (by decide +kernel) (pa_cons (pv 2) pa_nil)) (pe_op op_pow pe_int pe_int) (nomark _))
        (pss_one (ps_asg (pe_callB call_abs (by rfl) T.b_abs (by decide +kernel) (pa_cons (pv 2) pa_nil)) (pg_sub (pv 0) pe_int set_list)))
        (pss_cons (ps_asg pe_int (pg_sub (pv 0) pe_int set_list))
      (pss_one (ps_asg (pe_op op_mod (pe_callTy call_int1 (by rfl) T.b_int (by decide +kernel) (pa_cons (pe_op op_add (pe_op op_add (pe_op op_mul (pe_ix ix_list (pv 0) pe_int (fun _ _ => rfl)) pe_int) (pv 2)) (pe_op op_mul pe_int (pe_ix ix_list (pv 0) pe_int (fun _ _ => rfl)))) pa_nil)) pe_int) (pg_sub (pv 0) pe_int set_list))))))))
        pss_nil)
      (pss_cons (ps_if (pt_cmpR op_gt (pe_ix ix_list (pv 0) pe_int (fun _ _ => rfl)) pe_int (nomark _))
        (pss_cons (ps_set (i := 3) sc_draw.nd rfl (Or.inl rfl) (pe_op op_mod (pe_callTy call_int1 (by rfl) T.b_int (by decide +kernel) (pa_cons (pe_ix ix_list (pv 0) pe_int (fun _ _ => rfl)) pa_nil)) (pv 1)))
      (pss_cons (ps_asg (pe_op op_fdiv (pe_ix ix_list (pv 0) pe_int (fun _ _ => rfl)) (pv 1)) (pg_sub (pv 0) pe_int set_list))
      (pss_one (ps_ret (pv 3)))))
        pss_nil)
      (pss_cons (ps_asg (pe_op op_mod (pe_callTy call_int1 (by rfl) T.b_int (by decide +kernel) (pa_cons (pe_op op_add (pe_op op_add (pe_op op_mul (pe_ix ix_list (pv 0) pe_int (fun _ _ => rfl)) pe_int) (pe_op op_mul pe_int (pe_ix ix_list (pv 0) pe_int (fun _ _ => rfl)))) pe_int) pa_nil)) pe_int) (pg_sub (pv 0) pe_int set_list))
      (pss_cons (ps_set (i := 4) sc_draw.nd rfl (Or.inl rfl) (pe_op op_mod (pe_callTy call_int1 (by rfl) T.b_int (by decide +kernel) (pa_cons (pe_op op_mul (pe_ix ix_list (pv 0) pe_int (fun _ _ => rfl)) (pe_op op_add (pe_op op_fdiv (pe_ix ix_list (pv 0) pe_int (fun _ _ => rfl)) pe_int) pe_int)) pa_nil)) pe_int))
      (pss_one (ps_ret (pe_op op_mod (pe_op op_fdiv (pv 4) pe_int) (pv 1))))))))), ?_⟩
    obtain ⟨hp, ha, hap, h0, h1, h2⟩ := id S
    -- the count
    refine ⟨fun σ H' => σ = [some (.ref p), some (.int n), none, none, none] ∧ St5 H' p a ns i l m (c + 1) ∧ But p H H', ⟨_, rfl, _, _, _, _, rfl, rfl, SqL.of hp, rfl, _, _, rfl, rfl, _, rfl, _, _, _, _, rfl, rfl, hp, rfl, rfl, S.set h0 h1 h2, (But.refl _ _).upd⟩, ?_⟩
    rintro σ H1 ⟨rfl, S1, B1⟩
    obtain ⟨hp1, ha1, _⟩ := id S1
    -- the next number of the script
    refine ⟨fun σ H' => ∃ v2, σ = [some (.ref p), some (.int n), v2, none, none] ∧ (∃ i l m, St5 H' p a ns i l m (c + 1)) ∧ But p H H', ?_, ?_⟩
    · refine ⟨_, rfl, _, _, _, _, rfl, rfl, SqL.of hp1, rfl, _, _, rfl, rfl, _, rfl, ?_⟩
      refine ite2 (fun c1 => ?_) (fun c1 => iteF ⟨none, rfl, ⟨i, l, m, S1⟩, B1⟩)
      refine ⟨_, rfl, _, _, _, _, rfl, rfl, SqL.of hp1, rfl, _, rfl, _, _, _, _, rfl, rfl, SqL.of hp1, rfl, _, _, rfl, .inl (SqL.of ha1), _, _, rfl, rfl, _, rfl, ?_⟩
      refine ite2 (fun c2 => ?_) (fun c2 => ⟨none, rfl, ⟨i, l, m, S1⟩, B1⟩)
      have c2' : i.toNat < ns.length := by
        have := of_decide_eq_true c2
        rw [List.length_map] at this
        omega
      have hz : (ns.map V.int)[i.toNat]? = some (V.int ns[i.toNat]) := by
        rw [List.getElem?_map, List.getElem?_eq_getElem c2']
        rfl
      refine ⟨_, rfl, _, _, _, _, rfl, rfl, SqL.of hp1, rfl, _, rfl, _, _, _, _, rfl, rfl, SqL.of hp1, rfl, _, _, _, _, rfl, rfl, SqL.of ha1, at_of (j := i.toNat) (by omega) hz, ?_⟩
      generalize ns[i.toNat] = z
      refine ⟨_, rfl, _, _, _, _, rfl, rfl, SqL.of hp1, rfl, _, _, rfl, rfl, _, rfl, _, _, _, _, rfl, rfl, hp1, rfl, ?_⟩
      have S2 := S1.set (i' := i + 1) (l' := l) (m' := m) (c' := c + 1) (by omega) h1 h2
      refine ⟨_, rfl, _, rfl, _, _, rfl, rfl, ⟨by decide, by decide, by decide⟩, _, _, rfl, rfl, _, rfl, ?_⟩
      refine ite2 (fun c3 => ?_) (fun c3 => ?_)
      · refine ⟨_, rfl, _, rfl, _, rfl, _, _, _, _, rfl, rfl, S2.1, rfl, ?_⟩
        exact ⟨_, rfl, ⟨_, _, _, S2.set (by omega) h1 h2⟩, B1.upd.upd⟩
      · refine ⟨_, rfl, _, _, _, _, rfl, rfl, S2.1, rfl, ?_⟩
        have S3 := S2.set (i' := i + 1) (l' := 0) (m' := m) (c' := c + 1) (by omega) h1 h2
        refine ⟨_, rfl, _, _, _, _, rfl, rfl, SqL.of S3.1, rfl, _, _, rfl, rfl, .inr (by decide), _, rfl, _, _, rfl, rfl, _, rfl, _, _, _, _, rfl, rfl, SqL.of S3.1, rfl, _, _, rfl, rfl, .inl (by decide), _, _, rfl, rfl, .inl ⟨_, rfl, ?_⟩⟩
        refine ⟨_, _, rfl, rfl, (by show (0 : Int) < 2147483629; decide), _, rfl, _, _, _, _, rfl, rfl, S3.1, rfl, ?_⟩
        exact ⟨_, rfl, ⟨_, _, _, S3.set (by omega) (Int.emod_nonneg _ (by decide)) (Int.lt_trans (Int.emod_lt_of_pos _ (by decide)) (by decide))⟩, B1.upd.upd.upd⟩
    · rintro σ H2 ⟨v2, rfl, ⟨i, l, m, S2⟩, B2⟩
      obtain ⟨hp2, ha2, hap2, h02, h12, h22⟩ := id S2
      refine ⟨_, rfl, _, _, _, _, rfl, rfl, SqL.of hp2, rfl, _, _, rfl, rfl, _, rfl, ?_⟩
      refine ite2 (fun c1 => ?_) (fun c1 => ?_)
      · refine ⟨_, rfl, _, _, _, _, rfl, rfl, SqL.of hp2, rfl, .inl ⟨_, rfl, _, rfl, _, _, rfl, rfl, hn0, ?_⟩⟩
        refine ⟨_, rfl, _, _, _, _, rfl, rfl, SqL.of hp2, rfl, _, rfl, _, _, rfl, rfl, ⟨hn0, hn1⟩, _, rfl, _, _, _, _, rfl, rfl, hp2, rfl, ?_⟩
        exact ⟨_, rfl, k _ _ (Int.emod_nonneg _ (by omega)) (Int.emod_lt_of_pos _ hn0) ⟨a, ns, _, _, _, _, S2.set h02 h12 h22⟩ B2.upd⟩
      · refine ⟨_, rfl, _, _, _, _, rfl, rfl, SqL.of hp2, rfl, _, _, rfl, rfl, .inr (by decide), _, rfl, _, _, _, _, rfl, rfl, SqL.of hp2, rfl, _, _, rfl, rfl, .inl (by decide), _, _, rfl, rfl, _, _, rfl, rfl, .inl ⟨_, rfl, ?_⟩⟩
        refine ⟨_, _, rfl, rfl, (by show (0 : Int) < 2147483647; decide), _, rfl, _, _, _, _, rfl, rfl, hp2, rfl, ?_⟩
        have m0 : 0 ≤ (m * 48271 + 7919 * (c + 1) + 1) % 2147483647 := Int.emod_nonneg _ (by decide)
        have m1 : (m * 48271 + 7919 * (c + 1) + 1) % 2147483647 < 2147483647 := Int.emod_lt_of_pos _ (by decide)
        have S3 := S2.set (i' := i) (l' := l) (m' := (m * 48271 + 7919 * (c + 1) + 1) % 2147483647) (c' := c + 1) h02 m0 (by omega)
        refine ⟨_, rfl, _, _, _, _, rfl, rfl, SqL.of S3.1, rfl, _, rfl, _, _, _, _, rfl, rfl, SqL.of S3.1, rfl, _, _, rfl, rfl, ⟨by decide, by decide⟩, _, _, rfl, rfl, _, _, rfl, rfl, .inl ⟨Int.lt_of_lt_of_le (by decide) m0, Int.lt_trans m1 (by decide)⟩, .inl ⟨_, rfl, ?_⟩⟩
        refine ⟨_, _, rfl, rfl, (by show (0 : Int) < 2147483399; decide), ?_⟩
        refine ⟨_, rfl, _, _, rfl, rfl, ⟨by decide, by decide⟩, _, rfl, _, _, rfl, rfl, hn0, ?_⟩
        exact k _ _ (Int.emod_nonneg _ (by omega)) (Int.emod_lt_of_pos _ hn0) ⟨a, ns, _, _, _, _, S3⟩ B2.upd
end
end Sq

namespace Sq
open PySem L2
/-- the state is made: the items' list is a new one -/
def spState (K : PySem.W.Frag) : Sp := fun vs H Q _ => ∃ (s : Addr) (ns : List Int), vs = [.ref s] ∧ SqL K H s (ns.map V.int) ∧ ns.length ≤ 63 ∧ ∀ p H', H p = none → StAt H' p → Same H H' → Q (.ref p) H'
theorem same_new {H H1 : Hp} {q : Addr} {o : HO} (a : Same H H1) (n : H1 q = none) : Same H (L2.upd H1 q o) := fun c u h => (upd_ne (ne_of_none (a c u h) n)).trans (a c u h)
theorem same_at {H H1 : Hp} {q : Addr} {o : HO} (a : Same H H1) (n : H q = none) : Same H (L2.upd H1 q o) := fun c u h => (upd_ne (ne_of_none h n)).trans (a c u h)
theorem take_map (ns : List Int) (k : Nat) : cutV (ns.map V.int) none (some ((k : Nat) : Int)) = (ns.take k).map V.int := by
  unfold cutV
  rw [HT.sIx_none, HT.sIx_nat, List.drop_zero, List.length_map, List.map_take]
  rw [Nat.sub_zero]
  by_cases h : k ≤ ns.length
  · rw [Nat.min_eq_left h]
  · rw [Nat.min_eq_right (by omega), List.take_of_length_le (by simp), List.take_of_length_le (by simp; omega)]
theorem map_get {ns : List Int} {i : Nat} {y : V} (hi : (ns.map V.int)[i]? = some y) : ∃ z, ns[i]? = some z ∧ y = V.int z := by
  rw [List.getElem?_map] at hi
  cases e : ns[i]? with
  | none =>
    rw [e] at hi
    cases hi
  | some z =>
    rw [e] at hi
    exact ⟨z, rfl, (Option.some.inj hi).symm⟩
theorem take_more {α : Type} {l : List α} {i : Nat} {x : α} (h : l[i]? = some x) : l.take (i + 1) = l.take i ++ [x] := by
  rw [List.take_add_one, h]
  rfl
theorem seq_at {K : PySem.W.Frag} {H : Hp} {a b : Addr} {xs : List V} {o : HO} (h : SqL K H a xs) (n : b ≠ a) : SqL K (upd H b o) a xs := by
  rcases h with (h | ⟨o, h⟩) | h
  · exact .inl (.inl ((upd_ne n.symm).trans h))
  · exact .inl (.inr ⟨o, (upd_ne n.symm).trans h⟩)
  · exact .inr h
section
variable {P : Program} {w : World} {K : PySem.W.Frag} {mg : Str → Option Value} {base : Heap}
theorem sc_state : FnScope ["_law_script", "_law_items", "_law_item"] ["_law_script"] (defScope s_state) := ⟨rfl, rfl, rfl, by decide +kernel, rfl, by decide +kernel, by decide +kernel⟩
theorem ok_state {f : Addr} {fd : FuncData} (F : Fun K "_law_state" "_law_state" s_state f fd) (T : DTx mg) : FnOk P w K mg base CX0 1 f fd ["_law_script"] (spState K) := by
  refine F.ok sc_state (fun vs H Q E h => ?_) (fun cdv A outer s H vs Q E hr h => ?_)
  · obtain ⟨p, n, rfl, _⟩ := h
    rfl
  · obtain ⟨a, ns, rfl, hS, hl, k⟩ := h
    refine ⟨_, pss_cons (ps_setLc (i := 1) (own := [("_law_item", 2)]) (g := gName 2) (tt := tYes) rfl sc_state.nd rfl rfl (sw_true rfl rfl rfl (by decide +kernel))
        (pi_list (pe_slice sl_list (pv 0) po_none (po_some pe_int))) (blkOk_by (N := ["_law_script", "_law_items", "_law_item"]) (sc := defScope s_state) (by decide +kernel)) (fun _ _ _ _ _ => pg_name (i := 2) sc_state.nd rfl (Or.inl rfl)) (fun _ _ _ _ _ => pts_nil)
        (fun _ _ _ _ _ => pe_callTy call_int1 (by rfl) T.b_int (by decide +kernel) (pa_cons (pv 2) pa_nil)))
      (pss_one (ps_ret (pe_lst (pa_cons (pv 1) (pa_cons pe_int (pa_cons pe_int (pa_cons (pe_op op_add pe_int (pe_callB call_len_seq (by rfl) T.b_len (by decide +kernel) (pa_cons (pv 1) pa_nil))) (pa_cons pe_int pa_nil)))))))), ?_⟩
    refine ⟨_, rfl, _, rfl, _, _, rfl, hS, fun q hq => ?_⟩
    have et : cutV (ns.map V.int) none (some 63) = (ns.take 63).map V.int := take_map ns 63
    have hq1 : SqL K (upd H q (.lst (cutV (ns.map V.int) none (some 63)))) q ((ns.take 63).map V.int) := by
      rw [et]
      exact SqL.of upd_same
    refine ⟨_, rfl, ⟨_, hq1⟩, fun D hD => ?_⟩
    have hDq : D ≠ q := fun e => by
      rw [e, upd_same] at hD
      cases hD
    have hDH : H D = none := by
      rw [upd_ne hDq] at hD
      exact hD
    refine lc_list (K := K) (a := q) (xs := (ns.take 63).map V.int) (fun i H' => H' D = some (.lst ((ns.take i).map V.int)) ∧ Same H H' ∧ SqL K H' q ((ns.take 63).map V.int)) ?_ (fun i H' _ h => h.2.2) ?_ ?_
    · refine ⟨by simpa using upd_same, same_new (same_new (Same.refl H) hq) hD, ?_⟩
      exact Same.seq (same_new (Same.refl _) hD) hq1
    · rintro i y H2 hi ⟨hD2, s2, hq2⟩
      obtain ⟨z, hz, rfl⟩ := map_get hi
      refine ⟨rfl, _, rfl, .inl ⟨_, rfl, ?_⟩⟩
      have hi1 : i < (ns.take 63).length := (List.getElem?_eq_some_iff.mp hz).1
      have hi63 : i < 63 := by
        rw [List.length_take] at hi1
        omega
      have hz' : ns[i]? = some z := by
        rw [List.getElem?_take] at hz
        rw [if_pos hi63] at hz
        exact hz
      refine ⟨_, hD2, small1000 (by rw [List.length_map, List.length_take]; omega), ?_, same_at s2 hDH, ?_⟩
      · rw [take_more hz', List.map_append]
        exact upd_same
      · exact seq_at hq2 hDq
    · rintro H2 ⟨hD2, s2, hq2⟩
      refine ⟨_, rfl, _, rfl, _, _, rfl, .inl (SqL.of hD2), _, _, rfl, rfl, (by show 5 ≤ sizeLine; decide), fun p hp => ?_⟩
      have hpD : D ≠ p := ne_of_none hD2 hp
      refine k p _ (s2.free hp) ⟨D, (ns.take 63).take (ns.take 63).length, 0, 0, _, 0, upd_same, (upd_ne hpD).trans ?_, hpD, by omega, by omega, ?_⟩ (same_new s2 hp)
      · rw [hD2, List.take_take, List.length_map]
        congr 4
        simp
      · rw [List.length_map, List.length_take]
        omega
end
end Sq

namespace Sq
open PySem L2
theorem fmod_lt (x : Int) {y : Int} (h : y ≠ 0) : (x.fmod y).natAbs < y.natAbs := by
  have e := Int.fmod_eq_emod (a := x) (b := y)
  have h1 := Int.emod_nonneg x h
  have h2 := Int.emod_lt x h
  by_cases c : 0 ≤ y ∨ y ∣ x
  · rw [if_pos c] at e
    omega
  · rw [if_neg c] at e
    have h3 : ¬ y ∣ x := fun d => c (.inr d)
    have h4 : x % y ≠ 0 := fun z => h3 (Int.dvd_of_emod_eq_zero z)
    omega
theorem gcd_fmod (x y : Int) : Int.gcd y (x.fmod y) = Int.gcd x y := by
  rw [Int.fmod_def, Int.gcd_sub_mul_left_right, Int.gcd_comm]
def spGcd : Sp := fun vs H Q _ => ∃ a b : Int, vs = [.int a, .int b] ∧ Q (.int ((Int.gcd a b : Nat) : Int)) H
/-- is it an int, no bool: for a value whose type is known -/
def isI : V → Bool
  | .int _ => true
  | _ => false
def IsTy (K : PySem.W.Frag) (H : Hp) (x : V) : Prop := ∃ t b1 b2, TyX K H x t ∧ PySem.W.kitOne K t (.type "int") = some b1 ∧ PySem.W.kitOne K t (.type "bool") = some b2 ∧ (b1 && !b2) = isI x
theorem IsTy.int {K : PySem.W.Frag} {H : Hp} (i : Int) : IsTy K H (.int i) := ⟨.type "int", true, false, .base (.int i), kit_ty (by decide +kernel), kit_ty (by decide +kernel), rfl⟩
theorem IsTy.bl {K : PySem.W.Frag} {H : Hp} (i : Bool) : IsTy K H (.bl i) := ⟨.type "bool", true, true, .base (.bl i), kit_ty (by decide +kernel), kit_ty (by decide +kernel), rfl⟩
theorem IsTy.non {K : PySem.W.Frag} {H : Hp} : IsTy K H .non := ⟨.type "NoneType", false, false, .base .non, kit_ty (by decide +kernel), kit_ty (by decide +kernel), rfl⟩
theorem IsTy.str {K : PySem.W.Frag} {H : Hp} (z : Str) : IsTy K H (.str z) := ⟨.type "str", false, false, .base (.str z), kit_ty (by decide +kernel), kit_ty (by decide +kernel), rfl⟩
theorem IsTy.lst {K : PySem.W.Frag} {H : Hp} {a : Addr} {xs : List V} (e : H a = some (.lst xs)) : IsTy K H (.ref a) := ⟨.type "list", false, false, .base (.lst e), kit_ty (by decide +kernel), kit_ty (by decide +kernel), rfl⟩
theorem IsTy.tup {K : PySem.W.Frag} {H : Hp} {a : Addr} {xs : List V} (e : H a = some (.tup xs)) : IsTy K H (.ref a) := ⟨.type "tuple", false, false, .base (.tup e), kit_ty (by decide +kernel), kit_ty (by decide +kernel), rfl⟩
theorem IsTy.dK {K : PySem.W.Frag} {H : Hp} {a : Addr} {xs : List (Key × V)} (e : H a = some (.dK xs)) : IsTy K H (.ref a) := ⟨.type "dict", false, false, .base (.dK e), kit_ty (by decide +kernel), kit_ty (by decide +kernel), rfl⟩
def spIsInt (K : PySem.W.Frag) : Sp := fun vs H Q _ => ∃ x, vs = [x] ∧ IsTy K H x ∧ Q (.bl (isI x)) H
def spGreat : Sp := fun vs H Q _ => ∃ p, vs = [.ref p] ∧ StAt H p ∧ ∀ v H', v.natAbs < 2 ^ 120 → StAt H' p → But p H H' → Q (.int v) H'
structure ITx (mg : Str → Option Value) : Prop where
  b_isinstance : mg "isinstance" = none
  b_int : mg "int" = none
  b_bool : mg "bool" = none
section
variable {P : Program} {w : World} {K : PySem.W.Frag} {mg : Str → Option Value} {base : Heap}
theorem sc_gcd : FnScope ["_law_one", "_law_other"] ["_law_one", "_law_other"] (defScope s_gcd) := ⟨rfl, rfl, rfl, by decide +kernel, rfl, by decide +kernel, by decide +kernel⟩
theorem ok_gcd {f : Addr} {fd : FuncData} (F : Fun K "_law_gcd" "_law_gcd" s_gcd f fd) (T : DTx mg) : FnOk P w K mg base CX0 1 f fd ["_law_one", "_law_other"] spGcd := by
  refine F.ok sc_gcd (fun vs H Q E h => ?_) (fun cdv A outer s H vs Q E hr h => ?_)
  · obtain ⟨a, b, rfl, _⟩ := h
    rfl
  · obtain ⟨a, b, rfl, k⟩ := h
    refine ⟨_, (pss_cons (ps_while PassesOwn.never (pt_cmpR op_ne (pv 1) pe_int (nomark _)) (pss_one (ps_par (i := 0) (j := 1) (by rfl) sc_gcd.nd rfl rfl (by decide) rfl rfl (pa_cons (pv 1) (pa_cons (pe_op op_modN (pe_callTy call_int1 (by rfl) T.b_int (by decide +kernel) (pa_cons (pv 0) pa_nil)) (pv 1)) pa_nil)) (by rfl))))
      (pss_one (ps_ret (pe_callB call_abs (by rfl) T.b_abs (by decide +kernel) (pa_cons (pv 0) pa_nil))))), ?_⟩
    refine while_by (fun σ H' => ∃ x y : Int, σ = [some (.int x), some (.int y)] ∧ Int.gcd x y = Int.gcd a b ∧ H' = H) (fun σ _ => match σ with | [_, some (.int y)] => y.natAbs | _ => 0) ⟨a, b, rfl, rfl, rfl⟩ ?_ ?_
    · rintro σ H' ⟨x, y, rfl, hg, rfl⟩
      refine ⟨_, rfl, rfl, _, rfl, ?_⟩
      refine ite2 (fun c => ?_) (fun c => ?_)
      · have hy : y ≠ 0 := fun e => by
          rw [e] at c
          exact absurd c (by decide)
        refine ⟨_, rfl, _, rfl, .inl ⟨_, rfl, _, rfl, _, _, rfl, rfl, hy, ?_⟩⟩
        exact ⟨_, _, rfl, ⟨_, _, rfl, (gcd_fmod x y).trans hg, rfl⟩, fmod_lt x hy⟩
      · have hy : y = 0 := by
          by_cases e : y = 0
          · exact e
          · exact absurd (by simp [e]) c
        subst hy
        refine ⟨_, rfl, _, rfl, ?_⟩
        rw [← hg] at k
        rw [Int.gcd_zero] at k
        have e : (if x < 0 then -x else x) = ((x.natAbs : Nat) : Int) := by
          split <;> omega
        rw [e]
        exact k
    · rintro σ H' Q1 Q2 hi ⟨v, e, u, z, e2, c⟩
      exact ⟨v, e, u, z, e2, hi _ _ c⟩
theorem sc_lisint : FnScope ["_law_told"] ["_law_told"] (defScope s_lisint) := ⟨rfl, rfl, rfl, by decide +kernel, rfl, by decide +kernel, by decide +kernel⟩
theorem ok_lisint {f : Addr} {fd : FuncData} (F : Fun K "_law_is_integer" "_law_is_integer" s_lisint f fd) (T : ITx mg) : FnOk P w K mg base CX0 1 f fd ["_law_told"] (spIsInt K) := by
  refine F.ok sc_lisint (fun vs H Q E h => ?_) (fun cdv A outer s H vs Q E hr h => ?_)
  · obtain ⟨x, rfl, _⟩ := h
    rfl
  · obtain ⟨x, rfl, ⟨t, b1, b2, ht, h1, h2, h3⟩, k⟩ := h
    refine ⟨_, pss_one (ps_ret (pe_and (pe_callB call_isi (by rfl) T.b_isinstance (by decide +kernel) (pa_cons (pv 0) (pa_cons (pe_bltn (v := .ty "int") (by rfl) T.b_int (by decide +kernel) rfl) pa_nil)))
      (pe_one (pe_not (pe_callB call_isi (by rfl) T.b_isinstance (by decide +kernel) (pa_cons (pv 0) (pa_cons (pe_bltn (v := .ty "bool") (by rfl) T.b_bool (by decide +kernel) rfl) pa_nil))))))), ?_⟩
    refine ⟨_, rfl, _, _, _, _, b1, rfl, .ty _, ht, h1, _, rfl, ?_⟩
    cases b1 with
    | false =>
      refine iteF ?_
      rw [← h3] at k
      exact k
    | true =>
      refine iteT ?_
      refine ⟨_, rfl, _, _, _, _, b2, rfl, .ty _, ht, h2, _, rfl, ?_⟩
      rw [← h3] at k
      exact k
theorem sc_great : FnScope ["_law_state_here", "_law_found", "_law_k"] ["_law_state_here"] (defScope s_great) := ⟨rfl, rfl, rfl, by decide +kernel, rfl, by decide +kernel, by decide +kernel⟩
theorem ok_great {f fD : Addr} {fd fdD : FuncData} (F : Fun K "_law_great" "_law_great" s_great f fd) (T : DTx mg) (G_draw : FnOk P w K mg base CX0 1 fD fdD ["_law_state_here", "_law_many"] spDraw) (m_draw : mg "_law_draw" = some (.ref fD)) (k_draw : PySem.W.keepIn K (.ref fD) = true)
    (b_draw : Binds K fdD ["_law_state_here", "_law_many"] []) : FnOk P w K mg base CX0 2 f fd ["_law_state_here"] spGreat := by
  refine F.ok sc_great (fun vs H Q E h => ?_) (fun cdv A outer s H vs Q E hr h => ?_)
  · obtain ⟨x, rfl, _⟩ := h
    rfl
  · obtain ⟨p, rfl, S, k⟩ := h
    refine ⟨_, (pss_cons (ps_set (i := 1) sc_great.nd rfl (Or.inl rfl) pe_int)
      (pss_cons (ps_for PassesOwn.never rfl (pi_range1 (by rfl) T.b_range (pa_cons (pe_call G_draw hr rfl m_draw k_draw b_draw .nil pass0 (pa_cons (pv 0) (pa_cons pe_int pa_nil))) pa_nil)) (pg_name (i := 2) sc_great.nd rfl (Or.inl rfl)) (pss_one (ps_set (i := 1) sc_great.nd rfl (Or.inl rfl) (pe_op op_add (pe_op op_mul (pv 1) (pe_op op_pow pe_int pe_int)) (pe_call G_draw hr rfl m_draw k_draw b_draw .nil pass0 (pa_cons (pv 0) (pa_cons (pe_op op_pow pe_int pe_int) pa_nil)))))))
      (pss_cons (ps_set (i := 1) sc_great.nd rfl (Or.inl rfl) (pe_op op_add (pv 1) (pe_call G_draw hr rfl m_draw k_draw b_draw .nil pass0 (pa_cons (pv 0) (pa_cons pe_int pa_nil)))))
      (pss_cons (ps_if (pt_cmpR op_eq (pe_call G_draw hr rfl m_draw k_draw b_draw .nil pass0 (pa_cons (pv 0) (pa_cons pe_int pa_nil))) pe_int (nomark _))
        (pss_one (ps_ret (pe_un un_neg (pv 1))))
        pss_nil)
      (pss_one (ps_ret (pv 1))))))), ?_⟩
    refine ⟨_, rfl, p, 5, rfl, by decide, by decide, S, fun v H1 v0 v5 S1 B1 => ⟨v, rfl, by omega, by omega, ?_⟩⟩
    refine for_range (lo := 0) (n := v.toNat) (fun i σ H' => ∃ (u : Int) (z : Option V), σ = [some (.ref p), some (.int u), z] ∧ 0 ≤ u ∧ u < 1000000000 ^ i ∧ StAt H' p ∧ But p H H') ⟨0, none, rfl, by omega, by decide, S1, B1⟩ ?_ ?_
    · rintro i σ H2 hi ⟨u, z, rfl, u0, u1, S2, B2⟩
      refine ⟨_, rfl, _, _, rfl, rfl, ⟨by decide, by decide, by decide⟩, _, _, rfl, rfl, .inr (by decide), _, rfl, _, _, rfl, rfl, ⟨by decide, by decide, by decide⟩, p, _, rfl, by decide, by decide, S2, fun d H3 d0 d1 S3 B3 => ?_⟩
      refine ⟨_, _, rfl, rfl, _, _, rfl, ?_, ?_, S3, B2.trans B3⟩
      · have e : (10 : Int) ^ (Int.toNat 9) = 1000000000 := by decide
        rw [e]
        omega
      · have e : (10 : Int) ^ (Int.toNat 9) = 1000000000 := by decide
        have d1' : d < 1000000000 := by
          rw [← e]
          exact d1
        rw [e, Int.pow_succ]
        generalize (1000000000 : Int) ^ i = q at *
        omega
    · rintro σ H2 ⟨u, z, rfl, u0, u1, S2, B2⟩
      have hv : v.toNat ≤ 4 := by omega
      have hu : u < 1000000000 ^ 4 := by
        have h5 : v.toNat = 0 ∨ v.toNat = 1 ∨ v.toNat = 2 ∨ v.toNat = 3 ∨ v.toNat = 4 := by omega
        rcases h5 with h | h | h | h | h <;> (rw [h] at u1; exact Int.lt_of_lt_of_le u1 (by decide))
      refine ⟨_, rfl, _, rfl, p, _, rfl, by decide, by decide, S2, fun d H3 d0 d1 S3 B3 => ?_⟩
      refine ⟨_, _, rfl, rfl, _, rfl, p, _, rfl, by decide, by decide, S3, fun d2 H4 d20 d21 S4 B4 => ⟨rfl, _, rfl, ?_⟩⟩
      have e4 : (1000000000 : Int) ^ 4 = 1000000000000000000000000000000000000 := by decide
      have e2 : (2 : Nat) ^ 120 = 1329227995784915872903807060280344576 := by decide
      rw [e4] at hu
      refine ite2 (fun _ => ⟨_, rfl, _, rfl, k _ H4 ?_ S4 ((B2.trans B3).trans B4)⟩) (fun _ => ⟨_, rfl, k _ H4 ?_ S4 ((B2.trans B3).trans B4)⟩)
      · show (-(u + d)).natAbs < 2 ^ 120
        omega
      · show (u + d).natAbs < 2 ^ 120
        omega
end
end Sq

namespace Sq
open PySem L2 PyProof.Rows
abbrev s_noRatioInit : Stmt := inClass (top 4) 0
abbrev s_isint : Stmt := top 6
abbrev s_ratioInit : Stmt := inClass (top 12) 0
/-- // by any number but 0 whose size is below 2 ^ 9000 -/
def CDivZ (_ j : Int) : Prop := j ≠ 0 ∧ j.natAbs < 2 ^ 8000
theorem op_fdivZ {X : Cx} : OpR X (binaryOp .FloorDiv) (rI CDivZ fun i j => .int (i.fdiv j)) := opI fun i j _ _ _ _ _ hc q =>
  floordiv_int hc.1 q (.inl (PyProof.noPylong_of_log2 (Nat.lt_of_lt_of_le (PySem.Flt.log2_lt_of (by decide) hc.2) (by decide))))
/-! ### the fraction in lowest terms -/
structure Low (a b t u : Int) : Prop where
  pos : 1 ≤ u
  cop : Int.gcd t u = 1
  val : t * b = a * u
  lt : t.natAbs ≤ a.natAbs
  lu : u.natAbs ≤ b.natAbs
theorem low_of {a b c : Int} (hb : b ≠ 0) (hc : c = (Int.gcd a b : Int) ∧ 0 < b ∨ c = -(Int.gcd a b : Int) ∧ b < 0) : Low a b (a.fdiv c) (b.fdiv c) := by
  have hg : 0 < Int.gcd a b := Int.gcd_pos_of_ne_zero_right a hb
  have da : c ∣ a := by
    rcases hc with ⟨rfl, _⟩ | ⟨rfl, _⟩
    · exact Int.gcd_dvd_left ..
    · exact Int.neg_dvd.mpr (Int.gcd_dvd_left ..)
  have db : c ∣ b := by
    rcases hc with ⟨rfl, _⟩ | ⟨rfl, _⟩
    · exact Int.gcd_dvd_right ..
    · exact Int.neg_dvd.mpr (Int.gcd_dvd_right ..)
  have c0 : c ≠ 0 := by omega
  obtain ⟨t, ht⟩ := da
  obtain ⟨u, hu⟩ := db
  have et : a.fdiv c = t := by rw [ht]; exact Int.mul_fdiv_cancel_left _ c0
  have eu : b.fdiv c = u := by rw [hu]; exact Int.mul_fdiv_cancel_left _ c0
  rw [et, eu]
  have cn : c.natAbs = Int.gcd a b := by omega
  have c1 : 1 ≤ c.natAbs := by omega
  have gcu : Int.gcd a b = c.natAbs * Int.gcd t u := by
    rw [ht, hu, Int.gcd_mul_left]
  refine ⟨?_, ?_, ?_, ?_, ?_⟩
  · have : 0 < u := by
      rcases hc with ⟨h1, h2⟩ | ⟨h1, h2⟩
      · refine Int.pos_of_mul_pos_right (a := c) ?_ (by omega)
        rw [← hu]
        exact h2
      · refine Int.pos_of_mul_pos_right (a := -c) ?_ (by omega)
        rw [Int.neg_mul, ← hu]
        omega
    omega
  · rw [cn] at gcu
    exact (Nat.eq_of_mul_eq_mul_left hg (by rw [Nat.mul_one]; exact gcu)).symm
  · rw [ht, hu, Int.mul_assoc, Int.mul_left_comm]
  · rw [ht, Int.natAbs_mul]
    exact Nat.le_mul_of_pos_left _ c1
  · rw [hu, Int.natAbs_mul]
    exact Nat.le_mul_of_pos_left _ c1
/-! ### the objects -/
def rfl_ (t u : Int) : List (Str × V) := putF "bottom" (.int u) (putF "top" (.int t) [])
theorem tb : ¬ (("top" : Str) = "bottom") := by decide +kernel
theorem rf_top (t u : Int) : (rfl_ t u).lookup ("top" : Str) = some (.int t) := by
  unfold rfl_
  rw [lookup_putF, if_neg tb, lookup_putF, if_pos rfl]
theorem rf_bottom (t u : Int) : (rfl_ t u).lookup ("bottom" : Str) = some (.int u) := by
  unfold rfl_
  rw [lookup_putF, if_pos rfl]
theorem rf_no (t u : Int) {m : Str} (h1 : ¬ m = "bottom") (h2 : ¬ m = "top") : (rfl_ t u).lookup m = none := by
  unfold rfl_
  rw [lookup_putF, if_neg h1, lookup_putF, if_neg h2]
  rfl
def RatAt (C : Addr) (H : Hp) (x : Addr) (t u : Int) : Prop := ∃ dx, H x = some (.ins C dx (rfl_ t u))
/-- what a NoRatio carries -/
def wordAt (z : Str) : HO := .xd [(("word" : Str), .str z)]
/-- the word that is due, if any -/
def dueW (u v : V) : Option Str := if isI u then (if isI v then (if v = .int 0 then some "zero" else none) else some "bottom") else some "top"
def spRatioInit (K : PySem.W.Frag) (C CN : Addr) : Sp := fun vs H Q E => ∃ (x dx : Addr) (u v : V), vs = [.ref x, u, v] ∧ H x = some (.ins C dx []) ∧ IsTy K H u ∧ IsTy K H v ∧ (∀ b, v = .int b → b.natAbs < 2 ^ 8000) ∧
  (∀ z, dueW u v = some z → ∀ d, H d = none → E (.ref CN) (some d) (upd H d (wordAt z))) ∧
  (∀ a b, u = .int a → v = .int b → b ≠ 0 → ∀ t w H', Low a b t w → RatAt C H' x t w → But x H H' → Q .non H')
def spWordInit (CN : Addr) : Sp := fun vs H Q _ => ∃ (a : Addr) (y : V), vs = [.ref a, y] ∧ H a = some (exo a CN none) ∧ ∀ dx, H dx = none → dx ≠ a → Q .non (upd (upd H dx (exd dx [(("word" : Str), y)])) a (exo a CN (some dx)))
/-- the class of an error with the field word -/
structure NTx (K : PySem.W.Frag) (mg : Str → Option Value) (CN fN : Addr) : Prop where
  oex : OexC K CN
  nw : PySem.W.findIn K (.ref CN) "word" = some none
  iC : PySem.W.findIn K (.ref CN) "__init__" = some (some (.ref fN))
  tI : PySem.W.typeIn K (.ref fN) = some (.type "function")
structure CTx (K : PySem.W.Frag) (C : Addr) : Prop where
  cl : Cls K C
  nT : NoAttr K C "top"
  nB : NoAttr K C "bottom"
section
variable {P : Program} {w : World} {K : PySem.W.Frag} {mg : Str → Option Value} {base : Heap}
theorem sc_noRatioInit : FnScope ["self", "word"] ["self", "word"] (defScope s_noRatioInit) := ⟨rfl, rfl, rfl, by decide +kernel, rfl, by decide +kernel, by decide +kernel⟩
theorem ok_noRatioInit {f CN fN : Addr} {fd : FuncData} (F : Fun K "__init__" "NoRatio.__init__" s_noRatioInit f fd) (T : NTx K mg CN fN) : FnOk P w K mg base CX0 1 f fd ["self", "word"] (spWordInit CN) := by
  refine F.ok sc_noRatioInit (fun vs H Q E h => ?_) (fun cdv A outer s H vs Q E hr h => ?_)
  · obtain ⟨x, y, rfl, _⟩ := h
    rfl
  · obtain ⟨a, y, rfl, ha, k⟩ := h
    refine ⟨_, pss_one (ps_ost (pv 0) (pv 1)), ?_⟩
    exact ⟨_, rfl, _, rfl, a, CN, rfl, T.oex, T.nw, .inl ⟨ha, fun dx h1 h2 => k dx h1 h2⟩⟩
theorem sc_isint : FnScope ["value"] ["value"] (defScope s_isint) := ⟨rfl, rfl, rfl, by decide +kernel, rfl, by decide +kernel, by decide +kernel⟩
theorem ok_isint {f : Addr} {fd : FuncData} (F : Fun K "is_an_integer" "is_an_integer" s_isint f fd) (T : ITx mg) : FnOk P w K mg base CX0 1 f fd ["value"] (spIsInt K) := by
  refine F.ok sc_isint (fun vs H Q E h => ?_) (fun cdv A outer s H vs Q E hr h => ?_)
  · obtain ⟨x, rfl, _⟩ := h
    rfl
  · obtain ⟨x, rfl, ⟨t, b1, b2, ht, h1, h2, h3⟩, k⟩ := h
    refine ⟨_, pss_one (ps_ret (pe_and (pe_callB call_isi (by rfl) T.b_isinstance (by decide +kernel) (pa_cons (pv 0) (pa_cons (pe_bltn (v := .ty "int") (by rfl) T.b_int (by decide +kernel) rfl) pa_nil)))
      (pe_one (pe_not (pe_callB call_isi (by rfl) T.b_isinstance (by decide +kernel) (pa_cons (pv 0) (pa_cons (pe_bltn (v := .ty "bool") (by rfl) T.b_bool (by decide +kernel) rfl) pa_nil))))))), ?_⟩
    refine ⟨_, rfl, _, _, _, _, b1, rfl, .ty _, ht, h1, _, rfl, ?_⟩
    cases b1 with
    | false =>
      refine iteF ?_
      rw [← h3] at k
      exact k
    | true =>
      refine iteT ?_
      refine ⟨_, rfl, _, _, _, _, b2, rfl, .ty _, ht, h2, _, rfl, ?_⟩
      rw [← h3] at k
      exact k
end
end Sq

namespace Sq
open PySem L2 PyProof.Rows
theorem xd_eq {H : Hp} {a d CN : Addr} {y : V} (ha : H a = none) (n : d ≠ a) : upd (L2.del (upd (upd (upd H a (exo a CN none)) d (exd d [(("word" : Str), y)])) a (exo a CN (some d))) a) d (.xd [(("word" : Str), y)]) = upd H d (.xd [(("word" : Str), y)]) := by
  funext b
  by_cases h1 : b = d
  · subst h1
    rw [upd_same, upd_same]
  · rw [upd_ne h1, upd_ne h1]
    by_cases h2 : b = a
    · subst h2
      rw [del_same, ha]
    · rw [del_ne h2, upd_ne h2, upd_ne h1, upd_ne h2]
theorem mkO_read {CN : Addr} {z : Str} {H : Hp} {E : XK} (h : ∀ d, H d = none → E (.ref CN) (some d) (upd H d (wordAt z))) : ∀ a, H a = none → spWordInit CN (.ref a :: ([.str z] ++ [])) (upd H a (exo a CN none))
    (fun v H2 => v = .non ∧ ∃ (d : Addr) (fs : List (Str × V)), H2 a = some (exo a CN (some d)) ∧ H2 d = some (exd d fs) ∧ H d = none ∧ E (.ref CN) (some d) (upd (L2.del H2 a) d (.xd fs))) (fun _ _ _ => False) := fun a ha => by
  refine ⟨a, _, rfl, upd_same, fun dx h1 h2 => ⟨rfl, dx, [(("word" : Str), V.str z)], upd_same, ?_, ?_, ?_⟩⟩
  · exact (upd_ne h2).trans upd_same
  · rw [upd_ne h2] at h1
    exact h1
  · rw [upd_ne h2] at h1
    rw [xd_eq ha h2]
    exact h dx h1
theorem isI_int : ∀ {u : V}, isI u = true → ∃ a, u = .int a
  | .int i, _ => ⟨i, rfl⟩
  | .non, h => by cases h
  | .bl _, h => by cases h
  | .str _, h => by cases h
  | .byt _, h => by cases h
  | .flt _, h => by cases h
  | .ref _, h => by cases h
  | .ty _, h => by cases h
structure GTx (mg : Str → Option Value) (CN : Addr) : Prop where
  g_gcd : mg "gcd" = some (.builtin "math.gcd")
  m_NoRatio : mg "NoRatio" = some (.ref CN)
section
variable {P : Program} {w : World} {K : PySem.W.Frag} {mg : Str → Option Value} {base : Heap}
theorem sc_ratioInit : FnScope ["self", "top", "bottom", "common"] ["self", "top", "bottom"] (defScope s_ratioInit) := ⟨rfl, rfl, rfl, by decide +kernel, rfl, by decide +kernel, by decide +kernel⟩
theorem ok_ratioInit {f C CN fN fI : Addr} {fd fdN fdI : FuncData} (F : FunD K "__init__" "Ratio.__init__" (defArgs s_ratioInit) (defBody s_ratioInit) (defScope s_ratioInit) [.int 1] [] f fd) (T : CTx K C) (N : NTx K mg CN fN) (G : GTx mg CN)
    (G_N : FnOk P w K mg base CX0 1 fN fdN ["self", "word"] (spWordInit CN)) (b_N : Binds K fdN ["self", "word"] [])
    (G_I : FnOk P w K mg base CX0 1 fI fdI ["value"] (spIsInt K)) (m_I : mg "is_an_integer" = some (.ref fI)) (k_I : PySem.W.keepIn K (.ref fI) = true) (b_I : Binds K fdI ["value"] []) :
    FnOk P w K mg base (L2.CX P w) 3 f fd ["self", "top", "bottom"] (spRatioInit K C CN) := by
  refine F.ok sc_ratioInit (fun vs H Q E h => ?_) (fun cdv A outer s H vs Q E hr h => ?_)
  · obtain ⟨x, dx, u, v, rfl, _⟩ := h
    rfl
  · obtain ⟨x, dx, u, v, rfl, hx, tu, tv, hs, kE, kQ⟩ := h
    have hr1 : Room 1 _ := hr.mono (by decide)
    have raise := fun (z : Str) => (mkO_read (CN := CN) (z := z) (H := H) (E := E))
    refine ⟨_, (pss_cons (ps_if (pt_not (pt_val (pe_call G_I hr1 rfl m_I k_I b_I .nil pass0 (pa_cons (pv 1) pa_nil)))) (pss_one (ps_raise rfl (takes_of rfl rfl rfl rfl) (pmk_oex N.oex N.iC N.tI G_N hr b_N .nil pass0 rfl G.m_NoRatio (pa_cons pe_str pa_nil)))) pss_nil)
      (pss_cons (ps_if (pt_not (pt_val (pe_call G_I hr1 rfl m_I k_I b_I .nil pass0 (pa_cons (pv 2) pa_nil)))) (pss_one (ps_raise rfl (takes_of rfl rfl rfl rfl) (pmk_oex N.oex N.iC N.tI G_N hr b_N .nil pass0 rfl G.m_NoRatio (pa_cons pe_str pa_nil)))) pss_nil)
      (pss_cons (ps_if (pt_cmpR op_eq (pv 2) pe_int (nomark _)) (pss_one (ps_raise rfl (takes_of rfl rfl rfl rfl) (pmk_oex N.oex N.iC N.tI G_N hr b_N .nil pass0 rfl G.m_NoRatio (pa_cons pe_str pa_nil)))) pss_nil)
      (pss_cons (ps_set (i := 3) sc_ratioInit.nd rfl (Or.inl rfl) (pe_callBfun cr_gcd rfl G.g_gcd (pa_cons (pv 1) (pa_cons (pv 2) pa_nil))))
      (C8.pss_cut (ps_if (pt_cmpR op_lt (pv 2) pe_int (nomark _)) (pss_one (ps_set (i := 3) sc_ratioInit.nd rfl (Or.inl rfl) (pe_un un_neg (pv 3)))) pss_nil)
      (pss_cons (ps_fld (pv 0) (pe_op op_fdivZ (pv 1) (pv 3)) rfl)
      (pss_one (ps_fld (pv 0) (pe_op op_fdivZ (pv 2) (pv 3)) rfl)))))))), ?_⟩
    refine ⟨_, rfl, u, rfl, tu, _, rfl, ?_⟩
    cases eu : isI u with
    | false =>
      refine iteT ⟨by decide, raise "top" ?_⟩
      exact kE "top" (by unfold dueW; rw [eu]; rfl)
    | true =>
      refine iteF ⟨_, rfl, v, rfl, tv, _, rfl, ?_⟩
      cases ev : isI v with
      | false =>
        refine iteT ⟨by decide, raise "bottom" ?_⟩
        exact kE "bottom" (by unfold dueW; rw [eu, ev]; rfl)
      | true =>
        obtain ⟨a, rfl⟩ : ∃ a, u = .int a := by
          exact isI_int eu
        obtain ⟨b, rfl⟩ : ∃ b, v = .int b := by
          exact isI_int ev
        refine iteF ⟨_, rfl, rfl, _, rfl, ?_⟩
        refine ite2 (fun c => ?_) (fun c => ?_)
        · refine ⟨by decide, raise "zero" ?_⟩
          have e : b = 0 := by simpa using c
          subst e
          exact kE "zero" rfl
        · have hb : b ≠ 0 := fun e => c (by simp [e])
          refine ⟨_, rfl, _, rfl, a, b, rfl, ?_⟩
          refine ⟨fun σ H' => H' = H ∧ ∃ c : Int, σ = [some (.ref x), some (.int a), some (.int b), some (.int c)] ∧ (c = (Int.gcd a b : Int) ∧ 0 < b ∨ c = -(Int.gcd a b : Int) ∧ b < 0), ?_, ?_⟩
          · refine ⟨_, rfl, _, _, rfl, rfl, _, rfl, ?_⟩
            refine ite2 (fun c1 => ?_) (fun c1 => ?_)
            · refine ⟨_, rfl, _, rfl, rfl, _, rfl, .inr ⟨rfl, of_decide_eq_true c1⟩⟩
            · have c2 : ¬ b < 0 := fun e => c1 (decide_eq_true e)
              exact ⟨rfl, _, rfl, .inl ⟨rfl, by omega⟩⟩
          · rintro σ H' ⟨rfl, g, rfl, hg⟩
            have L := low_of hb hg
            have hgb : Int.gcd a b ≤ b.natAbs := Nat.le_of_dvd (by omega) (Int.gcd_dvd_natAbs_right ..)
            have hgp : 0 < Int.gcd a b := Int.gcd_pos_of_ne_zero_right a hb
            have cz : CDivZ a g := ⟨by omega, by have := hs b rfl; omega⟩
            refine ⟨_, rfl, _, rfl, _, _, rfl, rfl, cz, _, rfl, x, C, dx, [], rfl, hx, T.cl, T.nT, (by show 0 < 1000; decide), ?_⟩
            refine ⟨_, rfl, _, rfl, _, _, rfl, rfl, cz, _, rfl, x, C, dx, _, rfl, upd_same, T.cl, T.nB, (by show 1 < 1000; decide), ?_⟩
            exact kQ a b rfl rfl hb _ _ _ L ⟨dx, upd_same⟩ (But.refl x _).upd.upd
end
end Sq

namespace Sq
open PySem L2 PyProof.Rows
abbrev s_good : Stmt := top 19
abbrev s_try : Stmt := top 20
/-- C(..) in a try's body: what leaves is wished for at the slots -/
def tMkS (C : Addr) (sp : Sp) (dvs : List V) (W : L2.St → XK) (t : TA) : TE := fun σ H Q => t σ H fun vs H1 => ∀ y dy, H1 y = none → H1 dy = none → dy ≠ y →
  sp (.ref y :: (vs ++ dvs)) (upd (upd H1 dy (.own y)) y (.ins C dy [])) (fun v H2 => v = .non ∧ Q (.ref y) H2) (W σ)
theorem pe_mkS {X : Cx} {CX : CXT} {k : Nat} {f C : Addr} {fd : FuncData} {ps : List Str} {sp : Sp} {dvs : List V} {ds : List Value} {W : L2.St → XK} {x : Str} {p pos : Pos} {e : Expr} {es : List Expr} {t : TA}
    (M : Mk X.K C f) (G : FnOk X.prog X.w X.K X.mg X.base CX k f fd ps sp) (room : Room (k + 1) X.A) (gl : Gl X x) (mx : X.mg x = some (.ref C)) (bi : Binds X.K fd ps ds) (dv : Vals dvs ds) (ok : ∀ σ, PassesAt CX X σ (W σ))
    (ha : PA X (e :: es) t) (nd : (x == ("__debug__" : Str)) = false := by decide) (st : starEach (e :: es) X.env = (false, eval e X.env) :: starEach es X.env := by rfl)
    (pl : (backTo pos (starEach es X.env)).any (·.1) = false := by rfl) : PE X (.Call (.Name x p) (e :: es) [] pos) (tMkS C sp dvs W t) := by
  refine ⟨fun pins s σ H Q I h => wpAny_Call_Name_kw (ld_glob I gl mx (PySem.W.callWith_K (h₀ := X.base) I.ok.mod.kin M.kp (thn (ha.run pos pins s σ H _ I h) fun us s1 hh => ?_) st pl) nd)⟩
  obtain ⟨vs, H1, I1, r, q⟩ := hh
  refine ⟨I1.kIn, ?_⟩
  have n1 : H1 (s1.heap.objs.size + 1) = none := I1.hok.fresh (Nat.le_succ _)
  have n0 : H1 s1.heap.objs.size = none := I1.hok.fresh (Nat.le_refl _)
  have want := q _ _ n1 n0 (Nat.ne_of_lt (Nat.lt_succ_self _))
  have J := Inv.made (C := C) I1
  have rr : Vals (V.ref (s1.heap.objs.size + 1) :: (vs ++ dvs)) (Value.ref (s1.heap.objs.size + 1) :: (us ++ ds)) := Paired.cons rfl (Vals.append r dv)
  have lens : (Value.ref (s1.heap.objs.size + 1) :: us ++ ds).length = ps.length := (rr.length.symm.trans (G.len _ _ _ _ want))
  have run := G.run _ X.stack _ _ ⟨Value.ref (s1.heap.objs.size + 1) :: us, []⟩ (Value.ref (s1.heap.objs.size + 1) :: (us ++ ds)) _ _ (W σ) (room.make C us []) (J.env0.make C us []) (bi _ (Value.ref (s1.heap.objs.size + 1) :: us) J.kIn lens) rr want
  refine wpAny_call (make_map (f := f) I1.kIn M.makes M.init (beq_iff_eq.mp M.fn) (codeAny_mono run fun res s2 out => ?_))
  cases res with
  | error er => exact ok σ pins _ _ er s2 J out
  | ok flow =>
    cases flow with
    | ret val =>
      obtain ⟨v, H3, J3, rv, ev, z⟩ := J.after out
      cases ev
      exact ⟨rv, V.ref (s1.heap.objs.size + 1), H3, J3, rfl, z⟩
    | next => cases out
    | brk => cases out
    | cont => cases out
/-- isinstance(e, c), e the caught error with its own dict -/
structure EIx (K : PySem.W.Frag) (D : Addr) : Prop where
  hcl : (PySem.W.clsIn K D).isSome = true
  hga : PySem.W.findIn K (.ref D) "__getattribute__" = some (some (.builtin "BaseException.__getattribute__"))
  hgt : PySem.W.findIn K (.ref D) "__getattr__" = some none
  hsub : PySem.W.subIn K (.ref D) (.type "BaseException") = some true
  ha : PySem.W.findIn K (.ref D) "__class__" = some (some (.builtin "object.__class__"))
  hn : PySem.W.specialIn K (.builtin "object.__class__") "__get__" = some (some (.builtin "getset_descriptor.__get__"))
  htk : PySem.W.takesIn K (.builtin "object.__class__") = some true
  hm : PySem.W.mroIn K D (.type "object") = some true
def rIsX (K : PySem.W.Frag) (D a : Addr) (cls : Value) (d : Option Addr) : List V → Hp → VK → Prop := fun xs H Q => ∃ (c : V) (cv : Value) (b : Bool) (dd : Addr) (fs : List (Str × V)), xs = [.ref a, c] ∧ ClsV c cv ∧ PySem.W.kitOne K (.ref D) cv = some b ∧
  cls = .ref D ∧ d = some dd ∧ H dd = some (.xd fs) ∧ Q (.bl b) H
theorem call_isX {X : Cx} {a D : Addr} {oe : Obj} {cls : Value} {d : Option Addr} {pn : List (Addr × Obj)} (C : EIx X.K D) (hz : Zc cls d oe) (hf : ∃ vs, oe.data = .fields vs) : CallR (X.suite a ((a, oe) :: pn)) (.builtin "isinstance") (rIsX X.K D a cls d) := by
  intro pins s σ H xs us Q I r h
  obtain ⟨c, cv, b, dd, fs, rfl, hcv, e, ec, ed, hd, q⟩ := h
  obtain ⟨x1, x2, e1, r1, r2⟩ : ∃ x1 x2, us = [x1, x2] ∧ RelV (.ref a) x1 ∧ RelV c x2 := by
    cases r with
    | cons rx rr =>
      cases rr with
      | cons rt rn =>
        cases rn
        exact ⟨_, _, rfl, rx, rt⟩
  subst e1
  have e1 : x1 = Value.ref a := r1
  subst e1
  have e2 := hcv.eq r2
  subst e2
  obtain ⟨hget, _⟩ := I.pin (a, oe) (List.mem_append.mpr (.inl List.mem_cons_self))
  obtain ⟨vs, hv⟩ := hf
  obtain ⟨mA, hns, _⟩ := (show ObjOk X.prog X.w H s.heap dd (.xd fs) from I.hok dd _ hd)
  obtain ⟨od, ho, _⟩ := lookIn_ns hns
  have J : PySem.W.InstAt s.heap a oe D (some od) := ⟨hget, hz.1.trans ec, by unfold PySem.W.notCls; rw [hv], by rw [hz.2, ed]; exact ho⟩
  exact PySem.W.kia_one (PySem.W.kitx_exc C.hcl C.hga C.hgt C.hsub C.ha C.hn C.htk C.hm) I.kIn J e (fun z => nomatch z) fun tk => ⟨.bl b, H, I.kept (t' := tk) fun _ _ z => z, rfl, q⟩
structure ITy (K : PySem.W.Frag) (C : Addr) : Prop where
  ha : PySem.W.findIn K (.ref C) "__class__" = some (some (.builtin "object.__class__"))
  hn : PySem.W.specialIn K (.builtin "object.__class__") "__get__" = some (some (.builtin "getset_descriptor.__get__"))
  htk : PySem.W.takesIn K (.builtin "object.__class__") = some true
  hm : PySem.W.mroIn K C (.type "object") = some true
  kI : PySem.W.kitOne K (.ref C) (.type "int") = some false
  kB : PySem.W.kitOne K (.ref C) (.type "bool") = some false
theorem kit_self {K : PySem.W.Frag} {C : Addr} : PySem.W.kitOne K (.ref C) (.ref C) = some true := by
  unfold PySem.W.kitOne
  rw [if_pos (by simp)]
theorem RatAt.ty {K : PySem.W.Frag} {C : Addr} {H : Hp} {x : Addr} {t u : Int} (T : CTx K C) (Y : ITy K C) (h : RatAt C H x t u) : TyX K H (.ref x) (.ref C) := by
  obtain ⟨dx, h⟩ := h
  exact .base (.ins h T.cl Y.ha Y.hn Y.htk Y.hm)
theorem RatAt.isTy {K : PySem.W.Frag} {C : Addr} {H : Hp} {x : Addr} {t u : Int} (T : CTx K C) (Y : ITy K C) (h : RatAt C H x t u) : IsTy K H (.ref x) := ⟨_, _, _, h.ty T Y, Y.kI, Y.kB, rfl⟩
def spGood (C : Addr) : Sp := fun vs H Q _ => ∃ (a b : Int) (x : Addr) (t u : Int), vs = [.int a, .int b, .ref x] ∧ RatAt C H x t u ∧ Low a b t u ∧ a.natAbs < 2 ^ 4000 ∧ b.natAbs < 2 ^ 4000 ∧ Q (.bl true) H
theorem mul_ok {a b : Int} (ha : a.natAbs < 2 ^ 4000) (hb : b.natAbs < 2 ^ 4000) : CMulW a b := wide_mul ha hb (by decide) (by decide) (by decide)
section
variable {P : Program} {w : World} {K : PySem.W.Frag} {mg : Str → Option Value} {base : Heap}
theorem sc_good : FnScope ["_law_a", "_law_b", "_law_made"] ["_law_a", "_law_b", "_law_made"] (defScope s_good) := ⟨rfl, rfl, rfl, by decide +kernel, rfl, by decide +kernel, by decide +kernel⟩
theorem ok_good {f C fG fI : Addr} {fd fdG fdI : FuncData} (F : Fun K "_law_good" "_law_good" s_good f fd) (T : CTx K C) (Y : ITy K C) (B : ITx mg) (m_C : mg "Ratio" = some (.ref C))
    (G_I : FnOk P w K mg base CX0 1 fI fdI ["_law_told"] (spIsInt K)) (m_I : mg "_law_is_integer" = some (.ref fI)) (k_I : PySem.W.keepIn K (.ref fI) = true) (b_I : Binds K fdI ["_law_told"] [])
    (G_G : FnOk P w K mg base CX0 1 fG fdG ["_law_one", "_law_other"] spGcd) (m_G : mg "_law_gcd" = some (.ref fG)) (k_G : PySem.W.keepIn K (.ref fG) = true) (b_G : Binds K fdG ["_law_one", "_law_other"] []) :
    FnOk P w K mg base CX0 2 f fd ["_law_a", "_law_b", "_law_made"] (spGood C) := by
  refine F.ok sc_good (fun vs H Q E h => ?_) (fun cdv A outer s H vs Q E hr h => ?_)
  · obtain ⟨a, b, x, t, u, rfl, _⟩ := h
    rfl
  · obtain ⟨a, b, x, t, u, rfl, R, L, sa, sb, k⟩ := h
    refine ⟨_, (pss_cons (ps_if (PW.pt (pw_or (pt_not (pt_val (pe_callB call_isi (by rfl) B.b_isinstance (by decide +kernel) (pa_cons (pv 2) (pa_cons (pe_glob (v := .ref C) rfl m_C rfl) pa_nil)))))
        (pw_or (pt_not (pt_val (pe_call G_I hr rfl m_I k_I b_I .nil pass0 (pa_cons (pe_fld (pv 2) rfl) pa_nil)))) (pw_or1 (pt_not (pt_val (pe_call G_I hr rfl m_I k_I b_I .nil pass0 (pa_cons (pe_fld (pv 2) rfl) pa_nil)))))))) (pss_one (ps_ret pe_bl)) pss_nil)
      (pss_cons (ps_if (PW.pt (pw_or (pt_cmpR op_lt (pe_fld (pv 2) rfl) pe_int (nomark _)) (pw_or1 (pt_cmpR op_ne (pe_call G_G hr rfl m_G k_G b_G .nil pass0 (pa_cons (pe_fld (pv 2) rfl) (pa_cons (pe_fld (pv 2) rfl) pa_nil))) pe_int (nomark _))))) (pss_one (ps_ret pe_bl)) pss_nil)
      (pss_one (ps_ret (pe_cmpR op_eq (pe_op op_mulW (pe_fld (pv 2) rfl) (pv 1)) (pe_op op_mulW (pv 0) (pe_fld (pv 2) rfl)) (nomark _)))))), ?_⟩
    obtain ⟨dx, hx⟩ := id R
    refine ⟨_, rfl, _, _, _, _, true, rfl, .own C, R.ty T Y, kit_self, true, rfl, ?_⟩
    refine iteF ⟨_, rfl, x, C, dx, _, _, rfl, hx, T.cl, T.nT, rf_top _ _, _, rfl, IsTy.int _, _, rfl, ?_⟩
    refine iteF ⟨_, rfl, x, C, dx, _, _, rfl, hx, T.cl, T.nB, rf_bottom _ _, _, rfl, IsTy.int _, _, rfl, ?_⟩
    refine iteF ⟨_, rfl, x, C, dx, _, _, rfl, hx, T.cl, T.nB, rf_bottom _ _, _, _, rfl, rfl, _, rfl, ?_⟩
    rw [decide_eq_false (show ¬ u < 1 from by have := L.pos; omega)]
    refine iteF ⟨_, rfl, x, C, dx, _, _, rfl, hx, T.cl, T.nT, rf_top _ _, _, rfl, x, C, dx, _, _, rfl, hx, T.cl, T.nB, rf_bottom _ _, t, u, rfl, rfl, _, rfl, ?_⟩
    rw [L.cop]
    refine iteF ?_
    refine ⟨_, rfl, x, C, dx, _, _, rfl, hx, T.cl, T.nT, rf_top _ _, _, rfl, _, _, rfl, rfl, mul_ok (Nat.lt_of_le_of_lt L.lt sa) sb, ?_⟩
    refine ⟨_, rfl, _, rfl, x, C, dx, _, _, rfl, hx, T.cl, T.nB, rf_bottom _ _, _, _, rfl, rfl, mul_ok sa (Nat.lt_of_le_of_lt L.lu sb), rfl, ?_⟩
    show Q (.bl (decide (V.int (t * b) = V.int (a * u)))) H
    rw [L.val, decide_eq_true rfl]
    exact k
end
end Sq

namespace Sq
open PySem L2 PyProof.Rows
abbrev s_law : Stmt := top 21
def told : Option Str → List V
  | some z => [.str "refused", .str z]
  | none => [.str "made", .str ""]
def spTry (K : PySem.W.Frag) : Sp := fun vs H Q _ => ∃ u v : V, vs = [u, v] ∧ IsTy K H u ∧ IsTy K H v ∧ (∀ b, v = .int b → b.natAbs < 2 ^ 8000) ∧ ∀ p H', Same H H' → H' p = some (.tup (told (dueW u v))) → Q (.ref p) H'
theorem IsTy.same {K : PySem.W.Frag} {H H' : Hp} {x : V} (s : Same H H') (h : IsTy K H x) : IsTy K H' x := by
  obtain ⟨t, b1, b2, ty, h1, h2, h3⟩ := h
  refine ⟨t, b1, b2, ?_, h1, h2, h3⟩
  cases ty with
  | base b =>
    refine .base ?_
    cases b with
    | non => exact .non
    | bl => exact .bl _
    | int => exact .int _
    | str => exact .str _
    | flt => exact .flt _
    | lst e => exact .lst (s _ _ e)
    | frz e => exact .frz (s _ _ e)
    | tup e => exact .tup (s _ _ e)
    | dK e => exact .dK (s _ _ e)
    | dT e => exact .dT (s _ _ e)
    | ins e c1 c2 c3 c4 c5 => exact .ins (s _ _ e) c1 c2 c3 c4 c5
  | byt => exact .byt _
  | set e => exact .set (s _ _ e)
  | kList e c => exact .kList e c
  | kTuple e c => exact .kTuple e c
  | kDict e c => exact .kDict e c
  | fTuple e => exact .fTuple (s _ _ e)
  | fDict e => exact .fDict (s _ _ e)
theorem same_made {H H1 : Hp} {x dx C : Addr} (nx : H x = none) (nd : H dx = none) (k : But x (upd (upd H dx (.own x)) x (.ins C dx [])) H1) : Same H H1 := fun b o e =>
  k b o (by rw [upd_ne (ne_of_none e nx), upd_ne (ne_of_none e nd)]; exact e) (ne_of_none e nx)
theorem same_pair {H : Hp} {x dx C : Addr} (nx : H x = none) (nd : H dx = none) (ne : dx ≠ x) : Same H (upd (upd H dx (.own x)) x (.ins C dx [])) := same_new (same_new (Same.refl H) nd) ((upd_ne ne.symm).trans nx)
structure XTx (K : PySem.W.Frag) (mg : Str → Option Value) (CN CS : Addr) : Prop where
  m_N : mg "NoRatio" = some (.ref CN)
  m_S : mg "SeriesError" = some (.ref CS)
  b_V : mg "ValueError" = none
  te : PySem.W.exmOne K (.ref CN) (.ref CN) = some true
  kS : PySem.W.kitOne K (.ref CN) (.ref CS) = some true
  kV : PySem.W.kitOne K (.ref CN) (.type "ValueError") = some true
  ei : EIx K CN
  xf : XfC K CN
section
variable {P : Program} {w : World} {K : PySem.W.Frag} {mg : Str → Option Value} {base : Heap}
theorem sc_try : FnScope ["_law_a", "_law_b", "e"] ["_law_a", "_law_b"] (defScope s_try) := ⟨rfl, rfl, rfl, by decide +kernel, rfl, by decide +kernel, by decide +kernel⟩
theorem ok_try {f C CN CS fN fR : Addr} {fd fdR : FuncData} (F : Fun K "_law_try" "_law_try" s_try f fd) (T : CTx K C) (N : NTx K mg CN fN) (XT : XTx K mg CN CS) (B : ITx mg) (m_C : mg "Ratio" = some (.ref C)) (M : Mk K C fR)
    (G_R : FnOk P w K mg base (L2.CX P w) 3 fR fdR ["self", "top", "bottom"] (spRatioInit K C CN)) (b_R : Binds K fdR ["self", "top", "bottom"] []) :
    FnOk P w K mg base (L2.CX P w) 5 f fd ["_law_a", "_law_b"] (spTry K) := by
  refine F.okX sc_try (fun vs H Q E h => ?_) (fun cdv A outer s H vs Q E hr h => ?_)
  · obtain ⟨u, v, rfl, _⟩ := h
    rfl
  · obtain ⟨u, v, rfl, tu, tv, hs, k⟩ := h
    refine ⟨_, (pss_cons (ps_try_as (i := 2) (tb := fun W => tDrop (tMkS C (spRatioInit K C CN) [] (WE W) (tCons (tVar 0) (tCons (tVar 1) tNil)))) (Wout := fun _ _ _ _ => False) rfl rfl sc_try.nd rfl rfl ⟨rfl, by decide, Or.inl XT.m_N⟩ takes0
        (fun W pn xe tk _ => pss_one (ps_expr (pe_mkS M G_R hr rfl m_C b_R .nil (fun σ => passAt tk σ) (pa_cons (pv 0) (pa_cons (pv 1) pa_nil)))))
        (fun a oe cls d pn hz hf => pss_cons (ps_if (PW.pt (pw_or (pt_not (pt_val (pe_callB (call_isX XT.ei hz hf) (by rfl) B.b_isinstance (by decide +kernel) (pa_cons (pv 2) (pa_cons (pe_glob (v := .ref CS) rfl XT.m_S rfl) pa_nil)))))
          (pw_or1 (pt_not (pt_val (pe_callB (call_isX XT.ei hz hf) (by rfl) B.b_isinstance (by decide +kernel) (pa_cons (pv 2) (pa_cons (pe_bltn (v := .ty "ValueError") (by rfl) XT.b_V (by decide +kernel) rfl) pa_nil)))))))) (pss_one (ps_ret (pe_tup (pa_cons pe_str (pa_cons pe_str pa_nil))))) pss_nil)
          (pss_one (ps_ret (pe_tup (pa_cons pe_str (pa_cons (pe_xf XT.xf N.nw hz hf (pv 2)) pa_nil)))))))
      (pss_one (ps_ret (pe_tup (pa_cons pe_str (pa_cons pe_str pa_nil)))))), ?_⟩
    refine ⟨_, rfl, _, rfl, fun y dy ny ndy ne => ?_⟩
    have s0 : Same H (upd (upd H dy (.own y)) y (.ins C dy [])) := same_pair ny ndy ne
    refine ⟨y, dy, u, v, rfl, upd_same, tu.same s0, tv.same s0, hs, fun z hz d hd => ?_, fun a b ea eb hb t w H' L R Bt => ⟨rfl, ?_⟩⟩
    · refine ⟨true, XT.te, fun _ a ha => ?_, fun q => Bool.noConfusion q⟩
      have s1 : Same H (upd (upd (upd H dy (.own y)) y (.ins C dy [])) d (wordAt z)) := same_new s0 hd
      refine ⟨_, rfl, _, _, _, d, _, rfl, .own CS, XT.kS, rfl, rfl, upd_same, true, rfl, iteF ?_⟩
      refine ⟨_, rfl, _, _, _, d, _, rfl, .ty _, XT.kV, rfl, rfl, upd_same, true, rfl, iteF ?_⟩
      refine ⟨_, rfl, rfl, rfl, d, _, _, rfl, upd_same, rfl, (by show 2 ≤ sizeLine; decide), fun p hp => ?_⟩
      refine k p _ (same_new s1 hp) ?_
      rw [hz]
      exact upd_same
    · refine ⟨(by show 2 ≤ sizeLine; decide), fun p hp => ?_⟩
      have s1 : Same H H' := same_made ny ndy Bt
      refine k p _ (same_new s1 hp) ?_
      have e : dueW u v = none := by
        subst ea eb
        unfold dueW
        have : ¬ (V.int b = V.int 0) := fun e => hb (V.int.inj e)
        simp [isI, this]
      rw [e]
      exact upd_same
end
end Sq

namespace Sq
open PySem L2 PyProof.Rows
/-- self, then the keywords bottom, top in the parameters' order -/
def gBT {α : Type} (us ws : List α) : List α := match ws with
  | [x, y] => us ++ [y, x]
  | _ => us
def spLaw (K : PySem.W.Frag) : Sp := fun vs H Q _ => ∃ (a : Addr) (ns : List Int), vs = [.ref a] ∧ SqL K H a (ns.map V.int) ∧ ns.length ≤ 63 ∧ ∀ H', Q (.bl true) H'
theorem due_none {a b : Int} (hb : b ≠ 0) : dueW (.int a) (.int b) = none := by
  unfold dueW
  have : ¬ (V.int b = V.int 0) := fun e => hb (V.int.inj e)
  simp [isI, this]
theorem due_top {u v : V} (h : isI u = false) : dueW u v = some ("top" : Str) := by
  unfold dueW
  simp [h]
theorem due_bottom {a : Int} {v : V} (h : isI v = false) : dueW (.int a) v = some ("bottom" : Str) := by
  unfold dueW
  rw [if_pos (show isI (.int a) = true from rfl), h, if_neg Bool.false_ne_true]
theorem mk_go {K : PySem.W.Frag} {C CN x dx : Addr} {H : Hp} {a b : Int} {Q : VK} {E : XK} (hb : b ≠ 0) (sb : b.natAbs < 2 ^ 8000) (nx : H x = none) (ndx : H dx = none) (_ne : dx ≠ x) (k : ∀ t u H', Low a b t u → RatAt C H' x t u → Same H H' → Q .non H') :
    spRatioInit K C CN [.ref x, .int a, .int b] (upd (upd H dx (.own x)) x (.ins C dx [])) Q E :=
  ⟨x, dx, _, _, rfl, upd_same, .int _, .int _, fun b' e => (by cases e; exact sb), fun z hz => (by rw [due_none hb] at hz; cases hz), fun a' b' ea eb _ t w H' L R Bt => by
    cases ea
    cases eb
    exact k t w H' L R (same_made nx ndx Bt)⟩
theorem ne_told {K : PySem.W.Frag} {H : Hp} {p q : Addr} {x y : Str} {Q : VK} (hx : SeqAt.shaped (.tuple [.str x, .str y]) = true) (hp : H p = some (.tup [.str x, .str y])) (hq : H q = some (.tup [.str x, .str y])) (k : Q (.bl false) H) : rNeD K (.ref p) (.ref q) H Q := by
  refine ⟨_, _, .tup (SqT.of hp) (.cons (.str x) (.cons (.str y) .nil)), .tup (SqT.of hq) (.cons (.str x) (.cons (.str y) .nil)), hx, hx, ?_⟩
  rw [SeqAt.eqv_refl _ (SeqAt.canLay_of_shaped hx)]
  exact k
theorem eq_told {K : PySem.W.Frag} {H : Hp} {p q : Addr} {x y : Str} {Q : VK} (hx : SeqAt.shaped (.tuple [.str x, .str y]) = true) (hp : H p = some (.tup [.str x, .str y])) (hq : H q = some (.tup [.str x, .str y])) (k : Q (.bl true) H) : rEqD K (.ref p) (.ref q) H Q := by
  refine ⟨_, _, .tup (SqT.of hp) (.cons (.str x) (.cons (.str y) .nil)), .tup (SqT.of hq) (.cons (.str x) (.cons (.str y) .nil)), hx, hx, ?_⟩
  rw [SeqAt.eqv_refl _ (SeqAt.canLay_of_shaped hx)]
  exact k
end Sq

namespace Sq
open PySem L2 PyProof.Rows
/-- a thing that is no int -/
def Strange (K : PySem.W.Frag) (H : Hp) (v : V) : Prop := IsTy K H v ∧ isI v = false
theorem pick {xs : List V} {p : V → Prop} (h : ∀ v ∈ xs, p v) {i : Int} (h0 : 0 ≤ i) (h1 : i < xs.length) : ∃ v, atI xs i = some v ∧ p v := by
  have hi : i.toNat < xs.length := by omega
  exact ⟨xs[i.toNat], at_of (j := i.toNat) (by omega) (List.getElem?_eq_getElem hi), h _ (List.getElem_mem hi)⟩
theorem told_of {d : Option Str} {z : Str} (h : d = some z) : told d = [.str "refused", .str z] := by
  rw [h]
  rfl
theorem isI_size {v : V} (h : isI v = false) : ∀ b, v = .int b → b.natAbs < 2 ^ 8000 := fun b e => by
  rw [e] at h
  cases h
theorem int_size {b : Int} (h : b.natAbs < 2 ^ 124) : ∀ c, V.int b = .int c → c.natAbs < 2 ^ 8000 := fun c e => by
  cases e
  exact Nat.lt_of_lt_of_le h (Nat.pow_le_pow_right (by decide) (by decide))
theorem Low.one {a t u : Int} (L : Low a 1 t u) : Low a 1 t u := L
theorem big_ok {a : Int} {n : Nat} (h : a.natAbs < 2 ^ 124) (hn : 124 ≤ n) : a.natAbs < 2 ^ n := Nat.lt_of_lt_of_le h (Nat.pow_le_pow_right (by decide) hn)
theorem mul_big {f v : Int} (h0 : 0 ≤ f) (h1 : f < 10) (h : v.natAbs < 2 ^ 120) : (f * v).natAbs < 2 ^ 124 := by
  rw [Int.natAbs_mul]
  have h2 : f.natAbs ≤ 9 := by omega
  have h3 : f.natAbs * v.natAbs ≤ 9 * v.natAbs := Nat.mul_le_mul_right _ h2
  have e : (2 : Nat) ^ 124 = 16 * 2 ^ 120 := by decide
  omega
section
variable {P : Program} {w : World} {K : PySem.W.Frag} {mg : Str → Option Value} {base : Heap}
theorem sc_law : FnScope ["_law_script", "_law_state_here", "_law_wrong_top", "_law_wrong_bottom", "_law_factor", "_law_a", "_law_b", "_law_strange"] ["_law_script"] (defScope s_law) := ⟨rfl, rfl, rfl, by decide +kernel, rfl, by decide +kernel, by decide +kernel⟩
theorem ok_law {f C CN fR fS fD fG fO fT : Addr} {fd fdR fdS fdD fdG fdO fdT : FuncData} {ds1 : List Value} {g : List Value → List Value → List Value} (F : Fun K "law" "law" s_law f fd) (T : CTx K C) (Y : ITy K C) (m_C : mg "Ratio" = some (.ref C)) (M : Mk K C fR)
    (G_R : FnOk P w K mg base (L2.CX P w) 3 fR fdR ["self", "top", "bottom"] (spRatioInit K C CN)) (b_R : Binds K fdR ["self", "top", "bottom"] []) (b_R1 : Binds K fdR ["self", "top", "bottom"] ds1) (v_R1 : Vals [.int 1] ds1)
    (b_RK : KBn K fdR ["self", "top", "bottom"] 1 ["bottom", "top"] g gBT)
    (G_state : FnOk P w K mg base CX0 1 fS fdS ["_law_script"] (spState K)) (m_state : mg "_law_state" = some (.ref fS)) (k_state : PySem.W.keepIn K (.ref fS) = true) (b_state : Binds K fdS ["_law_script"] [])
    (G_draw : FnOk P w K mg base CX0 1 fD fdD ["_law_state_here", "_law_many"] spDraw) (m_draw : mg "_law_draw" = some (.ref fD)) (k_draw : PySem.W.keepIn K (.ref fD) = true) (b_draw : Binds K fdD ["_law_state_here", "_law_many"] [])
    (G_great : FnOk P w K mg base CX0 2 fG fdG ["_law_state_here"] spGreat) (m_great : mg "_law_great" = some (.ref fG)) (k_great : PySem.W.keepIn K (.ref fG) = true) (b_great : Binds K fdG ["_law_state_here"] [])
    (G_good : FnOk P w K mg base CX0 2 fO fdO ["_law_a", "_law_b", "_law_made"] (spGood C)) (m_good : mg "_law_good" = some (.ref fO)) (k_good : PySem.W.keepIn K (.ref fO) = true) (b_good : Binds K fdO ["_law_a", "_law_b", "_law_made"] [])
    (G_try : FnOk P w K mg base (L2.CX P w) 5 fT fdT ["_law_a", "_law_b"] (spTry K)) (m_try : mg "_law_try" = some (.ref fT)) (k_try : PySem.W.keepIn K (.ref fT) = true) (b_try : Binds K fdT ["_law_a", "_law_b"] []) :
    FnOk P w K mg base CX0 6 f fd ["_law_script"] (spLaw K) := by
  refine F.ok sc_law (fun vs H Q E h => ?_) (fun cdv A outer s H vs Q E hr h => ?_)
  · obtain ⟨a, ns, rfl, _⟩ := h
    rfl
  · obtain ⟨sc, ns, rfl, hS, hl, k⟩ := h
    refine ⟨_, (pss_cons (ps_set (i := 1) sc_law.nd rfl (Or.inl rfl) (pe_call G_state (hr.mono (by decide)) rfl m_state k_state b_state .nil pass0 (pa_cons (pv 0) pa_nil)))
      (pss_cons (ps_set (i := 2) sc_law.nd rfl (Or.inl rfl) (pe_call G_draw (hr.mono (by decide)) rfl m_draw k_draw b_draw .nil pass0 (pa_cons (pv 1) (pa_cons pe_int pa_nil))))
      (pss_cons (ps_set (i := 3) sc_law.nd rfl (Or.inl rfl) (pe_call G_draw (hr.mono (by decide)) rfl m_draw k_draw b_draw .nil pass0 (pa_cons (pv 1) (pa_cons pe_int pa_nil))))
      (pss_cons (ps_set (i := 4) sc_law.nd rfl (Or.inl rfl) (pe_op op_add pe_int (pe_call G_draw (hr.mono (by decide)) rfl m_draw k_draw b_draw .nil pass0 (pa_cons (pv 1) (pa_cons pe_int pa_nil)))))
      (pss_cons (ps_set (i := 5) sc_law.nd rfl (Or.inl rfl) (pe_op op_mul (pv 4) (pe_call G_great (hr.mono (by decide)) rfl m_great k_great b_great .nil pass0 (pa_cons (pv 1) pa_nil))))
      (pss_cons (ps_set (i := 6) sc_law.nd rfl (Or.inl rfl) (pe_op op_mul (pv 4) (pe_call G_great (hr.mono (by decide)) rfl m_great k_great b_great .nil pass0 (pa_cons (pv 1) pa_nil))))
      (C8.pss_cut (ps_if (pt_cmpR op_eq (pv 6) pe_int (nomark _))
        (pss_one (ps_set (i := 6) sc_law.nd rfl (Or.inl rfl) (pe_un un_neg (pv 4))))
        pss_nil)
      (pss_cons (ps_if (PW.pt (pw_or (pt_not (pt_val (pe_call G_good (hr.mono (by decide)) rfl m_good k_good b_good .nil pass0 (pa_cons (pv 5) (pa_cons (pv 6) (pa_cons (pe_make M G_R (hr.mono (by decide)) rfl m_C b_R .nil passL (pa_cons (pv 5) (pa_cons (pv 6) pa_nil))) pa_nil)))))) (pw_or1 (pt_not (pt_val (pe_call G_good (hr.mono (by decide)) rfl m_good k_good b_good .nil pass0 (pa_cons (pv 5) (pa_cons pe_int (pa_cons (pe_make M G_R (hr.mono (by decide)) rfl m_C b_R1 v_R1 passL (pa_cons (pv 5) pa_nil)) pa_nil)))))))))
        (pss_one (ps_ret pe_bl))
        pss_nil)
      (pss_cons (ps_if (PW.pt (pw_or (pt_not (pt_val (pe_call G_good (hr.mono (by decide)) rfl m_good k_good b_good .nil pass0 (pa_cons pe_int (pa_cons (pv 6) (pa_cons (pe_make M G_R (hr.mono (by decide)) rfl m_C b_R .nil passL (pa_cons pe_int (pa_cons (pv 6) pa_nil))) pa_nil)))))) (pw_or1 (pt_not (pt_val (pe_call G_good (hr.mono (by decide)) rfl m_good k_good b_good .nil pass0 (pa_cons (pv 5) (pa_cons (pv 6) (pa_cons (pe_makeK0 M G_R (hr.mono (by decide)) rfl m_C b_RK passL (pk_cons (pv 6) (pk_cons (pv 5) pk_nil))) pa_nil)))))))))
        (pss_one (ps_ret pe_bl))
        pss_nil)
      (pss_cons (ps_set (i := 7) sc_law.nd rfl (Or.inl rfl) (pe_lst (pa_cons pe_str (pa_cons pe_bl (pa_cons pe_non (pa_cons (pe_tup (pa_cons pe_int (pa_cons pe_int pa_nil))) (pa_cons (pe_lst pa_nil) (pa_cons pe_bl (pa_cons pe_str (pa_cons (pe_make M G_R (hr.mono (by decide)) rfl m_C b_R1 v_R1 passL (pa_cons pe_int pa_nil)) (pa_cons pe_dnewK pa_nil)))))))))))
      (pss_cons (ps_if (pt_cmpR (op_neD hr.units) (pe_call G_try (hr.mono (by decide)) rfl m_try k_try b_try .nil passL (pa_cons (pe_ix ix_list (pv 7) (pv 2) (fun _ _ => rfl)) (pa_cons (pv 6) pa_nil))) (pe_tup (pa_cons pe_str (pa_cons pe_str pa_nil))) (nomark _))
        (pss_one (ps_ret pe_bl))
        pss_nil)
      (pss_cons (ps_if (pt_cmpR (op_neD hr.units) (pe_call G_try (hr.mono (by decide)) rfl m_try k_try b_try .nil passL (pa_cons (pe_ix ix_list (pv 7) (pv 2) (fun _ _ => rfl)) (pa_cons (pe_ix ix_list (pv 7) (pv 3) (fun _ _ => rfl)) pa_nil))) (pe_tup (pa_cons pe_str (pa_cons pe_str pa_nil))) (nomark _))
        (pss_one (ps_ret pe_bl))
        pss_nil)
      (pss_cons (ps_if (pt_cmpR (op_neD hr.units) (pe_call G_try (hr.mono (by decide)) rfl m_try k_try b_try .nil passL (pa_cons (pe_ix ix_list (pv 7) (pv 2) (fun _ _ => rfl)) (pa_cons pe_int pa_nil))) (pe_tup (pa_cons pe_str (pa_cons pe_str pa_nil))) (nomark _))
        (pss_one (ps_ret pe_bl))
        pss_nil)
      (pss_cons (ps_if (pt_cmpR (op_neD hr.units) (pe_call G_try (hr.mono (by decide)) rfl m_try k_try b_try .nil passL (pa_cons (pv 5) (pa_cons (pe_ix ix_list (pv 7) (pv 3) (fun _ _ => rfl)) pa_nil))) (pe_tup (pa_cons pe_str (pa_cons pe_str pa_nil))) (nomark _))
        (pss_one (ps_ret pe_bl))
        pss_nil)
      (pss_one (ps_ret (pe_and (pe_cmpR (op_eqD hr.units) (pe_call G_try (hr.mono (by decide)) rfl m_try k_try b_try .nil passL (pa_cons (pv 5) (pa_cons pe_int pa_nil))) (pe_tup (pa_cons pe_str (pa_cons pe_str pa_nil))) (nomark _)) (pe_one (pe_cmpR (op_eqD hr.units) (pe_call G_try (hr.mono (by decide)) rfl m_try k_try b_try .nil passL (pa_cons (pv 5) (pa_cons (pv 6) pa_nil))) (pe_tup (pa_cons pe_str (pa_cons pe_str pa_nil))) (nomark _)))))))))))))))))))), ?_⟩
    refine ⟨_, rfl, sc, ns, rfl, hS, hl, fun p H1 hp S1 B1 => ?_⟩
    refine ⟨_, rfl, p, _, rfl, by decide, by decide, S1, fun wt H2 wt0 wt1 S2 B2 => ?_⟩
    refine ⟨_, rfl, p, _, rfl, by decide, by decide, S2, fun wb H3 wb0 wb1 S3 B3 => ?_⟩
    refine ⟨_, rfl, p, _, rfl, by decide, by decide, S3, fun d H4 d0 d1 S4 B4 => ⟨_, _, rfl, rfl, ?_⟩⟩
    refine ⟨_, rfl, _, rfl, p, rfl, S4, fun v5 H5 v5b S5 B5 => ⟨_, _, rfl, rfl, .inl ⟨by omega, by omega⟩, ?_⟩⟩
    refine ⟨_, rfl, _, rfl, p, rfl, S5, fun v6 H6 v6b S6 B6 => ⟨_, _, rfl, rfl, .inl ⟨by omega, by omega⟩, ?_⟩⟩
    have ha : ((1 + d) * v5).natAbs < 2 ^ 124 := mul_big (by omega) (by omega) v5b
    have hb' : ((1 + d) * v6).natAbs < 2 ^ 124 := mul_big (by omega) (by omega) v6b
    generalize hA : (1 + d) * v5 = a at ha
    refine ⟨fun σ H' => H' = H6 ∧ ∃ b : Int, b ≠ 0 ∧ b.natAbs < 2 ^ 124 ∧ σ = [some (.ref sc), some (.ref p), some (.int wt), some (.int wb), some (.int (1 + d)), some (.int a), some (.int b), none], ?_, ?_⟩
    · refine ⟨_, rfl, rfl, _, rfl, ?_⟩
      refine ite2 (fun c => ?_) (fun c => ?_)
      · refine ⟨_, rfl, _, rfl, rfl, -(1 + d), by omega, ?_, ?_⟩
        · omega
        · rw [← hA]
          rfl
      · refine ⟨rfl, (1 + d) * v6, fun e => c (decide_eq_true (congrArg V.int e)), hb', ?_⟩
        rw [← hA]
        rfl
    rintro σ H' ⟨rfl, b, hb, hbb, rfl⟩
    clear hA hb' B6 B5 B4 B3 B2 B1
    have one : (1 : Int).natAbs < 2 ^ 124 := by decide
    have nil : (0 : Int).natAbs < 2 ^ 124 := by decide
    have bb := big_ok hbb (n := 8000) (by decide)
    have bb4 := big_ok hbb (n := 4000) (by decide)
    have a4 := big_ok ha (n := 4000) (by decide)
    -- the good ones
    refine ⟨_, rfl, _, rfl, _, rfl, _, rfl, fun x dx nx ndx ne => mk_go hb bb nx ndx ne fun t u H1 L1 R1 s1 => ⟨rfl, a, b, x, t, u, rfl, R1, L1, a4, bb4, _, rfl, iteF ?_⟩⟩
    refine ⟨_, rfl, _, rfl, fun x dx nx ndx ne => mk_go (by decide) (big_ok one (by decide)) nx ndx ne fun t u H2 L1 R1 s2 => ⟨rfl, a, 1, x, t, u, rfl, R1, L1, a4, big_ok one (by decide), _, rfl, iteF ?_⟩⟩
    refine ⟨_, rfl, _, rfl, fun x dx nx ndx ne => mk_go hb bb nx ndx ne fun t u H3 L1 R1 s3 => ⟨rfl, 0, b, x, t, u, rfl, R1, L1, big_ok nil (by decide), bb4, _, rfl, iteF ?_⟩⟩
    refine ⟨_, rfl, _, rfl, _, rfl, _, rfl, rfl, rfl, fun x dx nx ndx ne => mk_go hb bb nx ndx ne fun t u H4 L1 R1 s4 => ⟨rfl, a, b, x, t, u, rfl, R1, L1, a4, bb4, _, rfl, iteF ?_⟩⟩
    -- the strange ones
    refine ⟨(by show 2 ≤ sizeLine; decide), fun q1 hq1 => ⟨(by show 0 ≤ sizeLine; decide), fun q2 hq2 => fun x5 dx5 nx5 ndx5 ne5 => mk_go (by decide) (big_ok one (by decide)) nx5 ndx5 ne5 fun t5 u5 H5 L5 R5 s5 => ⟨rfl, fun q4 hq4 => ⟨(by show 9 ≤ sizeLine; decide), fun q5 hq5 => ?_⟩⟩⟩⟩
    have sF : Same H5 (upd (upd H5 q4 (.dK [])) q5 (.lst [.str "3", .bl true, .non, .ref q1, .ref q2, .bl false, .str "", .ref x5, .ref q4])) := same_new (same_new (Same.refl _) hq4) hq5
    have hL : (upd (upd H5 q4 (.dK [])) q5 (.lst [.str "3", .bl true, .non, .ref q1, .ref q2, .bl false, .str "", .ref x5, .ref q4])) q5 = some (.lst [.str "3", .bl true, .non, .ref q1, .ref q2, .bl false, .str "", .ref x5, .ref q4]) := upd_same
    have f1 : H5 q1 = some (.tup [.int 1, .int 2]) := s5 _ _ ((upd_ne (ne_of_none upd_same hq2)).trans upd_same)
    have f2 : H5 q2 = some (.lst []) := s5 _ _ upd_same
    have f4 : (upd (upd H5 q4 (.dK [])) q5 (.lst [.str "3", .bl true, .non, .ref q1, .ref q2, .bl false, .str "", .ref x5, .ref q4])) q4 = some (.dK []) := (upd_ne (ne_of_none upd_same hq5)).trans upd_same
    have hst : ∀ v ∈ ([.str "3", .bl true, .non, .ref q1, .ref q2, .bl false, .str "", .ref x5, .ref q4] : List V), Strange K (upd (upd H5 q4 (.dK [])) q5 (.lst [.str "3", .bl true, .non, .ref q1, .ref q2, .bl false, .str "", .ref x5, .ref q4])) v := by
      intro v hv
      rcases List.mem_cons.mp hv with rfl | hv
      · exact ⟨.str _, rfl⟩
      rcases List.mem_cons.mp hv with rfl | hv
      · exact ⟨.bl _, rfl⟩
      rcases List.mem_cons.mp hv with rfl | hv
      · exact ⟨.non, rfl⟩
      rcases List.mem_cons.mp hv with rfl | hv
      · exact ⟨.tup (sF _ _ f1), rfl⟩
      rcases List.mem_cons.mp hv with rfl | hv
      · exact ⟨.lst (sF _ _ f2), rfl⟩
      rcases List.mem_cons.mp hv with rfl | hv
      · exact ⟨.bl _, rfl⟩
      rcases List.mem_cons.mp hv with rfl | hv
      · exact ⟨.str _, rfl⟩
      rcases List.mem_cons.mp hv with rfl | hv
      · exact ⟨(R5.isTy T Y).same sF, rfl⟩
      rcases List.mem_cons.mp hv with rfl | hv
      · exact ⟨.dK f4, rfl⟩
      cases hv
    obtain ⟨u, au, tu, iu⟩ := pick hst wt0 wt1
    obtain ⟨v, av, tv, iv⟩ := pick hst wb0 wb1
    have sbb := int_size hbb
    have szr := int_size nil
    refine ⟨_, rfl, _, rfl, _, _, _, _, rfl, rfl, SqL.of hL, au, _, rfl, u, .int b, rfl, tu, .int b, sbb, fun p1 G1 g1 hp1 => ⟨(by show 2 ≤ sizeLine; decide), fun p2 hp2 => ?_⟩⟩
    rw [told_of (due_top iu)] at hp1
    refine ne_told (by decide +kernel) ((upd_ne (ne_of_none hp1 hp2)).trans hp1) upd_same ⟨_, rfl, iteF ?_⟩
    replace g1 := same_new (o := .tup [.str "refused", .str "top"]) g1 hp2
    refine ⟨_, rfl, _, rfl, _, _, _, _, rfl, rfl, SqL.of (g1 _ _ hL), au, _, rfl, _, rfl, _, _, _, _, rfl, rfl, SqL.of (g1 _ _ hL), av, u, v, rfl, tu.same g1, tv.same g1, isI_size iv, fun p1 G2 g2 hp1 => ⟨(by show 2 ≤ sizeLine; decide), fun p2 hp2 => ?_⟩⟩
    rw [told_of (due_top iu)] at hp1
    refine ne_told (by decide +kernel) ((upd_ne (ne_of_none hp1 hp2)).trans hp1) upd_same ⟨_, rfl, iteF ?_⟩
    replace g2 := same_new (o := .tup [.str "refused", .str "top"]) g2 hp2
    replace g2 := g1.trans g2
    refine ⟨_, rfl, _, rfl, _, _, _, _, rfl, rfl, SqL.of (g2 _ _ hL), au, u, .int 0, rfl, tu.same g2, .int 0, szr, fun p1 G3 g3 hp1 => ⟨(by show 2 ≤ sizeLine; decide), fun p2 hp2 => ?_⟩⟩
    rw [told_of (due_top iu)] at hp1
    refine ne_told (by decide +kernel) ((upd_ne (ne_of_none hp1 hp2)).trans hp1) upd_same ⟨_, rfl, iteF ?_⟩
    replace g3 := same_new (o := .tup [.str "refused", .str "top"]) g3 hp2
    replace g3 := g2.trans g3
    refine ⟨_, rfl, _, rfl, _, rfl, _, _, _, _, rfl, rfl, SqL.of (g3 _ _ hL), av, .int a, v, rfl, .int a, tv.same g3, isI_size iv, fun p1 G4 g4 hp1 => ⟨(by show 2 ≤ sizeLine; decide), fun p2 hp2 => ?_⟩⟩
    rw [told_of (due_bottom iv)] at hp1
    refine ne_told (by decide +kernel) ((upd_ne (ne_of_none hp1 hp2)).trans hp1) upd_same ⟨_, rfl, iteF ?_⟩
    replace g4 := same_new (o := .tup [.str "refused", .str "bottom"]) g4 hp2
    refine ⟨_, rfl, .int a, .int 0, rfl, .int a, .int 0, szr, fun p1 G5 g5 hp1 => ⟨(by show 2 ≤ sizeLine; decide), fun p2 hp2 => ?_⟩⟩
    rw [told_of (d := dueW (.int a) (.int 0)) (z := "zero") rfl] at hp1
    refine eq_told (by decide +kernel) ((upd_ne (ne_of_none hp1 hp2)).trans hp1) upd_same ⟨_, rfl, iteT ?_⟩
    refine ⟨_, rfl, _, rfl, .int a, .int b, rfl, .int a, .int b, sbb, fun p3 G6 g6 hp3 => ⟨(by show 2 ≤ sizeLine; decide), fun p4 hp4 => ?_⟩⟩
    rw [due_none hb] at hp3
    exact eq_told (by decide +kernel) ((upd_ne (ne_of_none hp3 hp4)).trans hp3) upd_same (k _)
end
end Sq

namespace Sq
open PySem PySem.Spec PyProof.Rows L2
theorem cls_some {K : PySem.W.Frag} {C : Addr} (h : PySem.W.hasDictIn K C = true) : (PySem.W.clsIn K C).isSome = true := by
  obtain ⟨cd, hc, _⟩ := PySem.W.any_some h
  rw [hc]
  rfl
theorem kit_own {K : PySem.W.Frag} {C : Addr} {t : Value} (h : PySem.W.hasDictIn K C = true) (ht : PySem.W.typeIn K (.ref C) = some (.type "type")) (hs : PySem.W.subIn K t (.ref C) = some true) : PySem.W.kitOne K t (.ref C) = some true := by
  unfold PySem.W.kitOne
  split
  · rfl
  · show (if ((PySem.W.clsIn K C).isSome && PySem.W.typeIn K (.ref C) == some (.type "type")) = true then PySem.W.subIn K t (.ref C) else none) = some true
    rw [cls_some h, ht]
    simpa using hs
theorem kit_ty2 {K : PySem.W.Frag} {C : Addr} {T : String} {b : Bool} (hm : PySem.W.kitMeta T = true) (hs : PySem.W.subIn K (.ref C) (.type T) = some b) : PySem.W.kitOne K (.ref C) (.type T) = some b := by
  unfold PySem.W.kitOne
  rw [if_neg (by simp)]
  show (if PySem.W.kitMeta T = true then PySem.W.subIn K (.ref C) (.type T) else none) = some b
  rw [if_pos hm]
  exact hs
theorem all_mk {P : Program} {w : World} {K : PySem.W.Frag} {h : Heap} {mg : Str → Option Value} {fa : Addr} (X : K.In h) (G : h.Ns mainGlobals mg) (hfa : mg "law" = some (.ref fa))
    {CR CN CS fNI fII fRI fst fdr fgc fli fgr fgo ftr fla dRI Na : Addr} {odNI anNI odII anII odRI anRI odst anst oddr andr odgc angc odli anli odgr angr odgo ango odtr antr odla anla oe1RI dd : Option Addr} {slNI slII slRI slst sldr slgc slli slgr slgo sltr slla skRI : Array (Option Value)} {ocNI kVNI dcNI pmNI cdNI ctNI ocII kVII dcII pmII cdII ctII ocRI kVRI dcRI pmRI cdRI ctRI ocst kVst dcst pmst cdst ctst ocdr kVdr dcdr pmdr cddr ctdr ocgc kVgc dcgc pmgc cdgc ctgc ocli kVli dcli pmli cdli ctli ocgr kVgr dcgr pmgr cdgr ctgr ocgo kVgo dcgo pmgo cdgo ctgo octr kVtr dctr pmtr cdtr cttr ocla kVla dcla pmla cdla ctla oeRI : Value} {nRI : Nat} {tkRI : Tok} {nm q : Str} {bs : List Value} {sn : List Str} {sub : List Value} {ab : Bool} {col : Option Bool} {m0 m1 m2 m3 m5 : Option Value}
    (aR : PySem.W.nsIn K mainGlobals "Ratio" = some (some (.ref CR)))
    (aN : PySem.W.nsIn K mainGlobals "NoRatio" = some (some (.ref CN)))
    (aS : PySem.W.nsIn K mainGlobals "SeriesError" = some (some (.ref CS)))
    (aNI : PySem.W.findIn K (.ref CN) "__init__" = some (some (.ref fNI)))
    (lNI : K.lookup fNI = some ⟨ocNI, odNI, .func (PySem.W.fnOf "__init__" "NoRatio.__init__" (defArgs s_noRatioInit) (defBody s_noRatioInit) (defScope s_noRatioInit) .none kVNI dcNI pmNI anNI cdNI ctNI), slNI⟩)
    (cNI : PySem.W.codeIn K cdNI "NoRatio.__init__" = true)
    (kNI : PySem.W.keepIn K (.ref fNI) = true)
    (iNI : PySem.W.isFn K (.ref fNI) = true)
    (aII : PySem.W.nsIn K mainGlobals "is_an_integer" = some (some (.ref fII)))
    (lII : K.lookup fII = some ⟨ocII, odII, .func (PySem.W.fnOf "is_an_integer" "is_an_integer" (defArgs s_isint) (defBody s_isint) (defScope s_isint) .none kVII dcII pmII anII cdII ctII), slII⟩)
    (cII : PySem.W.codeIn K cdII "is_an_integer" = true)
    (kII : PySem.W.keepIn K (.ref fII) = true)
    (aRI : PySem.W.findIn K (.ref CR) "__init__" = some (some (.ref fRI)))
    (lRI : K.lookup fRI = some ⟨ocRI, odRI, .func (PySem.W.fnOf "__init__" "Ratio.__init__" (defArgs s_ratioInit) (defBody s_ratioInit) (defScope s_ratioInit) (.ref dRI) kVRI dcRI pmRI anRI cdRI ctRI), slRI⟩)
    (cRI : PySem.W.codeIn K cdRI "Ratio.__init__" = true)
    (kRI : PySem.W.keepIn K (.ref fRI) = true)
    (iRI : PySem.W.isFn K (.ref fRI) = true)
    (eRI : K.lookup dRI = some ⟨oeRI, oe1RI, .seq #[Value.int 1 tkRI] nRI, skRI⟩)
    (ast : PySem.W.nsIn K mainGlobals "_law_state" = some (some (.ref fst)))
    (lst : K.lookup fst = some ⟨ocst, odst, .func (PySem.W.fnOf "_law_state" "_law_state" (defArgs s_state) (defBody s_state) (defScope s_state) .none kVst dcst pmst anst cdst ctst), slst⟩)
    (cst : PySem.W.codeIn K cdst "_law_state" = true)
    (kst : PySem.W.keepIn K (.ref fst) = true)
    (adr : PySem.W.nsIn K mainGlobals "_law_draw" = some (some (.ref fdr)))
    (ldr : K.lookup fdr = some ⟨ocdr, oddr, .func (PySem.W.fnOf "_law_draw" "_law_draw" (defArgs s_draw) (defBody s_draw) (defScope s_draw) .none kVdr dcdr pmdr andr cddr ctdr), sldr⟩)
    (cdr : PySem.W.codeIn K cddr "_law_draw" = true)
    (kdr : PySem.W.keepIn K (.ref fdr) = true)
    (agc : PySem.W.nsIn K mainGlobals "_law_gcd" = some (some (.ref fgc)))
    (lgc : K.lookup fgc = some ⟨ocgc, odgc, .func (PySem.W.fnOf "_law_gcd" "_law_gcd" (defArgs s_gcd) (defBody s_gcd) (defScope s_gcd) .none kVgc dcgc pmgc angc cdgc ctgc), slgc⟩)
    (cgc : PySem.W.codeIn K cdgc "_law_gcd" = true)
    (kgc : PySem.W.keepIn K (.ref fgc) = true)
    (ali : PySem.W.nsIn K mainGlobals "_law_is_integer" = some (some (.ref fli)))
    (lli : K.lookup fli = some ⟨ocli, odli, .func (PySem.W.fnOf "_law_is_integer" "_law_is_integer" (defArgs s_lisint) (defBody s_lisint) (defScope s_lisint) .none kVli dcli pmli anli cdli ctli), slli⟩)
    (cli : PySem.W.codeIn K cdli "_law_is_integer" = true)
    (kli : PySem.W.keepIn K (.ref fli) = true)
    (agr : PySem.W.nsIn K mainGlobals "_law_great" = some (some (.ref fgr)))
    (lgr : K.lookup fgr = some ⟨ocgr, odgr, .func (PySem.W.fnOf "_law_great" "_law_great" (defArgs s_great) (defBody s_great) (defScope s_great) .none kVgr dcgr pmgr angr cdgr ctgr), slgr⟩)
    (cgr : PySem.W.codeIn K cdgr "_law_great" = true)
    (kgr : PySem.W.keepIn K (.ref fgr) = true)
    (ago : PySem.W.nsIn K mainGlobals "_law_good" = some (some (.ref fgo)))
    (lgo : K.lookup fgo = some ⟨ocgo, odgo, .func (PySem.W.fnOf "_law_good" "_law_good" (defArgs s_good) (defBody s_good) (defScope s_good) .none kVgo dcgo pmgo ango cdgo ctgo), slgo⟩)
    (cgo : PySem.W.codeIn K cdgo "_law_good" = true)
    (kgo : PySem.W.keepIn K (.ref fgo) = true)
    (atr : PySem.W.nsIn K mainGlobals "_law_try" = some (some (.ref ftr)))
    (ltr : K.lookup ftr = some ⟨octr, odtr, .func (PySem.W.fnOf "_law_try" "_law_try" (defArgs s_try) (defBody s_try) (defScope s_try) .none kVtr dctr pmtr antr cdtr cttr), sltr⟩)
    (ctr : PySem.W.codeIn K cdtr "_law_try" = true)
    (ktr : PySem.W.keepIn K (.ref ftr) = true)
    (ala : PySem.W.nsIn K mainGlobals "law" = some (some (.ref fla)))
    (lla : K.lookup fla = some ⟨ocla, odla, .func (PySem.W.fnOf "law" "law" (defArgs s_law) (defBody s_law) (defScope s_law) .none kVla dcla pmla anla cdla ctla), slla⟩)
    (cla : PySem.W.codeIn K cdla "law" = true)
    (kla : PySem.W.keepIn K (.ref fla) = true)
    (pgR : PySem.W.plainGet K CR Str.empty = true)
    (hdR : PySem.W.hasDictIn K CR = true)
    (poR : PySem.W.plainOver K CR = true)
    (saR : PySem.W.findIn K (.ref CR) "__setattr__" = some (some (.builtin "object.__setattr__")))
    (mkR : PySem.W.makesIn K CR = true)
    (kcR : PySem.W.keepIn K (.ref CR) = true)
    (nR_top : PySem.W.findIn K (.ref CR) "top" = some none)
    (nR_bottom : PySem.W.findIn K (.ref CR) "bottom" = some none)
    (g_gcd : PySem.W.nsIn K mainGlobals "gcd" = some (some (.builtin "math.gcd")))
    (z_len : PySem.W.nsIn K mainGlobals "len" = some none)
    (z_abs : PySem.W.nsIn K mainGlobals "abs" = some none)
    (z_int : PySem.W.nsIn K mainGlobals "int" = some none)
    (z_range : PySem.W.nsIn K mainGlobals "range" = some none)
    (z_isinstance : PySem.W.nsIn K mainGlobals "isinstance" = some none)
    (z_bool : PySem.W.nsIn K mainGlobals "bool" = some none)
    (z_ValueError : PySem.W.nsIn K mainGlobals "ValueError" = some none)
    (xL : K.lookup CN = some (excClassObj nm q CN Na bs [.ref CS, .type "ValueError", .type "Exception", .type "BaseException", .type "object"] true sn sub ab col dd m0 m1 m2 m3 m5 "ValueError.__new__"))
    (x1 : PySem.W.findIn K (.ref CN) "__setattr__" = some (some (.builtin "object.__setattr__")))
    (x2 : PySem.W.subIn K (.ref CN) (.type "BaseException") = some true)
    (x3 : PySem.W.typeIn K (.ref CN) = some (.type "type"))
    (x4 : PySem.W.keepIn K (.ref CN) = true)
    (x5 : PySem.W.findIn K (.ref CN) "word" = some none)
    (x6 : PySem.W.typeIn K (.ref fNI) = some (.type "function"))
    (x7 : PySem.W.subIn K (.ref CN) (.ref CN) = some true)
    (x8 : PySem.W.subIn K (.ref CN) (.ref CS) = some true)
    (x8t : PySem.W.typeIn K (.ref CS) = some (.type "type"))
    (x8h : PySem.W.hasDictIn K CS = true)
    (x9 : PySem.W.subIn K (.ref CN) (.type "ValueError") = some true)
    (y2 : PySem.W.findIn K (.ref CN) "__getattribute__" = some (some (.builtin "BaseException.__getattribute__")))
    (y3 : PySem.W.findIn K (.ref CN) "__getattr__" = some none)
    (y4 : PySem.W.findIn K (.ref CN) "__class__" = some (some (.builtin "object.__class__")))
    (y5 : PySem.W.specialIn K (.builtin "object.__class__") "__get__" = some (some (.builtin "getset_descriptor.__get__")))
    (y6 : PySem.W.takesIn K (.builtin "object.__class__") = some true)
    (y7 : PySem.W.mroIn K CN (.type "object") = some true)
    (y8 : PySem.W.hasDictIn K CN = true)
    (w1 : PySem.W.findIn K (.ref CR) "__class__" = some (some (.builtin "object.__class__")))
    (w2 : PySem.W.mroIn K CR (.type "object") = some true)
    (w3 : PySem.W.subIn K (.ref CR) (.type "int") = some false)
    (w4 : PySem.W.subIn K (.ref CR) (.type "bool") = some false) :
    ∃ fd : FuncData, (∀ (s : Shared) (v : Value), BindsTo s fd ⟨[v], []⟩ [("_law_script", v)]) ∧ ∀ base : Heap, K.In base → base.Ns mainGlobals mg → FnOk P w K mg base CX0 6 fa fd ["_law_script"] (spLaw K) := by
  have e := hfa.symm.trans (PySem.W.mg_of X G ala)
  cases e
  have D : DTx mg := ⟨PySem.W.mg_none_of X G z_len, PySem.W.mg_none_of X G z_abs, PySem.W.mg_none_of X G z_int, PySem.W.mg_none_of X G z_range⟩
  have I : ITx mg := ⟨PySem.W.mg_none_of X G z_isinstance, PySem.W.mg_none_of X G z_int, PySem.W.mg_none_of X G z_bool⟩
  have T : CTx K CR := ⟨⟨pgR, hdR, poR, saR⟩, nR_top, nR_bottom⟩
  have Y : ITy K CR := ⟨w1, y5, y6, w2, kit_ty2 (by decide +kernel) w3, kit_ty2 (by decide +kernel) w4⟩
  have N : NTx K mg CN fNI := ⟨⟨⟨nm, q, Na, bs, _, sn, sub, ab, col, dd, m0, m1, m2, m3, m5, xL, rfl⟩, x1, x2, x3, x4⟩, x5, aNI, x6⟩
  have GT : GTx mg CN := ⟨PySem.W.mg_of X G g_gcd, PySem.W.mg_of X G aN⟩
  have XT : XTx K mg CN CS := ⟨PySem.W.mg_of X G aN, PySem.W.mg_of X G aS, PySem.W.mg_none_of X G z_ValueError, PySem.W.exm_ref x2 y8 x3 x7, kit_own x8h x8t x8, kit_ty2 (by decide +kernel) x9, ⟨cls_some y8, y2, y3, x2, y4, y5, y6, y7⟩, ⟨y2, y3, x2, y8⟩⟩
  have F_NI := fun_mk (st := s_noRatioInit) lNI cNI kNI
  have F_II := fun_mk (st := s_isint) lII cII kII
  have F_RI : FunD K "__init__" "Ratio.__init__" (defArgs s_ratioInit) (defBody s_ratioInit) (defScope s_ratioInit) [.int 1] [] fRI _ := ⟨⟨_, _, _, _, _, _, _, _, _, _, rfl, lRI, cRI, .inr ⟨by simp, dRI, _, [Value.int 1 tkRI], nRI, rfl, eRI, rfl, .cons ⟨_, rfl⟩ .nil⟩, .inl rfl⟩, kRI⟩
  have F_st := fun_mk (st := s_state) lst cst kst
  have F_dr := fun_mk (st := s_draw) ldr cdr kdr
  have F_gc := fun_mk (st := s_gcd) lgc cgc kgc
  have F_li := fun_mk (st := s_lisint) lli cli kli
  have F_gr := fun_mk (st := s_great) lgr cgr kgr
  have F_go := fun_mk (st := s_good) lgo cgo kgo
  have F_tr := fun_mk (st := s_try) ltr ctr ktr
  have F_la := fun_mk (st := s_law) lla cla kla
  have b_NI := F_NI.binds (ps := ["self", "word"]) fun _ _ _ _ _ _ us hl => match us, hl with | [_, _], _ => rfl
  have b_II := F_II.binds (ps := ["value"]) fun _ _ _ _ _ _ us hl => match us, hl with | [_], _ => rfl
  have b_st := F_st.binds (ps := ["_law_script"]) fun _ _ _ _ _ _ us hl => match us, hl with | [_], _ => rfl
  have b_dr := F_dr.binds (ps := ["_law_state_here", "_law_many"]) fun _ _ _ _ _ _ us hl => match us, hl with | [_, _], _ => rfl
  have b_gc := F_gc.binds (ps := ["_law_one", "_law_other"]) fun _ _ _ _ _ _ us hl => match us, hl with | [_, _], _ => rfl
  have b_li := F_li.binds (ps := ["_law_told"]) fun _ _ _ _ _ _ us hl => match us, hl with | [_], _ => rfl
  have b_gr := F_gr.binds (ps := ["_law_state_here"]) fun _ _ _ _ _ _ us hl => match us, hl with | [_], _ => rfl
  have b_go := F_go.binds (ps := ["_law_a", "_law_b", "_law_made"]) fun _ _ _ _ _ _ us hl => match us, hl with | [_, _, _], _ => rfl
  have b_tr := F_tr.binds (ps := ["_law_a", "_law_b"]) fun _ _ _ _ _ _ us hl => match us, hl with | [_, _], _ => rfl
  obtain ⟨ds0, v0, b_R⟩ := F_RI.binds1 (ps := ["self", "top", "bottom"]) 3 1 (by simp) rfl fun _ _ _ _ _ _ _ us its hl hi => match us, its, hl, hi with | [_, _, _], [_], _, _ => ⟨_, rfl, rfl⟩
  obtain ⟨ds1, v1, b_R1⟩ := F_RI.binds1 (ps := ["self", "top", "bottom"]) 2 0 (by simp) rfl fun _ _ _ _ _ _ _ us its hl hi => match us, its, hl, hi with | [_, _], [_], _, _ => ⟨_, rfl, rfl⟩
  obtain ⟨its, b_RK⟩ := F_RI.kbindsD (ps := ["self", "top", "bottom"]) 1 ["bottom", "top"] (fun us _ ws => gBT us ws) (by simp) (fun r1 _ r2 => by
      cases r2 with
      | nil => exact r1
      | cons a r2 =>
        cases r2 with
        | nil => exact r1
        | cons b r2 =>
          cases r2 with
          | nil => exact Vals.append r1 (.cons b (.cons a .nil))
          | cons c r2 => exact r1)
    fun _ _ _ _ _ _ _ us its ws h1 h2 h3 => match us, its, ws, h1, h2, h3 with | [_], [_], [_, _], _, _, _ => ⟨_, rfl, rfl⟩
  cases v0
  refine ⟨PySem.W.fnOf "law" "law" (defArgs s_law) (defBody s_law) (defScope s_law) .none kVla dcla pmla anla cdla ctla, fun s v => .of_eq rfl, fun base _ _ => ?_⟩
  have G_N := ok_noRatioInit (P := P) (w := w) (mg := mg) (base := base) F_NI N
  have G_I := ok_isint (P := P) (w := w) (base := base) F_II I
  have m_I : mg "is_an_integer" = some (.ref fII) := PySem.W.mg_of X G aII
  have G_R := ok_ratioInit (P := P) (w := w) (base := base) F_RI T N GT G_N b_NI G_I m_I kII b_II
  have G_dr := ok_draw (P := P) (w := w) (base := base) F_dr D
  have G_st := ok_state (P := P) (w := w) (base := base) F_st D
  have G_gc := ok_gcd (P := P) (w := w) (base := base) F_gc D
  have G_li := ok_lisint (P := P) (w := w) (base := base) F_li I
  have m_dr : mg "_law_draw" = some (.ref fdr) := PySem.W.mg_of X G adr
  have G_gr := ok_great (P := P) (w := w) (base := base) F_gr D G_dr m_dr kdr b_dr
  have m_R : mg "Ratio" = some (.ref CR) := PySem.W.mg_of X G aR
  have G_go := ok_good (P := P) (w := w) (base := base) F_go T Y I m_R G_li (PySem.W.mg_of X G ali) kli b_li G_gc (PySem.W.mg_of X G agc) kgc b_gc
  have M : Mk K CR fRI := ⟨mkR, aRI, iRI, kcR⟩
  have G_tr := ok_try (P := P) (w := w) (base := base) F_tr T N XT I m_R M G_R b_R
  exact ok_law F_la T Y m_R M G_R b_R b_R1 v1 b_RK G_st (PySem.W.mg_of X G ast) kst b_st G_dr m_dr kdr b_dr G_gr (PySem.W.mg_of X G agr) kgr b_gr G_go (PySem.W.mg_of X G ago) kgo b_go G_tr (PySem.W.mg_of X G atr) ktr b_tr
theorem walk {l : PySem.W.OpenLaw} {q : Program} {loose : List Str} {XP : (Str → Option Value) → Heap → Prop} {YP : World → Heap → Prop} {d : DefRec} {K : Params → PySem.W.Frag} (hn : l.most = some 63) (hdf : d.params.defaults = [])
    (hY : ∀ (w : World) (h : Heap), YP w h → (K w.params).In h)
    (F : ∀ (w : World) (mg : Str → Option Value) (fa : Addr) (h : Heap), (K w.params).In h → h.Ns mainGlobals mg → mg d.name = some (.ref fa) →
      ∃ fd : FuncData, (∀ (s : Shared) (u : Value), BindsTo s fd ⟨[u], []⟩ [("_law_script", u)]) ∧ ∀ base : Heap, (K w.params).In base → base.Ns mainGlobals mg → FnOk l.prog w (K w.params) mg base CX0 6 fa fd ["_law_script"] (spLaw (K w.params))) :
    PySem.W.WalkO q loose XP YP l.row.toRowW d [] (fun f vs => PySem.call f vs) :=
  L2.walk_of (n := 63) (k := 6) (x := "_law_script") (CX := fun _ => CX0) (sp := fun w => spLaw (K w.params)) hn (by decide) hdf ⟨rfl, by decide, by decide⟩ hY F (fun _ _ a ns hl _ hS => ⟨a, ns, rfl, hS, hl, fun _ => rfl⟩) fun _ _ _ _ _ z => z
end Sq

open PySem PySem.W PyProof.Rows
set_option maxRecDepth 100000 in
set_option maxHeartbeats 0 in
theorem PySem.Challenge.cw_seriessquares_k01_ratio_made_holds : PySem.Challenge.rw_seriessquares_k01_ratio_made.Holds := by
  w_on; o_law; k_head; (case hw => w_witness2)
  k_fill
  refine Sq.walk (l := PySem.Challenge.rw_seriessquares_k01_ratio_made) rfl rfl (fun w h Y => PySem.W.kIn_of Y) ?F
  case F =>
    intro w mg fa h KX G hmg
    refine' Sq.all_mk KX G hmg ?aR ?aN ?aS ?aNI ?lNI ?cNI ?kNI ?iNI ?aII ?lII ?cII ?kII ?aRI ?lRI ?cRI ?kRI ?iRI ?eRI ?ast ?lst ?cst ?kst ?adr ?ldr ?cdr ?kdr ?agc ?lgc ?cgc ?kgc ?ali ?lli ?cli ?kli ?agr ?lgr ?cgr ?kgr ?ago ?lgo ?cgo ?kgo ?atr ?ltr ?ctr ?ktr ?ala ?lla ?cla ?kla ?pgR ?hdR ?poR ?saR ?mkR ?kcR ?nR_top ?nR_bottom ?g_gcd ?z_len ?z_abs ?z_int ?z_range ?z_isinstance ?z_bool ?z_ValueError ?xL ?x1 ?x2 ?x3 ?x4 ?x5 ?x6 ?x7 ?x8 ?x8t ?x8h ?x9 ?y2 ?y3 ?y4 ?y5 ?y6 ?y7 ?y8 ?w1 ?w2 ?w3 ?w4
    (case aR => k_is)
    (case aN => k_is)
    (case aS => k_is)
    (case aNI => k_is)
    (case lNI => k_is)
    (case cNI => k_is)
    (case kNI => k_is)
    (case iNI => k_is)
    (case aII => k_is)
    (case lII => k_is)
    (case cII => k_is)
    (case kII => k_is)
    (case aRI => k_is)
    (case lRI => k_is)
    (case cRI => k_is)
    (case kRI => k_is)
    (case iRI => k_is)
    (case eRI => k_is)
    (case ast => k_is)
    (case lst => k_is)
    (case cst => k_is)
    (case kst => k_is)
    (case adr => k_is)
    (case ldr => k_is)
    (case cdr => k_is)
    (case kdr => k_is)
    (case agc => k_is)
    (case lgc => k_is)
    (case cgc => k_is)
    (case kgc => k_is)
    (case ali => k_is)
    (case lli => k_is)
    (case cli => k_is)
    (case kli => k_is)
    (case agr => k_is)
    (case lgr => k_is)
    (case cgr => k_is)
    (case kgr => k_is)
    (case ago => k_is)
    (case lgo => k_is)
    (case cgo => k_is)
    (case kgo => k_is)
    (case atr => k_is)
    (case ltr => k_is)
    (case ctr => k_is)
    (case ktr => k_is)
    (case ala => k_is)
    (case lla => k_is)
    (case cla => k_is)
    (case kla => k_is)
    (case pgR => k_is)
    (case hdR => k_is)
    (case poR => k_is)
    (case saR => k_is)
    (case mkR => k_is)
    (case kcR => k_is)
    (case nR_top => k_is)
    (case nR_bottom => k_is)
    (case g_gcd => k_is)
    (case z_len => k_is)
    (case z_abs => k_is)
    (case z_int => k_is)
    (case z_range => k_is)
    (case z_isinstance => k_is)
    (case z_bool => k_is)
    (case z_ValueError => k_is)
    (case xL => k_is)
    (case x1 => k_is)
    (case x2 => k_is)
    (case x3 => k_is)
    (case x4 => k_is)
    (case x5 => k_is)
    (case x6 => k_is)
    (case x7 => k_is)
    (case x8 => k_is)
    (case x8t => k_is)
    (case x8h => k_is)
    (case x9 => k_is)
    (case y2 => k_is)
    (case y3 => k_is)
    (case y4 => k_is)
    (case y5 => k_is)
    (case y6 => k_is)
    (case y7 => k_is)
    (case y8 => k_is)
    (case w1 => k_is)
    (case w2 => k_is)
    (case w3 => k_is)
    (case w4 => k_is)

