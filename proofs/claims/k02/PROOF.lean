import PyProof.Rows.All
import Wide.All
import OpenK.AllK
import Wide.FinOn
import HandS.ForMost
import HandS.ForExc
import HandS.Codes
import HandS.Wide
import HandS.Gcd
import HandS.Flow
import HandS.IsInst
import HandS.ExcInit
import HandS.ExcField
import HandS.ExcIs
import HandS.Defaults
import HandS.MakeKw
import HandS.MakeKwOnly
import HandS.TryOnly
import HandS.EndBits
import KE.KExcIs
import KE.KOpsOwn
import PySem.Challenge.RW_seriessquares_k02_ratio_arithmetic
set_option Elab.async false
set_option linter.all false
set_option maxRecDepth 100000
set_option maxHeartbeats 4000000
namespace Sq
open PySem L2
def top (i : Nat) : Stmt := PySem.Challenge.pw_seriessquares_k02_ratio_arithmetic.main.body.getD i (.Pass ⟨0, 0, 0, 0⟩)
abbrev s_state : Stmt := top 14
abbrev s_draw : Stmt := top 15
abbrev s_gcd : Stmt := top 16
abbrev s_lisint : Stmt := top 17
abbrev s_great : Stmt := top 18
/-- the heap stands but at p -/
def But (p : Addr) (H H' : Hp) : Prop := ∀ b o, H b = some o → b ≠ p → H' b = some o
theorem But.refl (p : Addr) (H : Hp) : But p H H := fun _ _ h _ => h
theorem But.trans {p : Addr} {H H1 H2 : Hp} (a : But p H H1) (b : But p H1 H2) : But p H H2 := fun c o h n => b c o (a c o h n) n
theorem But.upd {p : Addr} {H H1 : Hp} {o : HO} (a : But p H H1) : But p H (upd H1 p o) := fun c u h n => (upd_ne n).trans (a c u h n)
theorem But.new {p q : Addr} {H H1 : Hp} {o : HO} (a : But p H H1) (n : H1 q = none) : But p H (L2.upd H1 q o) := fun c u h nc => (upd_ne (ne_of_none (a c u h nc) n)).trans (a c u h nc)
theorem Same.but {p : Addr} {H H1 : Hp} (a : Same H H1) : But p H H1 := fun c u h _ => a c u h
/-- the five things of the state, and the script's ints -/
def St5 (H : Hp) (p a : Addr) (ns : List Int) (i l m c : Int) : Prop := H p = some (.lst [.ref a, .int i, .int l, .int m, .int c]) ∧ H a = some (.lst (ns.map V.int)) ∧ a ≠ p ∧ 0 ≤ i ∧ 0 ≤ m ∧ m < 2147483648
def StAt (H : Hp) (p : Addr) : Prop := ∃ a ns i l m c, St5 H p a ns i l m c
def spDraw : Sp := fun vs H Q _ => ∃ (p : Addr) (n : Int), vs = [.ref p, .int n] ∧ 0 < n ∧ n < 1073741824 ∧ StAt H p ∧ ∀ v H', 0 ≤ v → v < n → StAt H' p → But p H H' → Q (.int v) H'
theorem St5.set {H : Hp} {p a : Addr} {ns : List Int} {i l m c : Int} (S : St5 H p a ns i l m c) {i' l' m' c' : Int} (h0 : 0 ≤ i') (h1 : 0 ≤ m') (h2 : m' < 2147483648) :
    St5 (upd H p (.lst [.ref a, .int i', .int l', .int m', .int c'])) p a ns i' l' m' c' := ⟨upd_same, (upd_ne S.2.2.1).trans S.2.1, S.2.2.1, h0, h1, h2⟩
structure DTx (mg : Str → Option Value) : Prop where
  b_len : mg "len" = none
  b_abs : mg "abs" = none
  b_int : mg "int" = none
  b_range : mg "range" = none
section
variable {P : Program} {w : World} {K : PySem.W.Frag} {mg : Str → Option Value} {base : Heap}
theorem sc_draw : FnScope ["_law_state_here", "_law_many", "_law_item", "_law_found", "_law_twice"] ["_law_state_here", "_law_many"] (defScope s_draw) := ⟨rfl, rfl, rfl, by decide +kernel, rfl, by decide +kernel, by decide +kernel⟩
theorem ok_draw {f : Addr} {fd : FuncData} (F : Fun K "_law_draw" "_law_draw" s_draw f fd) (T : DTx mg) : FnOk P w K mg base CX0 1 f fd ["_law_state_here", "_law_many"] spDraw := by
  refine F.ok sc_draw (fun vs H Q E h => ?_) (fun cdv A outer s H vs Q E hr h => ?_)
  · obtain ⟨p, n, rfl, _⟩ := h
    rfl
  · obtain ⟨p, n, rfl, hn0, hn1, ⟨a, ns, i, l, m, c, S⟩, k⟩ := h
    refine ⟨_, (C8.pss_cut (ps_asg (pe_op op_add (pe_ix ix_list (pv 0) pe_int (fun _ _ => rfl)) pe_int) (pg_sub (pv 0) pe_int set_list))
      (C8.pss_cut (ps_if (PW.pt (pw_and (pt_cmpR op_le (pe_ix ix_list (pv 0) pe_int (fun _ _ => rfl)) pe_int (nomark _)) (pw_and1 (pt_cmpR op_lt (pe_ix ix_list (pv 0) pe_int (fun _ _ => rfl)) (pe_callB call_len_seq (by rfl) T.b_len (by decide +kernel) (pa_cons (pe_ix ix_list (pv 0) pe_int (fun _ _ => rfl)) pa_nil)) (nomark _)))))
        (pss_cons (ps_set (i := 2) sc_draw.nd rfl (Or.inl rfl) (pe_ix ix_list (pe_ix ix_list (pv 0) pe_int (fun _ _ => rfl)) (pe_ix ix_list (pv 0) pe_int (fun _ _ => rfl)) (fun _ _ => rfl)))
      (pss_cons (ps_asg (pe_op op_add (pe_ix ix_list (pv 0) pe_int (fun _ _ => rfl)) pe_int) (pg_sub (pv 0) pe_int set_list))
      (pss_one (ps_if (pt_cmpR op_ge (pe_callB call_abs (by rfl) T.b_abs (by decide +kernel) (pa_cons (pv 2) pa_nil)) (pe_op op_pow pe_int pe_int) (nomark _))
        (pss_one (ps_asg (pe_callB call_abs (by rfl) T.b_abs (by decide +kernel) (pa_cons (pv 2) pa_nil)) (pg_sub (pv 0) pe_int set_list)))
        (pss_cons (ps_asg pe_int (pg_sub (pv 0) pe_int set_list))
      (pss_one (ps_asg (pe_op op_mod (pe_callTy call_int1 (by rfl) T.b_int (by decide +kernel) (pa_cons (pe_op op_add (pe_op op_add (pe_op op_mul (pe_ix ix_list (pv 0) pe_int (fun _ _ => rfl)) pe_int) (pv 2)) (pe_op op_mul pe_int (pe_ix ix_list (pv 0) pe_int (fun _ _ => rfl)))) pa_nil)) pe_int) (pg_sub (pv 0) pe_int set_list))))))))
        pss_nil)
      (pss_cons (ps_if (pt_cmpR op_gt (pe_ix ix_list (pv 0) pe_int (fun _ _ => rfl)) pe_int (nomark _))
        (pss_cons (ps_set (i := 3) sc_draw.nd rfl (Or.inl rfl) (pe_op op_mod (pe_callTy call_int1 (by rfl) T.b_int (by decide +kernel) (pa_cons (pe_ix ix_list (pv 0) pe_int (fun _ _ => rfl)) pa_nil)) (pv 1)))
      (pss_cons (ps_asg (pe_op op_fdiv (pe_ix ix_list (pv 0) pe_int (fun _ _ => rfl)) (pv 1)) (pg_sub (pv 0) pe_int set_list))
      (pss_one (ps_ret (pv 3)))))
        pss_nil)
      (pss_cons (ps_asg (pe_op op_mod (pe_callTy call_int1 (by rfl) T.b_int (by decide +kernel) (pa_cons (pe_op op_add (pe_op op_add (pe_op op_mul (pe_ix ix_list (pv 0) pe_int (fun _ _ => rfl)) pe_int) (pe_op op_mul pe_int (pe_ix ix_list (pv 0) pe_int (fun _ _ => rfl)))) pe_int) pa_nil)) pe_int) (pg_sub (pv 0) pe_int set_list))
      (pss_cons (ps_set (i := 4) sc_draw.nd rfl (Or.inl rfl) (pe_op op_mod (pe_callTy call_int1 (by rfl) T.b_int (by decide +kernel) (pa_cons (pe_op op_mul (pe_ix ix_list (pv 0) pe_int (fun _ _ => rfl)) (pe_op op_add (pe_op op_fdiv (pe_ix ix_list (pv 0) pe_int (fun _ _ => rfl)) pe_int) pe_int)) pa_nil)) pe_int))
      (pss_one (ps_ret (pe_op op_mod (pe_op op_fdiv (pv 4) pe_int) (pv 1))))))))), ?_⟩
    obtain ⟨hp, ha, hap, h0, h1, h2⟩ := id S
    -- the count
    refine ⟨fun σ H' => σ = [some (.ref p), some (.int n), none, none, none] ∧ St5 H' p a ns i l m (c + 1) ∧ But p H H', ⟨_, rfl, _, _, _, _, rfl, rfl, SqL.of hp, rfl, _, _, rfl, rfl, _, rfl, _, _, _, _, rfl, rfl, hp, rfl, rfl, S.set h0 h1 h2, (But.refl _ _).upd⟩, ?_⟩
    rintro σ H1 ⟨rfl, S1, B1⟩
    obtain ⟨hp1, ha1, _⟩ := id S1
    -- the next number of the script
    refine ⟨fun σ H' => ∃ v2, σ = [some (.ref p), some (.int n), v2, none, none] ∧ (∃ i l m, St5 H' p a ns i l m (c + 1)) ∧ But p H H', ?_, ?_⟩
    · refine ⟨_, rfl, _, _, _, _, rfl, rfl, SqL.of hp1, rfl, _, _, rfl, rfl, _, rfl, ?_⟩
      refine ite2 (fun c1 => ?_) (fun c1 => iteF ⟨none, rfl, ⟨i, l, m, S1⟩, B1⟩)
      refine ⟨_, rfl, _, _, _, _, rfl, rfl, SqL.of hp1, rfl, _, rfl, _, _, _, _, rfl, rfl, SqL.of hp1, rfl, _, _, rfl, .inl (SqL.of ha1), _, _, rfl, rfl, _, rfl, ?_⟩
      refine ite2 (fun c2 => ?_) (fun c2 => ⟨none, rfl, ⟨i, l, m, S1⟩, B1⟩)
      have c2' : i.toNat < ns.length := by
        have := of_decide_eq_true c2
        rw [List.length_map] at this
        omega
      have hz : (ns.map V.int)[i.toNat]? = some (V.int ns[i.toNat]) := by
        rw [List.getElem?_map, List.getElem?_eq_getElem c2']
        rfl
      refine ⟨_, rfl, _, _, _, _, rfl, rfl, SqL.of hp1, rfl, _, rfl, _, _, _, _, rfl, rfl, SqL.of hp1, rfl, _, _, _, _, rfl, rfl, SqL.of ha1, at_of (j := i.toNat) (by omega) hz, ?_⟩
      generalize ns[i.toNat] = z
      refine ⟨_, rfl, _, _, _, _, rfl, rfl, SqL.of hp1, rfl, _, _, rfl, rfl, _, rfl, _, _, _, _, rfl, rfl, hp1, rfl, ?_⟩
      have S2 := S1.set (i' := i + 1) (l' := l) (m' := m) (c' := c + 1) (by omega) h1 h2
      refine ⟨_, rfl, _, rfl, _, _, rfl, rfl, ⟨by decide, by decide, by decide⟩, _, _, rfl, rfl, _, rfl, ?_⟩
      refine ite2 (fun c3 => ?_) (fun c3 => ?_)
      · refine ⟨_, rfl, _, rfl, _, rfl, _, _, _, _, rfl, rfl, S2.1, rfl, ?_⟩
        exact ⟨_, rfl, ⟨_, _, _, S2.set (by omega) h1 h2⟩, B1.upd.upd⟩
      · refine ⟨_, rfl, _, _, _, _, rfl, rfl, S2.1, rfl, ?_⟩
        have S3 := S2.set (i' := i + 1) (l' := 0) (m' := m) (c' := c + 1) (by omega) h1 h2
        refine ⟨_, rfl, _, _, _, _, rfl, rfl, SqL.of S3.1, rfl, _, _, rfl, rfl, .inr (by decide), _, rfl, _, _, rfl, rfl, _, rfl, _, _, _, _, rfl, rfl, SqL.of S3.1, rfl, _, _, rfl, rfl, .inl (by decide), _, _, rfl, rfl, .inl ⟨_, rfl, ?_⟩⟩
        refine ⟨_, _, rfl, rfl, (by show (0 : Int) < 2147483629; decide), _, rfl, _, _, _, _, rfl, rfl, S3.1, rfl, ?_⟩
        exact ⟨_, rfl, ⟨_, _, _, S3.set (by omega) (Int.emod_nonneg _ (by decide)) (Int.lt_trans (Int.emod_lt_of_pos _ (by decide)) (by decide))⟩, B1.upd.upd.upd⟩
    · rintro σ H2 ⟨v2, rfl, ⟨i, l, m, S2⟩, B2⟩
      obtain ⟨hp2, ha2, hap2, h02, h12, h22⟩ := id S2
      refine ⟨_, rfl, _, _, _, _, rfl, rfl, SqL.of hp2, rfl, _, _, rfl, rfl, _, rfl, ?_⟩
      refine ite2 (fun c1 => ?_) (fun c1 => ?_)
      · refine ⟨_, rfl, _, _, _, _, rfl, rfl, SqL.of hp2, rfl, .inl ⟨_, rfl, _, rfl, _, _, rfl, rfl, hn0, ?_⟩⟩
        refine ⟨_, rfl, _, _, _, _, rfl, rfl, SqL.of hp2, rfl, _, rfl, _, _, rfl, rfl, ⟨hn0, hn1⟩, _, rfl, _, _, _, _, rfl, rfl, hp2, rfl, ?_⟩
        exact ⟨_, rfl, k _ _ (Int.emod_nonneg _ (by omega)) (Int.emod_lt_of_pos _ hn0) ⟨a, ns, _, _, _, _, S2.set h02 h12 h22⟩ B2.upd⟩
      · refine ⟨_, rfl, _, _, _, _, rfl, rfl, SqL.of hp2, rfl, _, _, rfl, rfl, .inr (by decide), _, rfl, _, _, _, _, rfl, rfl, SqL.of hp2, rfl, _, _, rfl, rfl, .inl (by decide), _, _, rfl, rfl, _, _, rfl, rfl, .inl ⟨_, rfl, ?_⟩⟩
        refine ⟨_, _, rfl, rfl, (by show (0 : Int) < 2147483647; decide), _, rfl, _, _, _, _, rfl, rfl, hp2, rfl, ?_⟩
        have m0 : 0 ≤ (m * 48271 + 7919 * (c + 1) + 1) % 2147483647 := Int.emod_nonneg _ (by decide)
        have m1 : (m * 48271 + 7919 * (c + 1) + 1) % 2147483647 < 2147483647 := Int.emod_lt_of_pos _ (by decide)
        have S3 := S2.set (i' := i) (l' := l) (m' := (m * 48271 + 7919 * (c + 1) + 1) % 2147483647) (c' := c + 1) h02 m0 (by omega)
        refine ⟨_, rfl, _, _, _, _, rfl, rfl, SqL.of S3.1, rfl, _, rfl, _, _, _, _, rfl, rfl, SqL.of S3.1, rfl, _, _, rfl, rfl, ⟨by decide, by decide⟩, _, _, rfl, rfl, _, _, rfl, rfl, .inl ⟨Int.lt_of_lt_of_le (by decide) m0, Int.lt_trans m1 (by decide)⟩, .inl ⟨_, rfl, ?_⟩⟩
        refine ⟨_, _, rfl, rfl, (by show (0 : Int) < 2147483399; decide), ?_⟩
        refine ⟨_, rfl, _, _, rfl, rfl, ⟨by decide, by decide⟩, _, rfl, _, _, rfl, rfl, hn0, ?_⟩
        exact k _ _ (Int.emod_nonneg _ (by omega)) (Int.emod_lt_of_pos _ hn0) ⟨a, ns, _, _, _, _, S3⟩ B2.upd
end
end Sq
namespace Sq
open PySem L2
/-- the state is made: the items' list is a new one -/
def spState (K : PySem.W.Frag) : Sp := fun vs H Q _ => ∃ (s : Addr) (ns : List Int), vs = [.ref s] ∧ SqL K H s (ns.map V.int) ∧ ns.length ≤ 63 ∧ ∀ p H', H p = none → StAt H' p → Same H H' → Q (.ref p) H'
theorem same_new {H H1 : Hp} {q : Addr} {o : HO} (a : Same H H1) (n : H1 q = none) : Same H (L2.upd H1 q o) := fun c u h => (upd_ne (ne_of_none (a c u h) n)).trans (a c u h)
theorem same_at {H H1 : Hp} {q : Addr} {o : HO} (a : Same H H1) (n : H q = none) : Same H (L2.upd H1 q o) := fun c u h => (upd_ne (ne_of_none h n)).trans (a c u h)
theorem take_map (ns : List Int) (k : Nat) : cutV (ns.map V.int) none (some ((k : Nat) : Int)) = (ns.take k).map V.int := by
  unfold cutV
  rw [HT.sIx_none, HT.sIx_nat, List.drop_zero, List.length_map, List.map_take]
  rw [Nat.sub_zero]
  by_cases h : k ≤ ns.length
  · rw [Nat.min_eq_left h]
  · rw [Nat.min_eq_right (by omega), List.take_of_length_le (by simp), List.take_of_length_le (by simp; omega)]
theorem map_get {ns : List Int} {i : Nat} {y : V} (hi : (ns.map V.int)[i]? = some y) : ∃ z, ns[i]? = some z ∧ y = V.int z := by
  rw [List.getElem?_map] at hi
  cases e : ns[i]? with
  | none =>
    rw [e] at hi
    cases hi
  | some z =>
    rw [e] at hi
    exact ⟨z, rfl, (Option.some.inj hi).symm⟩
theorem take_more {α : Type} {l : List α} {i : Nat} {x : α} (h : l[i]? = some x) : l.take (i + 1) = l.take i ++ [x] := by
  rw [List.take_add_one, h]
  rfl
theorem seq_at {K : PySem.W.Frag} {H : Hp} {a b : Addr} {xs : List V} {o : HO} (h : SqL K H a xs) (n : b ≠ a) : SqL K (upd H b o) a xs := by
  rcases h with (h | ⟨o, h⟩) | h
  · exact .inl (.inl ((upd_ne n.symm).trans h))
  · exact .inl (.inr ⟨o, (upd_ne n.symm).trans h⟩)
  · exact .inr h
section
variable {P : Program} {w : World} {K : PySem.W.Frag} {mg : Str → Option Value} {base : Heap}
theorem sc_state : FnScope ["_law_script", "_law_items", "_law_item"] ["_law_script"] (defScope s_state) := ⟨rfl, rfl, rfl, by decide +kernel, rfl, by decide +kernel, by decide +kernel⟩
theorem ok_state {f : Addr} {fd : FuncData} (F : Fun K "_law_state" "_law_state" s_state f fd) (T : DTx mg) : FnOk P w K mg base CX0 1 f fd ["_law_script"] (spState K) := by
  refine F.ok sc_state (fun vs H Q E h => ?_) (fun cdv A outer s H vs Q E hr h => ?_)
  · obtain ⟨p, n, rfl, _⟩ := h
    rfl
  · obtain ⟨a, ns, rfl, hS, hl, k⟩ := h
    refine ⟨_, pss_cons (ps_setLc (i := 1) (own := [("_law_item", 2)]) (g := gName 2) (tt := tYes) rfl sc_state.nd rfl rfl (sw_true rfl rfl rfl (by decide +kernel))
        (pi_list (pe_slice sl_list (pv 0) po_none (po_some pe_int))) (blkOk_by (N := ["_law_script", "_law_items", "_law_item"]) (sc := defScope s_state) (by decide +kernel)) (fun _ _ _ _ _ => pg_name (i := 2) sc_state.nd rfl (Or.inl rfl)) (fun _ _ _ _ _ => pts_nil)
        (fun _ _ _ _ _ => pe_callTy call_int1 (by rfl) T.b_int (by decide +kernel) (pa_cons (pv 2) pa_nil)))
      (pss_one (ps_ret (pe_lst (pa_cons (pv 1) (pa_cons pe_int (pa_cons pe_int (pa_cons (pe_op op_add pe_int (pe_callB call_len_seq (by rfl) T.b_len (by decide +kernel) (pa_cons (pv 1) pa_nil))) (pa_cons pe_int pa_nil)))))))), ?_⟩
    refine ⟨_, rfl, _, rfl, _, _, rfl, hS, fun q hq => ?_⟩
    have et : cutV (ns.map V.int) none (some 63) = (ns.take 63).map V.int := take_map ns 63
    have hq1 : SqL K (upd H q (.lst (cutV (ns.map V.int) none (some 63)))) q ((ns.take 63).map V.int) := by
      rw [et]
      exact SqL.of upd_same
    refine ⟨_, rfl, ⟨_, hq1⟩, fun D hD => ?_⟩
    have hDq : D ≠ q := fun e => by
      rw [e, upd_same] at hD
      cases hD
    have hDH : H D = none := by
      rw [upd_ne hDq] at hD
      exact hD
    refine lc_list (K := K) (a := q) (xs := (ns.take 63).map V.int) (fun i H' => H' D = some (.lst ((ns.take i).map V.int)) ∧ Same H H' ∧ SqL K H' q ((ns.take 63).map V.int)) ?_ (fun i H' _ h => h.2.2) ?_ ?_
    · refine ⟨by simpa using upd_same, same_new (same_new (Same.refl H) hq) hD, ?_⟩
      exact Same.seq (same_new (Same.refl _) hD) hq1
    · rintro i y H2 hi ⟨hD2, s2, hq2⟩
      obtain ⟨z, hz, rfl⟩ := map_get hi
      refine ⟨rfl, _, rfl, .inl ⟨_, rfl, ?_⟩⟩
      have hi1 : i < (ns.take 63).length := (List.getElem?_eq_some_iff.mp hz).1
      have hi63 : i < 63 := by
        rw [List.length_take] at hi1
        omega
      have hz' : ns[i]? = some z := by
        rw [List.getElem?_take] at hz
        rw [if_pos hi63] at hz
        exact hz
      refine ⟨_, hD2, small1000 (by rw [List.length_map, List.length_take]; omega), ?_, same_at s2 hDH, ?_⟩
      · rw [take_more hz', List.map_append]
        exact upd_same
      · exact seq_at hq2 hDq
    · rintro H2 ⟨hD2, s2, hq2⟩
      refine ⟨_, rfl, _, rfl, _, _, rfl, .inl (SqL.of hD2), _, _, rfl, rfl, (by show 5 ≤ sizeLine; decide), fun p hp => ?_⟩
      have hpD : D ≠ p := ne_of_none hD2 hp
      refine k p _ (s2.free hp) ⟨D, (ns.take 63).take (ns.take 63).length, 0, 0, _, 0, upd_same, (upd_ne hpD).trans ?_, hpD, by omega, by omega, ?_⟩ (same_new s2 hp)
      · rw [hD2, List.take_take, List.length_map]
        congr 4
        simp
      · rw [List.length_map, List.length_take]
        omega
end
end Sq
namespace Sq
open PySem L2
theorem fmod_lt (x : Int) {y : Int} (h : y ≠ 0) : (x.fmod y).natAbs < y.natAbs := by
  have e := Int.fmod_eq_emod (a := x) (b := y)
  have h1 := Int.emod_nonneg x h
  have h2 := Int.emod_lt x h
  by_cases c : 0 ≤ y ∨ y ∣ x
  · rw [if_pos c] at e
    omega
  · rw [if_neg c] at e
    have h3 : ¬ y ∣ x := fun d => c (.inr d)
    have h4 : x % y ≠ 0 := fun z => h3 (Int.dvd_of_emod_eq_zero z)
    omega
theorem gcd_fmod (x y : Int) : Int.gcd y (x.fmod y) = Int.gcd x y := by
  rw [Int.fmod_def, Int.gcd_sub_mul_left_right, Int.gcd_comm]
def spGcd : Sp := fun vs H Q _ => ∃ a b : Int, vs = [.int a, .int b] ∧ Q (.int ((Int.gcd a b : Nat) : Int)) H
/-- is it an int, no bool: for a value whose type is known -/
def isI : V → Bool
  | .int _ => true
  | _ => false
def IsTy (K : PySem.W.Frag) (H : Hp) (x : V) : Prop := ∃ t b1 b2, TyX K H x t ∧ PySem.W.kitOne K t (.type "int") = some b1 ∧ PySem.W.kitOne K t (.type "bool") = some b2 ∧ (b1 && !b2) = isI x
theorem IsTy.int {K : PySem.W.Frag} {H : Hp} (i : Int) : IsTy K H (.int i) := ⟨.type "int", true, false, .base (.int i), kit_ty (by decide +kernel), kit_ty (by decide +kernel), rfl⟩
theorem IsTy.bl {K : PySem.W.Frag} {H : Hp} (i : Bool) : IsTy K H (.bl i) := ⟨.type "bool", true, true, .base (.bl i), kit_ty (by decide +kernel), kit_ty (by decide +kernel), rfl⟩
theorem IsTy.non {K : PySem.W.Frag} {H : Hp} : IsTy K H .non := ⟨.type "NoneType", false, false, .base .non, kit_ty (by decide +kernel), kit_ty (by decide +kernel), rfl⟩
theorem IsTy.str {K : PySem.W.Frag} {H : Hp} (z : Str) : IsTy K H (.str z) := ⟨.type "str", false, false, .base (.str z), kit_ty (by decide +kernel), kit_ty (by decide +kernel), rfl⟩
theorem IsTy.lst {K : PySem.W.Frag} {H : Hp} {a : Addr} {xs : List V} (e : H a = some (.lst xs)) : IsTy K H (.ref a) := ⟨.type "list", false, false, .base (.lst e), kit_ty (by decide +kernel), kit_ty (by decide +kernel), rfl⟩
theorem IsTy.tup {K : PySem.W.Frag} {H : Hp} {a : Addr} {xs : List V} (e : H a = some (.tup xs)) : IsTy K H (.ref a) := ⟨.type "tuple", false, false, .base (.tup e), kit_ty (by decide +kernel), kit_ty (by decide +kernel), rfl⟩
theorem IsTy.dK {K : PySem.W.Frag} {H : Hp} {a : Addr} {xs : List (Key × V)} (e : H a = some (.dK xs)) : IsTy K H (.ref a) := ⟨.type "dict", false, false, .base (.dK e), kit_ty (by decide +kernel), kit_ty (by decide +kernel), rfl⟩
def spIsInt (K : PySem.W.Frag) : Sp := fun vs H Q _ => ∃ x, vs = [x] ∧ IsTy K H x ∧ Q (.bl (isI x)) H
def spGreat : Sp := fun vs H Q _ => ∃ p, vs = [.ref p] ∧ StAt H p ∧ ∀ v H', v.natAbs < 2 ^ 120 → StAt H' p → But p H H' → Q (.int v) H'
structure ITx (mg : Str → Option Value) : Prop where
  b_isinstance : mg "isinstance" = none
  b_int : mg "int" = none
  b_bool : mg "bool" = none
section
variable {P : Program} {w : World} {K : PySem.W.Frag} {mg : Str → Option Value} {base : Heap}
theorem sc_gcd : FnScope ["_law_one", "_law_other"] ["_law_one", "_law_other"] (defScope s_gcd) := ⟨rfl, rfl, rfl, by decide +kernel, rfl, by decide +kernel, by decide +kernel⟩
theorem ok_gcd {f : Addr} {fd : FuncData} (F : Fun K "_law_gcd" "_law_gcd" s_gcd f fd) (T : DTx mg) : FnOk P w K mg base CX0 1 f fd ["_law_one", "_law_other"] spGcd := by
  refine F.ok sc_gcd (fun vs H Q E h => ?_) (fun cdv A outer s H vs Q E hr h => ?_)
  · obtain ⟨a, b, rfl, _⟩ := h
    rfl
  · obtain ⟨a, b, rfl, k⟩ := h
    refine ⟨_, (pss_cons (ps_while PassesOwn.never (pt_cmpR op_ne (pv 1) pe_int (nomark _)) (pss_one (ps_par (i := 0) (j := 1) (by rfl) sc_gcd.nd rfl rfl (by decide) rfl rfl (pa_cons (pv 1) (pa_cons (pe_op op_modN (pe_callTy call_int1 (by rfl) T.b_int (by decide +kernel) (pa_cons (pv 0) pa_nil)) (pv 1)) pa_nil)) (by rfl))))
      (pss_one (ps_ret (pe_callB call_abs (by rfl) T.b_abs (by decide +kernel) (pa_cons (pv 0) pa_nil))))), ?_⟩
    refine while_by (fun σ H' => ∃ x y : Int, σ = [some (.int x), some (.int y)] ∧ Int.gcd x y = Int.gcd a b ∧ H' = H) (fun σ _ => match σ with | [_, some (.int y)] => y.natAbs | _ => 0) ⟨a, b, rfl, rfl, rfl⟩ ?_ ?_
    · rintro σ H' ⟨x, y, rfl, hg, rfl⟩
      refine ⟨_, rfl, rfl, _, rfl, ?_⟩
      refine ite2 (fun c => ?_) (fun c => ?_)
      · have hy : y ≠ 0 := fun e => by
          rw [e] at c
          exact absurd c (by decide)
        refine ⟨_, rfl, _, rfl, .inl ⟨_, rfl, _, rfl, _, _, rfl, rfl, hy, ?_⟩⟩
        exact ⟨_, _, rfl, ⟨_, _, rfl, (gcd_fmod x y).trans hg, rfl⟩, fmod_lt x hy⟩
      · have hy : y = 0 := by
          by_cases e : y = 0
          · exact e
          · exact absurd (by simp [e]) c
        subst hy
        refine ⟨_, rfl, _, rfl, ?_⟩
        rw [← hg] at k
        rw [Int.gcd_zero] at k
        have e : (if x < 0 then -x else x) = ((x.natAbs : Nat) : Int) := by
          split <;> omega
        rw [e]
        exact k
    · rintro σ H' Q1 Q2 hi ⟨v, e, u, z, e2, c⟩
      exact ⟨v, e, u, z, e2, hi _ _ c⟩
theorem sc_lisint : FnScope ["_law_told"] ["_law_told"] (defScope s_lisint) := ⟨rfl, rfl, rfl, by decide +kernel, rfl, by decide +kernel, by decide +kernel⟩
theorem ok_lisint {f : Addr} {fd : FuncData} (F : Fun K "_law_is_integer" "_law_is_integer" s_lisint f fd) (T : ITx mg) : FnOk P w K mg base CX0 1 f fd ["_law_told"] (spIsInt K) := by
  refine F.ok sc_lisint (fun vs H Q E h => ?_) (fun cdv A outer s H vs Q E hr h => ?_)
  · obtain ⟨x, rfl, _⟩ := h
    rfl
  · obtain ⟨x, rfl, ⟨t, b1, b2, ht, h1, h2, h3⟩, k⟩ := h
    refine ⟨_, pss_one (ps_ret (pe_and (pe_callB call_isi (by rfl) T.b_isinstance (by decide +kernel) (pa_cons (pv 0) (pa_cons (pe_bltn (v := .ty "int") (by rfl) T.b_int (by decide +kernel) rfl) pa_nil)))
      (pe_one (pe_not (pe_callB call_isi (by rfl) T.b_isinstance (by decide +kernel) (pa_cons (pv 0) (pa_cons (pe_bltn (v := .ty "bool") (by rfl) T.b_bool (by decide +kernel) rfl) pa_nil))))))), ?_⟩
    refine ⟨_, rfl, _, _, _, _, b1, rfl, .ty _, ht, h1, _, rfl, ?_⟩
    cases b1 with
    | false =>
      refine iteF ?_
      rw [← h3] at k
      exact k
    | true =>
      refine iteT ?_
      refine ⟨_, rfl, _, _, _, _, b2, rfl, .ty _, ht, h2, _, rfl, ?_⟩
      rw [← h3] at k
      exact k
theorem sc_great : FnScope ["_law_state_here", "_law_found", "_law_k"] ["_law_state_here"] (defScope s_great) := ⟨rfl, rfl, rfl, by decide +kernel, rfl, by decide +kernel, by decide +kernel⟩
theorem ok_great {f fD : Addr} {fd fdD : FuncData} (F : Fun K "_law_great" "_law_great" s_great f fd) (T : DTx mg) (G_draw : FnOk P w K mg base CX0 1 fD fdD ["_law_state_here", "_law_many"] spDraw) (m_draw : mg "_law_draw" = some (.ref fD)) (k_draw : PySem.W.keepIn K (.ref fD) = true)
    (b_draw : Binds K fdD ["_law_state_here", "_law_many"] []) : FnOk P w K mg base CX0 2 f fd ["_law_state_here"] spGreat := by
  refine F.ok sc_great (fun vs H Q E h => ?_) (fun cdv A outer s H vs Q E hr h => ?_)
  · obtain ⟨x, rfl, _⟩ := h
    rfl
  · obtain ⟨p, rfl, S, k⟩ := h
    refine ⟨_, (pss_cons (ps_set (i := 1) sc_great.nd rfl (Or.inl rfl) pe_int)
      (pss_cons (ps_for PassesOwn.never rfl (pi_range1 (by rfl) T.b_range (pa_cons (pe_call G_draw hr rfl m_draw k_draw b_draw .nil pass0 (pa_cons (pv 0) (pa_cons pe_int pa_nil))) pa_nil)) (pg_name (i := 2) sc_great.nd rfl (Or.inl rfl)) (pss_one (ps_set (i := 1) sc_great.nd rfl (Or.inl rfl) (pe_op op_add (pe_op op_mul (pv 1) (pe_op op_pow pe_int pe_int)) (pe_call G_draw hr rfl m_draw k_draw b_draw .nil pass0 (pa_cons (pv 0) (pa_cons (pe_op op_pow pe_int pe_int) pa_nil)))))))
      (pss_cons (ps_set (i := 1) sc_great.nd rfl (Or.inl rfl) (pe_op op_add (pv 1) (pe_call G_draw hr rfl m_draw k_draw b_draw .nil pass0 (pa_cons (pv 0) (pa_cons pe_int pa_nil)))))
      (pss_cons (ps_if (pt_cmpR op_eq (pe_call G_draw hr rfl m_draw k_draw b_draw .nil pass0 (pa_cons (pv 0) (pa_cons pe_int pa_nil))) pe_int (nomark _))
        (pss_one (ps_ret (pe_un un_neg (pv 1))))
        pss_nil)
      (pss_one (ps_ret (pv 1))))))), ?_⟩
    refine ⟨_, rfl, p, 5, rfl, by decide, by decide, S, fun v H1 v0 v5 S1 B1 => ⟨v, rfl, by omega, by omega, ?_⟩⟩
    refine for_range (lo := 0) (n := v.toNat) (fun i σ H' => ∃ (u : Int) (z : Option V), σ = [some (.ref p), some (.int u), z] ∧ 0 ≤ u ∧ u < 1000000000 ^ i ∧ StAt H' p ∧ But p H H') ⟨0, none, rfl, by omega, by decide, S1, B1⟩ ?_ ?_
    · rintro i σ H2 hi ⟨u, z, rfl, u0, u1, S2, B2⟩
      refine ⟨_, rfl, _, _, rfl, rfl, ⟨by decide, by decide, by decide⟩, _, _, rfl, rfl, .inr (by decide), _, rfl, _, _, rfl, rfl, ⟨by decide, by decide, by decide⟩, p, _, rfl, by decide, by decide, S2, fun d H3 d0 d1 S3 B3 => ?_⟩
      refine ⟨_, _, rfl, rfl, _, _, rfl, ?_, ?_, S3, B2.trans B3⟩
      · have e : (10 : Int) ^ (Int.toNat 9) = 1000000000 := by decide
        rw [e]
        omega
      · have e : (10 : Int) ^ (Int.toNat 9) = 1000000000 := by decide
        have d1' : d < 1000000000 := by
          rw [← e]
          exact d1
        rw [e, Int.pow_succ]
        generalize (1000000000 : Int) ^ i = q at *
        omega
    · rintro σ H2 ⟨u, z, rfl, u0, u1, S2, B2⟩
      have hv : v.toNat ≤ 4 := by omega
      have hu : u < 1000000000 ^ 4 := by
        have h5 : v.toNat = 0 ∨ v.toNat = 1 ∨ v.toNat = 2 ∨ v.toNat = 3 ∨ v.toNat = 4 := by omega
        rcases h5 with h | h | h | h | h <;> (rw [h] at u1; exact Int.lt_of_lt_of_le u1 (by decide))
      refine ⟨_, rfl, _, rfl, p, _, rfl, by decide, by decide, S2, fun d H3 d0 d1 S3 B3 => ?_⟩
      refine ⟨_, _, rfl, rfl, _, rfl, p, _, rfl, by decide, by decide, S3, fun d2 H4 d20 d21 S4 B4 => ⟨rfl, _, rfl, ?_⟩⟩
      have e4 : (1000000000 : Int) ^ 4 = 1000000000000000000000000000000000000 := by decide
      have e2 : (2 : Nat) ^ 120 = 1329227995784915872903807060280344576 := by decide
      rw [e4] at hu
      refine ite2 (fun _ => ⟨_, rfl, _, rfl, k _ H4 ?_ S4 ((B2.trans B3).trans B4)⟩) (fun _ => ⟨_, rfl, k _ H4 ?_ S4 ((B2.trans B3).trans B4)⟩)
      · show (-(u + d)).natAbs < 2 ^ 120
        omega
      · show (u + d).natAbs < 2 ^ 120
        omega
end
end Sq

namespace Sq
open PySem L2 PyProof.Rows
abbrev s_noRatioInit : Stmt := inClass (top 4) 0
abbrev s_isint : Stmt := top 6
abbrev s_ratioInit : Stmt := inClass (top 12) 0
/-- // by any number but 0 whose size is below 2 ^ 9000 -/
def CDivZ (_ j : Int) : Prop := j ≠ 0 ∧ j.natAbs < 2 ^ 8000
theorem op_fdivZ {X : Cx} : OpR X (binaryOp .FloorDiv) (rI CDivZ fun i j => .int (i.fdiv j)) := opI fun i j _ _ _ _ _ hc q =>
  floordiv_int hc.1 q (.inl (PyProof.noPylong_of_log2 (Nat.lt_of_lt_of_le (PySem.Flt.log2_lt_of (by decide) hc.2) (by decide))))
/-! ### the fraction in lowest terms -/
structure Low (a b t u : Int) : Prop where
  pos : 1 ≤ u
  cop : Int.gcd t u = 1
  val : t * b = a * u
  lt : t.natAbs ≤ a.natAbs
  lu : u.natAbs ≤ b.natAbs
theorem low_of {a b c : Int} (hb : b ≠ 0) (hc : c = (Int.gcd a b : Int) ∧ 0 < b ∨ c = -(Int.gcd a b : Int) ∧ b < 0) : Low a b (a.fdiv c) (b.fdiv c) := by
  have hg : 0 < Int.gcd a b := Int.gcd_pos_of_ne_zero_right a hb
  have da : c ∣ a := by
    rcases hc with ⟨rfl, _⟩ | ⟨rfl, _⟩
    · exact Int.gcd_dvd_left ..
    · exact Int.neg_dvd.mpr (Int.gcd_dvd_left ..)
  have db : c ∣ b := by
    rcases hc with ⟨rfl, _⟩ | ⟨rfl, _⟩
    · exact Int.gcd_dvd_right ..
    · exact Int.neg_dvd.mpr (Int.gcd_dvd_right ..)
  have c0 : c ≠ 0 := by omega
  obtain ⟨t, ht⟩ := da
  obtain ⟨u, hu⟩ := db
  have et : a.fdiv c = t := by rw [ht]; exact Int.mul_fdiv_cancel_left _ c0
  have eu : b.fdiv c = u := by rw [hu]; exact Int.mul_fdiv_cancel_left _ c0
  rw [et, eu]
  have cn : c.natAbs = Int.gcd a b := by omega
  have c1 : 1 ≤ c.natAbs := by omega
  have gcu : Int.gcd a b = c.natAbs * Int.gcd t u := by
    rw [ht, hu, Int.gcd_mul_left]
  refine ⟨?_, ?_, ?_, ?_, ?_⟩
  · have : 0 < u := by
      rcases hc with ⟨h1, h2⟩ | ⟨h1, h2⟩
      · refine Int.pos_of_mul_pos_right (a := c) ?_ (by omega)
        rw [← hu]
        exact h2
      · refine Int.pos_of_mul_pos_right (a := -c) ?_ (by omega)
        rw [Int.neg_mul, ← hu]
        omega
    omega
  · rw [cn] at gcu
    exact (Nat.eq_of_mul_eq_mul_left hg (by rw [Nat.mul_one]; exact gcu)).symm
  · rw [ht, hu, Int.mul_assoc, Int.mul_left_comm]
  · rw [ht, Int.natAbs_mul]
    exact Nat.le_mul_of_pos_left _ c1
  · rw [hu, Int.natAbs_mul]
    exact Nat.le_mul_of_pos_left _ c1
/-! ### the objects -/
def rfl_ (t u : Int) : List (Str × V) := putF "bottom" (.int u) (putF "top" (.int t) [])
theorem tb : ¬ (("top" : Str) = "bottom") := by decide +kernel
theorem rf_top (t u : Int) : (rfl_ t u).lookup ("top" : Str) = some (.int t) := by
  unfold rfl_
  rw [lookup_putF, if_neg tb, lookup_putF, if_pos rfl]
theorem rf_bottom (t u : Int) : (rfl_ t u).lookup ("bottom" : Str) = some (.int u) := by
  unfold rfl_
  rw [lookup_putF, if_pos rfl]
theorem rf_no (t u : Int) {m : Str} (h1 : ¬ m = "bottom") (h2 : ¬ m = "top") : (rfl_ t u).lookup m = none := by
  unfold rfl_
  rw [lookup_putF, if_neg h1, lookup_putF, if_neg h2]
  rfl
def RatAt (C : Addr) (H : Hp) (x : Addr) (t u : Int) : Prop := ∃ dx, H x = some (.ins C dx (rfl_ t u))
/-- what a NoRatio carries -/
def wordAt (z : Str) : HO := .xd [(("word" : Str), .str z)]
/-- the word that is due, if any -/
def dueW (u v : V) : Option Str := if isI u then (if isI v then (if v = .int 0 then some "zero" else none) else some "bottom") else some "top"
def spRatioInit (K : PySem.W.Frag) (C CN : Addr) : Sp := fun vs H Q E => ∃ (x dx : Addr) (u v : V), vs = [.ref x, u, v] ∧ H x = some (.ins C dx []) ∧ IsTy K H u ∧ IsTy K H v ∧ (∀ b, v = .int b → b.natAbs < 2 ^ 8000) ∧
  (∀ z, dueW u v = some z → ∀ d, H d = none → E (.ref CN) (some d) (upd H d (wordAt z))) ∧
  (∀ a b, u = .int a → v = .int b → b ≠ 0 → ∀ t w H', Low a b t w → RatAt C H' x t w → But x H H' → Q .non H')
def spWordInit (CN : Addr) : Sp := fun vs H Q _ => ∃ (a : Addr) (y : V), vs = [.ref a, y] ∧ H a = some (exo a CN none) ∧ ∀ dx, H dx = none → dx ≠ a → Q .non (upd (upd H dx (exd dx [(("word" : Str), y)])) a (exo a CN (some dx)))
/-- the class of an error with the field word -/
structure NTx (K : PySem.W.Frag) (mg : Str → Option Value) (CN fN : Addr) : Prop where
  oex : OexC K CN
  nw : PySem.W.findIn K (.ref CN) "word" = some none
  iC : PySem.W.findIn K (.ref CN) "__init__" = some (some (.ref fN))
  tI : PySem.W.typeIn K (.ref fN) = some (.type "function")
structure CTx (K : PySem.W.Frag) (C : Addr) : Prop where
  cl : Cls K C
  nT : NoAttr K C "top"
  nB : NoAttr K C "bottom"
section
variable {P : Program} {w : World} {K : PySem.W.Frag} {mg : Str → Option Value} {base : Heap}
theorem sc_noRatioInit : FnScope ["self", "word"] ["self", "word"] (defScope s_noRatioInit) := ⟨rfl, rfl, rfl, by decide +kernel, rfl, by decide +kernel, by decide +kernel⟩
theorem ok_noRatioInit {f CN fN : Addr} {fd : FuncData} (F : Fun K "__init__" "NoRatio.__init__" s_noRatioInit f fd) (T : NTx K mg CN fN) : FnOk P w K mg base CX0 1 f fd ["self", "word"] (spWordInit CN) := by
  refine F.ok sc_noRatioInit (fun vs H Q E h => ?_) (fun cdv A outer s H vs Q E hr h => ?_)
  · obtain ⟨x, y, rfl, _⟩ := h
    rfl
  · obtain ⟨a, y, rfl, ha, k⟩ := h
    refine ⟨_, pss_one (ps_ost (pv 0) (pv 1)), ?_⟩
    exact ⟨_, rfl, _, rfl, a, CN, rfl, T.oex, T.nw, .inl ⟨ha, fun dx h1 h2 => k dx h1 h2⟩⟩
theorem sc_isint : FnScope ["value"] ["value"] (defScope s_isint) := ⟨rfl, rfl, rfl, by decide +kernel, rfl, by decide +kernel, by decide +kernel⟩
theorem ok_isint {f : Addr} {fd : FuncData} (F : Fun K "is_an_integer" "is_an_integer" s_isint f fd) (T : ITx mg) : FnOk P w K mg base CX0 1 f fd ["value"] (spIsInt K) := by
  refine F.ok sc_isint (fun vs H Q E h => ?_) (fun cdv A outer s H vs Q E hr h => ?_)
  · obtain ⟨x, rfl, _⟩ := h
    rfl
  · obtain ⟨x, rfl, ⟨t, b1, b2, ht, h1, h2, h3⟩, k⟩ := h
    refine ⟨_, pss_one (ps_ret (pe_and (pe_callB call_isi (by rfl) T.b_isinstance (by decide +kernel) (pa_cons (pv 0) (pa_cons (pe_bltn (v := .ty "int") (by rfl) T.b_int (by decide +kernel) rfl) pa_nil)))
      (pe_one (pe_not (pe_callB call_isi (by rfl) T.b_isinstance (by decide +kernel) (pa_cons (pv 0) (pa_cons (pe_bltn (v := .ty "bool") (by rfl) T.b_bool (by decide +kernel) rfl) pa_nil))))))), ?_⟩
    refine ⟨_, rfl, _, _, _, _, b1, rfl, .ty _, ht, h1, _, rfl, ?_⟩
    cases b1 with
    | false =>
      refine iteF ?_
      rw [← h3] at k
      exact k
    | true =>
      refine iteT ?_
      refine ⟨_, rfl, _, _, _, _, b2, rfl, .ty _, ht, h2, _, rfl, ?_⟩
      rw [← h3] at k
      exact k
end
end Sq
namespace Sq
open PySem L2 PyProof.Rows
theorem xd_eq {H : Hp} {a d CN : Addr} {y : V} (ha : H a = none) (n : d ≠ a) : upd (L2.del (upd (upd (upd H a (exo a CN none)) d (exd d [(("word" : Str), y)])) a (exo a CN (some d))) a) d (.xd [(("word" : Str), y)]) = upd H d (.xd [(("word" : Str), y)]) := by
  funext b
  by_cases h1 : b = d
  · subst h1
    rw [upd_same, upd_same]
  · rw [upd_ne h1, upd_ne h1]
    by_cases h2 : b = a
    · subst h2
      rw [del_same, ha]
    · rw [del_ne h2, upd_ne h2, upd_ne h1, upd_ne h2]
theorem mkO_read {CN : Addr} {z : Str} {H : Hp} {E : XK} (h : ∀ d, H d = none → E (.ref CN) (some d) (upd H d (wordAt z))) : ∀ a, H a = none → spWordInit CN (.ref a :: ([.str z] ++ [])) (upd H a (exo a CN none))
    (fun v H2 => v = .non ∧ ∃ (d : Addr) (fs : List (Str × V)), H2 a = some (exo a CN (some d)) ∧ H2 d = some (exd d fs) ∧ H d = none ∧ E (.ref CN) (some d) (upd (L2.del H2 a) d (.xd fs))) (fun _ _ _ => False) := fun a ha => by
  refine ⟨a, _, rfl, upd_same, fun dx h1 h2 => ⟨rfl, dx, [(("word" : Str), V.str z)], upd_same, ?_, ?_, ?_⟩⟩
  · exact (upd_ne h2).trans upd_same
  · rw [upd_ne h2] at h1
    exact h1
  · rw [upd_ne h2] at h1
    rw [xd_eq ha h2]
    exact h dx h1
theorem isI_int : ∀ {u : V}, isI u = true → ∃ a, u = .int a
  | .int i, _ => ⟨i, rfl⟩
  | .non, h => by cases h
  | .bl _, h => by cases h
  | .str _, h => by cases h
  | .byt _, h => by cases h
  | .flt _, h => by cases h
  | .ref _, h => by cases h
  | .ty _, h => by cases h
structure GTx (mg : Str → Option Value) (CN : Addr) : Prop where
  g_gcd : mg "gcd" = some (.builtin "math.gcd")
  m_NoRatio : mg "NoRatio" = some (.ref CN)
section
variable {P : Program} {w : World} {K : PySem.W.Frag} {mg : Str → Option Value} {base : Heap}
theorem sc_ratioInit : FnScope ["self", "top", "bottom", "common"] ["self", "top", "bottom"] (defScope s_ratioInit) := ⟨rfl, rfl, rfl, by decide +kernel, rfl, by decide +kernel, by decide +kernel⟩
theorem ok_ratioInit {f C CN fN fI : Addr} {fd fdN fdI : FuncData} (F : FunD K "__init__" "Ratio.__init__" (defArgs s_ratioInit) (defBody s_ratioInit) (defScope s_ratioInit) [.int 1] [] f fd) (T : CTx K C) (N : NTx K mg CN fN) (G : GTx mg CN)
    (G_N : FnOk P w K mg base CX0 1 fN fdN ["self", "word"] (spWordInit CN)) (b_N : Binds K fdN ["self", "word"] [])
    (G_I : FnOk P w K mg base CX0 1 fI fdI ["value"] (spIsInt K)) (m_I : mg "is_an_integer" = some (.ref fI)) (k_I : PySem.W.keepIn K (.ref fI) = true) (b_I : Binds K fdI ["value"] []) :
    FnOk P w K mg base (L2.CX P w) 3 f fd ["self", "top", "bottom"] (spRatioInit K C CN) := by
  refine F.ok sc_ratioInit (fun vs H Q E h => ?_) (fun cdv A outer s H vs Q E hr h => ?_)
  · obtain ⟨x, dx, u, v, rfl, _⟩ := h
    rfl
  · obtain ⟨x, dx, u, v, rfl, hx, tu, tv, hs, kE, kQ⟩ := h
    have hr1 : Room 1 _ := hr.mono (by decide)
    have raise := fun (z : Str) => (mkO_read (CN := CN) (z := z) (H := H) (E := E))
    refine ⟨_, (pss_cons (ps_if (pt_not (pt_val (pe_call G_I hr1 rfl m_I k_I b_I .nil pass0 (pa_cons (pv 1) pa_nil)))) (pss_one (ps_raise rfl (takes_of rfl rfl rfl rfl) (pmk_oex N.oex N.iC N.tI G_N hr b_N .nil pass0 rfl G.m_NoRatio (pa_cons pe_str pa_nil)))) pss_nil)
      (pss_cons (ps_if (pt_not (pt_val (pe_call G_I hr1 rfl m_I k_I b_I .nil pass0 (pa_cons (pv 2) pa_nil)))) (pss_one (ps_raise rfl (takes_of rfl rfl rfl rfl) (pmk_oex N.oex N.iC N.tI G_N hr b_N .nil pass0 rfl G.m_NoRatio (pa_cons pe_str pa_nil)))) pss_nil)
      (pss_cons (ps_if (pt_cmpR op_eq (pv 2) pe_int (nomark _)) (pss_one (ps_raise rfl (takes_of rfl rfl rfl rfl) (pmk_oex N.oex N.iC N.tI G_N hr b_N .nil pass0 rfl G.m_NoRatio (pa_cons pe_str pa_nil)))) pss_nil)
      (pss_cons (ps_set (i := 3) sc_ratioInit.nd rfl (Or.inl rfl) (pe_callBfun cr_gcd rfl G.g_gcd (pa_cons (pv 1) (pa_cons (pv 2) pa_nil))))
      (C8.pss_cut (ps_if (pt_cmpR op_lt (pv 2) pe_int (nomark _)) (pss_one (ps_set (i := 3) sc_ratioInit.nd rfl (Or.inl rfl) (pe_un un_neg (pv 3)))) pss_nil)
      (pss_cons (ps_fld (pv 0) (pe_op op_fdivZ (pv 1) (pv 3)) rfl)
      (pss_one (ps_fld (pv 0) (pe_op op_fdivZ (pv 2) (pv 3)) rfl)))))))), ?_⟩
    refine ⟨_, rfl, u, rfl, tu, _, rfl, ?_⟩
    cases eu : isI u with
    | false =>
      refine iteT ⟨by decide, raise "top" ?_⟩
      exact kE "top" (by unfold dueW; rw [eu]; rfl)
    | true =>
      refine iteF ⟨_, rfl, v, rfl, tv, _, rfl, ?_⟩
      cases ev : isI v with
      | false =>
        refine iteT ⟨by decide, raise "bottom" ?_⟩
        exact kE "bottom" (by unfold dueW; rw [eu, ev]; rfl)
      | true =>
        obtain ⟨a, rfl⟩ : ∃ a, u = .int a := by
          exact isI_int eu
        obtain ⟨b, rfl⟩ : ∃ b, v = .int b := by
          exact isI_int ev
        refine iteF ⟨_, rfl, rfl, _, rfl, ?_⟩
        refine ite2 (fun c => ?_) (fun c => ?_)
        · refine ⟨by decide, raise "zero" ?_⟩
          have e : b = 0 := by simpa using c
          subst e
          exact kE "zero" rfl
        · have hb : b ≠ 0 := fun e => c (by simp [e])
          refine ⟨_, rfl, _, rfl, a, b, rfl, ?_⟩
          refine ⟨fun σ H' => H' = H ∧ ∃ c : Int, σ = [some (.ref x), some (.int a), some (.int b), some (.int c)] ∧ (c = (Int.gcd a b : Int) ∧ 0 < b ∨ c = -(Int.gcd a b : Int) ∧ b < 0), ?_, ?_⟩
          · refine ⟨_, rfl, _, _, rfl, rfl, _, rfl, ?_⟩
            refine ite2 (fun c1 => ?_) (fun c1 => ?_)
            · refine ⟨_, rfl, _, rfl, rfl, _, rfl, .inr ⟨rfl, of_decide_eq_true c1⟩⟩
            · have c2 : ¬ b < 0 := fun e => c1 (decide_eq_true e)
              exact ⟨rfl, _, rfl, .inl ⟨rfl, by omega⟩⟩
          · rintro σ H' ⟨rfl, g, rfl, hg⟩
            have L := low_of hb hg
            have hgb : Int.gcd a b ≤ b.natAbs := Nat.le_of_dvd (by omega) (Int.gcd_dvd_natAbs_right ..)
            have hgp : 0 < Int.gcd a b := Int.gcd_pos_of_ne_zero_right a hb
            have cz : CDivZ a g := ⟨by omega, by have := hs b rfl; omega⟩
            refine ⟨_, rfl, _, rfl, _, _, rfl, rfl, cz, _, rfl, x, C, dx, [], rfl, hx, T.cl, T.nT, (by show 0 < 1000; decide), ?_⟩
            refine ⟨_, rfl, _, rfl, _, _, rfl, rfl, cz, _, rfl, x, C, dx, _, rfl, upd_same, T.cl, T.nB, (by show 1 < 1000; decide), ?_⟩
            exact kQ a b rfl rfl hb _ _ _ L ⟨dx, upd_same⟩ (But.refl x _).upd.upd
end
end Sq

namespace Sq
open PySem L2 PyProof.Rows
/-- C(..) in a try's body: what leaves is wished for at the slots -/
def tMkS (C : Addr) (sp : Sp) (dvs : List V) (W : L2.St → XK) (t : TA) : TE := fun σ H Q => t σ H fun vs H1 => ∀ y dy, H1 y = none → H1 dy = none → dy ≠ y →
  sp (.ref y :: (vs ++ dvs)) (upd (upd H1 dy (.own y)) y (.ins C dy [])) (fun v H2 => v = .non ∧ Q (.ref y) H2) (W σ)
theorem pe_mkS {X : Cx} {CX : CXT} {k : Nat} {f C : Addr} {fd : FuncData} {ps : List Str} {sp : Sp} {dvs : List V} {ds : List Value} {W : L2.St → XK} {x : Str} {p pos : Pos} {e : Expr} {es : List Expr} {t : TA}
    (M : Mk X.K C f) (G : FnOk X.prog X.w X.K X.mg X.base CX k f fd ps sp) (room : Room (k + 1) X.A) (gl : Gl X x) (mx : X.mg x = some (.ref C)) (bi : Binds X.K fd ps ds) (dv : Vals dvs ds) (ok : ∀ σ, PassesAt CX X σ (W σ))
    (ha : PA X (e :: es) t) (nd : (x == ("__debug__" : Str)) = false := by decide) (st : starEach (e :: es) X.env = (false, eval e X.env) :: starEach es X.env := by rfl)
    (pl : (backTo pos (starEach es X.env)).any (·.1) = false := by rfl) : PE X (.Call (.Name x p) (e :: es) [] pos) (tMkS C sp dvs W t) := by
  refine ⟨fun pins s σ H Q I h => wpAny_Call_Name_kw (ld_glob I gl mx (PySem.W.callWith_K (h₀ := X.base) I.ok.mod.kin M.kp (thn (ha.run pos pins s σ H _ I h) fun us s1 hh => ?_) st pl) nd)⟩
  obtain ⟨vs, H1, I1, r, q⟩ := hh
  refine ⟨I1.kIn, ?_⟩
  have n1 : H1 (s1.heap.objs.size + 1) = none := I1.hok.fresh (Nat.le_succ _)
  have n0 : H1 s1.heap.objs.size = none := I1.hok.fresh (Nat.le_refl _)
  have want := q _ _ n1 n0 (Nat.ne_of_lt (Nat.lt_succ_self _))
  have J := Inv.made (C := C) I1
  have rr : Vals (V.ref (s1.heap.objs.size + 1) :: (vs ++ dvs)) (Value.ref (s1.heap.objs.size + 1) :: (us ++ ds)) := Paired.cons rfl (Vals.append r dv)
  have lens : (Value.ref (s1.heap.objs.size + 1) :: us ++ ds).length = ps.length := (rr.length.symm.trans (G.len _ _ _ _ want))
  have run := G.run _ X.stack _ _ ⟨Value.ref (s1.heap.objs.size + 1) :: us, []⟩ (Value.ref (s1.heap.objs.size + 1) :: (us ++ ds)) _ _ (W σ) (room.make C us []) (J.env0.make C us []) (bi _ (Value.ref (s1.heap.objs.size + 1) :: us) J.kIn lens) rr want
  refine wpAny_call (make_map (f := f) I1.kIn M.makes M.init (beq_iff_eq.mp M.fn) (codeAny_mono run fun res s2 out => ?_))
  cases res with
  | error er => exact ok σ pins _ _ er s2 J out
  | ok flow =>
    cases flow with
    | ret val =>
      obtain ⟨v, H3, J3, rv, ev, z⟩ := J.after out
      cases ev
      exact ⟨rv, V.ref (s1.heap.objs.size + 1), H3, J3, rfl, z⟩
    | next => cases out
    | brk => cases out
    | cont => cases out
/-- isinstance(e, c), e the caught error with its own dict -/
structure EIx (K : PySem.W.Frag) (D : Addr) : Prop where
  hcl : (PySem.W.clsIn K D).isSome = true
  hga : PySem.W.findIn K (.ref D) "__getattribute__" = some (some (.builtin "BaseException.__getattribute__"))
  hgt : PySem.W.findIn K (.ref D) "__getattr__" = some none
  hsub : PySem.W.subIn K (.ref D) (.type "BaseException") = some true
  ha : PySem.W.findIn K (.ref D) "__class__" = some (some (.builtin "object.__class__"))
  hn : PySem.W.specialIn K (.builtin "object.__class__") "__get__" = some (some (.builtin "getset_descriptor.__get__"))
  htk : PySem.W.takesIn K (.builtin "object.__class__") = some true
  hm : PySem.W.mroIn K D (.type "object") = some true
def rIsX (K : PySem.W.Frag) (D a : Addr) (cls : Value) (d : Option Addr) : List V → Hp → VK → Prop := fun xs H Q => ∃ (c : V) (cv : Value) (b : Bool) (dd : Addr) (fs : List (Str × V)), xs = [.ref a, c] ∧ ClsV c cv ∧ PySem.W.kitOne K (.ref D) cv = some b ∧
  cls = .ref D ∧ d = some dd ∧ H dd = some (.xd fs) ∧ Q (.bl b) H
theorem call_isX {X : Cx} {a D : Addr} {oe : Obj} {cls : Value} {d : Option Addr} {pn : List (Addr × Obj)} (C : EIx X.K D) (hz : Zc cls d oe) (hf : ∃ vs, oe.data = .fields vs) : CallR (X.suite a ((a, oe) :: pn)) (.builtin "isinstance") (rIsX X.K D a cls d) := by
  intro pins s σ H xs us Q I r h
  obtain ⟨c, cv, b, dd, fs, rfl, hcv, e, ec, ed, hd, q⟩ := h
  obtain ⟨x1, x2, e1, r1, r2⟩ : ∃ x1 x2, us = [x1, x2] ∧ RelV (.ref a) x1 ∧ RelV c x2 := by
    cases r with
    | cons rx rr =>
      cases rr with
      | cons rt rn =>
        cases rn
        exact ⟨_, _, rfl, rx, rt⟩
  subst e1
  have e1 : x1 = Value.ref a := r1
  subst e1
  have e2 := hcv.eq r2
  subst e2
  obtain ⟨hget, _⟩ := I.pin (a, oe) (List.mem_append.mpr (.inl List.mem_cons_self))
  obtain ⟨vs, hv⟩ := hf
  obtain ⟨mA, hns, _⟩ := (show ObjOk X.prog X.w H s.heap dd (.xd fs) from I.hok dd _ hd)
  obtain ⟨od, ho, _⟩ := lookIn_ns hns
  have J : PySem.W.InstAt s.heap a oe D (some od) := ⟨hget, hz.1.trans ec, by unfold PySem.W.notCls; rw [hv], by rw [hz.2, ed]; exact ho⟩
  exact PySem.W.kia_one (PySem.W.kitx_exc C.hcl C.hga C.hgt C.hsub C.ha C.hn C.htk C.hm) I.kIn J e (fun z => nomatch z) fun tk => ⟨.bl b, H, I.kept (t' := tk) fun _ _ z => z, rfl, q⟩
structure ITy (K : PySem.W.Frag) (C : Addr) : Prop where
  ha : PySem.W.findIn K (.ref C) "__class__" = some (some (.builtin "object.__class__"))
  hn : PySem.W.specialIn K (.builtin "object.__class__") "__get__" = some (some (.builtin "getset_descriptor.__get__"))
  htk : PySem.W.takesIn K (.builtin "object.__class__") = some true
  hm : PySem.W.mroIn K C (.type "object") = some true
  kI : PySem.W.kitOne K (.ref C) (.type "int") = some false
  kB : PySem.W.kitOne K (.ref C) (.type "bool") = some false
theorem kit_self {K : PySem.W.Frag} {C : Addr} : PySem.W.kitOne K (.ref C) (.ref C) = some true := by
  unfold PySem.W.kitOne
  rw [if_pos (by simp)]
theorem RatAt.ty {K : PySem.W.Frag} {C : Addr} {H : Hp} {x : Addr} {t u : Int} (T : CTx K C) (Y : ITy K C) (h : RatAt C H x t u) : TyX K H (.ref x) (.ref C) := by
  obtain ⟨dx, h⟩ := h
  exact .base (.ins h T.cl Y.ha Y.hn Y.htk Y.hm)
theorem RatAt.isTy {K : PySem.W.Frag} {C : Addr} {H : Hp} {x : Addr} {t u : Int} (T : CTx K C) (Y : ITy K C) (h : RatAt C H x t u) : IsTy K H (.ref x) := ⟨_, _, _, h.ty T Y, Y.kI, Y.kB, rfl⟩
theorem mul_ok {a b : Int} (ha : a.natAbs < 2 ^ 4000) (hb : b.natAbs < 2 ^ 4000) : CMulW a b := wide_mul ha hb (by decide) (by decide) (by decide)
theorem IsTy.same {K : PySem.W.Frag} {H H' : Hp} {x : V} (s : Same H H') (h : IsTy K H x) : IsTy K H' x := by
  obtain ⟨t, b1, b2, ty, h1, h2, h3⟩ := h
  refine ⟨t, b1, b2, ?_, h1, h2, h3⟩
  cases ty with
  | base b =>
    refine .base ?_
    cases b with
    | non => exact .non
    | bl => exact .bl _
    | int => exact .int _
    | str => exact .str _
    | flt => exact .flt _
    | lst e => exact .lst (s _ _ e)
    | frz e => exact .frz (s _ _ e)
    | tup e => exact .tup (s _ _ e)
    | dK e => exact .dK (s _ _ e)
    | dT e => exact .dT (s _ _ e)
    | ins e c1 c2 c3 c4 c5 => exact .ins (s _ _ e) c1 c2 c3 c4 c5
  | byt => exact .byt _
  | set e => exact .set (s _ _ e)
  | kList e c => exact .kList e c
  | kTuple e c => exact .kTuple e c
  | kDict e c => exact .kDict e c
  | fTuple e => exact .fTuple (s _ _ e)
  | fDict e => exact .fDict (s _ _ e)
theorem same_made {H H1 : Hp} {x dx C : Addr} (nx : H x = none) (nd : H dx = none) (k : But x (upd (upd H dx (.own x)) x (.ins C dx [])) H1) : Same H H1 := fun b o e =>
  k b o (by rw [upd_ne (ne_of_none e nx), upd_ne (ne_of_none e nd)]; exact e) (ne_of_none e nx)
theorem same_pair {H : Hp} {x dx C : Addr} (nx : H x = none) (nd : H dx = none) (ne : dx ≠ x) : Same H (upd (upd H dx (.own x)) x (.ins C dx [])) := same_new (same_new (Same.refl H) nd) ((upd_ne ne.symm).trans nx)
theorem due_none {a b : Int} (hb : b ≠ 0) : dueW (.int a) (.int b) = none := by
  unfold dueW
  have : ¬ (V.int b = V.int 0) := fun e => hb (V.int.inj e)
  simp [isI, this]
theorem due_top {u v : V} (h : isI u = false) : dueW u v = some ("top" : Str) := by
  unfold dueW
  simp [h]
theorem due_bottom {a : Int} {v : V} (h : isI v = false) : dueW (.int a) v = some ("bottom" : Str) := by
  unfold dueW
  rw [if_pos (show isI (.int a) = true from rfl), h, if_neg Bool.false_ne_true]
theorem mk_go {K : PySem.W.Frag} {C CN x dx : Addr} {H : Hp} {a b : Int} {Q : VK} {E : XK} (hb : b ≠ 0) (sb : b.natAbs < 2 ^ 8000) (nx : H x = none) (ndx : H dx = none) (_ne : dx ≠ x) (k : ∀ t u H', Low a b t u → RatAt C H' x t u → Same H H' → Q .non H') :
    spRatioInit K C CN [.ref x, .int a, .int b] (upd (upd H dx (.own x)) x (.ins C dx [])) Q E :=
  ⟨x, dx, _, _, rfl, upd_same, .int _, .int _, fun b' e => (by cases e; exact sb), fun z hz => (by rw [due_none hb] at hz; cases hz), fun a' b' ea eb _ t w H' L R Bt => by
    cases ea
    cases eb
    exact k t w H' L R (same_made nx ndx Bt)⟩
def spLaw (K : PySem.W.Frag) : Sp := fun vs H Q _ => ∃ (a : Addr) (ns : List Int), vs = [.ref a] ∧ SqL K H a (ns.map V.int) ∧ ns.length ≤ 63 ∧ ∀ H', Q (.bl true) H'
end Sq

namespace Sq
open PySem L2 PyProof.Rows
/-- o.m(..) in a try's body: what leaves is wished for at the slots -/
def tMtS (C : Addr) (m : Str) (sp : Sp) (W : L2.St → XK) (to : TE) (t : TA) : TE := fun σ H Q => to σ H fun x H1 => ∃ a dy fs, x = .ref a ∧ H1 a = some (.ins C dy fs) ∧ fs.lookup m = none ∧ t σ H1 fun vs H2 => sp (x :: vs) H2 Q (W σ)
theorem pe_mtS {X : Cx} {CX : CXT} {k : Nat} {f C : Addr} {fd : FuncData} {ps : List Str} {sp : Sp} {W : L2.St → XK} {m : Str} {apos pos : Pos} {o e : Expr} {es : List Expr} {to : TE} {t : TA} {pl : Sem Bool}
    (ho : PE X o to) (cl : Cls X.K C) (me : Meth X.K C m f) (G : FnOk X.prog X.w X.K X.mg X.base CX k f fd ps sp) (room : Room k X.A) (bi : Binds X.K fd ps []) (ok : ∀ σ, PassesAt CX X σ (W σ)) (ha : PA X (e :: es) t)
    (st : starEach (e :: es) X.env = (false, eval e X.env) :: starEach es X.env := by rfl) (np : (backTo pos (starEach es X.env)).any (·.1) = false := by rfl)
    (ev : eval (.Call (.Attribute o m apos) (e :: es) [] pos) X.env = (do let ov ← eval o X.env; standAt apos.atName; let (f, first) ← holding [ov] (getMethod ov m pl); callWith pos f first (backTo pos (starEach (e :: es) X.env)) (backToKw pos (keywordEach [] X.env))) := by rfl) :
    PE X (.Call (.Attribute o m apos) (e :: es) [] pos) (tMtS C m sp W to t) := by
  refine ⟨fun pins s σ H Q I h => PySem.W.methodCall_KW (pl := pl) (thn (ho.run pins s σ H _ I h) fun u s1 hh => ?_) ev⟩
  obtain ⟨x, H1, I1, rx, a, dy, fs, ex, ea, l, q⟩ := hh
  cases ex
  cases rx
  refine getmeth_ok I1 ea cl me l (PySem.W.callWith_K (first := [.ref a]) (h₀ := X.base) I.ok.mod.kin me.kp (thn (ha.run pos pins s1 σ H1 _ I1 q) fun us s2 h2 => ?_) st np)
  obtain ⟨vs, H2, I2, r, q2⟩ := h2
  exact ⟨I2.kIn, run_fnS (us := .ref a :: us) (vs := .ref a :: vs) G room bi (ok σ) I2 (.cons rfl r) q2⟩
/-! ### sizes by powers of two -/
def B (n : Nat) (x : Int) : Prop := x.natAbs < 2 ^ n
theorem B_le {n m : Nat} {x : Int} (h : B n x) (hn : n ≤ m) : B m x := Nat.lt_of_lt_of_le h (Nat.pow_le_pow_right (by decide) hn)
theorem B_mul {n m : Nat} {x y : Int} (h : B n x) (h' : B m y) : B (n + m) (x * y) := wide_lt h h'
theorem B_add {n m : Nat} {x y : Int} (h : B n x) (h' : B m y) : B (max n m + 1) (x + y) := by
  have a := B_le h (Nat.le_max_left n m)
  have b := B_le h' (Nat.le_max_right n m)
  unfold B at *
  rw [Nat.pow_succ]
  omega
theorem B_neg {n : Nat} {x : Int} (h : B n x) : B n (-x) := by
  unfold B at *
  omega
theorem B_sub {n m : Nat} {x y : Int} (h : B n x) (h' : B m y) : B (max n m + 1) (x - y) := by
  have := B_add h (B_neg h')
  rw [← Int.sub_eq_add_neg] at this
  exact this
theorem B_abs {n : Nat} {x y : Int} (h : B n x) (hy : y.natAbs ≤ x.natAbs) : B n y := Nat.lt_of_le_of_lt hy h
theorem mulB {n m : Nat} {x y : Int} (h : B n x) (h' : B m y) (hs : n + m + 2 ≤ 1000000) : CMulW x y := wide_mul (B_le h (Nat.le_succ n)) (B_le h' (Nat.le_succ m)) (Nat.succ_pos _) (Nat.succ_pos _) (by omega)
end Sq

namespace Sq
open PySem L2 PyProof.Rows
theorem cmpBack_of {X : Cx} {pins : List (Addr × Obj)} {σ : L2.St} {Q : VK} {u : Value} {s' : Shared} (h : EP X pins σ Q u s') : PySem.W.CmpBack (EP X pins σ Q) u s' := by
  cases u with
  | notImplemented =>
    obtain ⟨v, _, _, r, _⟩ := h
    cases v with
    | non => cases r
    | bl _ => cases r
    | ref _ => cases r
    | ty _ => cases r
    | int _ => obtain ⟨_, e⟩ := r; cases e
    | str _ => obtain ⟨_, e⟩ := r; cases e
    | byt _ => obtain ⟨_, e⟩ := r; cases e
    | flt _ => obtain ⟨_, e⟩ := r; cases e
  | _ => exact h
/-- an operator of an own class, found by its name -/
structure OwnOp (K : PySem.W.Frag) (C f : Addr) (nm : Str) : Prop where
  at_ : PySem.W.findIn K (.ref C) nm = some (some (.ref f))
  fn : PySem.W.isFn K (.ref f) = true
section
variable {X : Cx} {CX : CXT} {k : Nat} {f C : Addr} {fd : FuncData} {ps : List Str} {sp : Sp} {E : XK}
theorem inst_at {pins : List (Addr × Obj)} {σ : L2.St} {H : Hp} {s : Shared} {a C dx : Addr} {fs : List (Str × V)} (I : Inv X pins σ H s) (h : H a = some (.ins C dx fs)) : ∃ od, PySem.W.InstAt s.heap a (PySem.W.instObj C dx) C (some od) := by
  obtain ⟨mA, J, _⟩ := ins_get I.hok h
  obtain ⟨od, J, _⟩ := J.look
  exact ⟨od, J⟩
/-- a + b, both of the class at C -/
def rOwn2 (C : Addr) (sp : Sp) (E : XK) : R2 := fun x y H Q => ∃ a b dx dy fs gs, x = .ref a ∧ y = .ref b ∧ H a = some (.ins C dx fs) ∧ H b = some (.ins C dy gs) ∧ sp [x, y] H Q E
theorem op_own2 {op : Operator} (hc : PySem.W.selfFirst X.K C = true) (O : OwnOp X.K C f (PySem.dunder op.info.2)) (G : FnOk X.prog X.w X.K X.mg X.base CX k f fd ps sp) (hr : Room k X.A) (hb : Binds X.K fd ps []) (hx : Passes CX X E) :
    OpR X (binaryOp op) (rOwn2 C sp E) := by
  rintro pins s σ H x y v u Q I rx ry ⟨a, b, dx, dy, fs, gs, rfl, rfl, ha, hb', hsp⟩
  cases rx
  cases ry
  obtain ⟨od, J⟩ := inst_at I ha
  obtain ⟨od', J'⟩ := inst_at I hb'
  obtain ⟨m, hF⟩ := I.fr
  refine PySem.W.binop_K hF I.ok.mod.kin J J'.type hc O.at_ O.fn ?_
  exact wpAny_mono (run_fn (us := [.ref a, .ref b]) (vs := [.ref a, .ref b]) G hr hb .nil hx I (.cons rfl (.cons rfl .nil)) hsp) (fun _ _ h => cmpBack_of h) fun _ _ z => z
/-- a + i, a of the class at C, i an int -/
structure IntOp (K : PySem.W.Frag) (C : Addr) (nm : String) : Prop where
  h1 : ∃ fo, PySem.W.findIn K (.type "int") (PySem.dunder nm) = some fo
  h2 : ∃ ro, PySem.W.findIn K (.type "int") (dunderR nm) = some ro
  hsub : PySem.W.subIn K (.type "int") (.ref C) = some false
  hr : ∃ g : Addr, PySem.W.findIn K (.ref C) (dunderR nm) = some (some (.ref g))
def rOwnI (C : Addr) (sp : Sp) (E : XK) : R2 := fun x y H Q => ∃ a i dx fs, x = .ref a ∧ y = .int i ∧ H a = some (.ins C dx fs) ∧ sp [x, y] H Q E
theorem op_ownI {op : Operator} (hc : PySem.W.selfFirst X.K C = true) (O : OwnOp X.K C f (PySem.dunder op.info.2)) (N : IntOp X.K C op.info.2) (G : FnOk X.prog X.w X.K X.mg X.base CX k f fd ps sp) (hr : Room k X.A) (hb : Binds X.K fd ps []) (hx : Passes CX X E) :
    OpR X (binaryOp op) (rOwnI C sp E) := by
  rintro pins s σ H x y v u Q I rx ry ⟨a, i, dx, fs, rfl, rfl, ha, hsp⟩
  cases rx
  obtain ⟨t, rfl⟩ := ry
  obtain ⟨od, J⟩ := inst_at I ha
  obtain ⟨m, hF⟩ := I.fr
  obtain ⟨fo, h1⟩ := N.h1
  obtain ⟨ro, h2⟩ := N.h2
  obtain ⟨g, h3⟩ := N.hr
  refine PySem.W.ksp_binT (T := "int") hF I.ok.mod.kin J rfl hc O.at_ O.fn h3 (.inr ⟨g, rfl⟩) h1 h2 N.hsub ?_
  exact wpAny_mono (run_fn (us := [.ref a, .int i t]) (vs := [.ref a, .int i]) G hr hb .nil hx I (.cons rfl (.cons ⟨t, rfl⟩ .nil)) hsp) (fun _ _ h => cmpBack_of h) fun _ _ z => z
/-- -a -/
def rOwn1 (C : Addr) (sp : Sp) (E : XK) : V → Hp → VK → Prop := fun x H Q => ∃ a dx fs, x = .ref a ∧ H a = some (.ins C dx fs) ∧ sp [x] H Q E
theorem un_own (O : OwnOp X.K C f "__neg__") (G : FnOk X.prog X.w X.K X.mg X.base CX k f fd ps sp) (hr : Room k X.A) (hb : Binds X.K fd ps []) (hx : Passes CX X E) : UnR X (unaryOp .USub) (rOwn1 C sp E) := by
  rintro pins s σ H x v Q I rx ⟨a, dx, fs, rfl, ha, hsp⟩
  cases rx
  obtain ⟨od, J⟩ := inst_at I ha
  obtain ⟨m, hF⟩ := I.fr
  refine PySem.W.ksp_neg hF I.ok.mod.kin J O.at_ O.fn ?_
  exact run_fn (us := [.ref a]) (vs := [.ref a]) G hr hb .nil hx I (.cons rfl .nil) hsp
end
end Sq
namespace Sq
open PySem L2 PyProof.Rows
/-- a built-in operator of ints, upon an object that holds no int: NotImplemented -/
def SNot (a : Addr) : PySem.Spec := fun _ R s => (∃ o, s.heap.get? a = some o ∧ o.data = .plain) ∧ R (.ok (.ret .notImplemented)) s
theorem bin_not {nm : String} {g : Int → Int → Sem Fin} {i : Int} {t : Tok} {a : Addr} : Meets (Builtin.Int.intBinary nm g false ⟨[.int i t, .ref a], []⟩) (SNot a) := by
  rintro prog w A R s ⟨⟨o, ho, hd⟩, q⟩
  unfold Builtin.Int.intBinary
  refine wpAny_bind (wpAny_of_eq (a := ((Value.int i t : Value), [Value.ref a])) (by first | rfl | (simp only [slotArgs]; rfl)) ?_)
  refine wpAny_bind (wpAny_of_eq (a := i) (by rfl) ?_)
  refine wpAny_bind (wpAny_bind (wpAny_load ho ?_))
  rw [hd]
  exact wpAny_pure (wpAny_bind (wpAny_rule (wpAny_pure q)))
section
variable {X : Cx} {CX : CXT} {k : Nat} {f C : Addr} {fd : FuncData} {ps : List Str} {sp : Sp} {E : XK}
/-- i + a, i an int, a of the class at C -/
def rIOwn (C : Addr) (sp : Sp) (E : XK) : R2 := fun x y H Q => ∃ a i dx fs, x = .int i ∧ y = .ref a ∧ H a = some (.ins C dx fs) ∧ sp [y, x] H Q E
theorem bin1_right {M : Model} {A : Around} {E : Value → Shared → Prop} {s : Shared} {K : PySem.W.Frag} {a C f : Addr} {ox : Obj} {od : Option Obj} {nm : String} {i : Int} {t : Tok} {id : String} {Q : Option Value → Shared → Prop}
    (Y : K.In s.heap) (I : PySem.W.InstAt s.heap a ox C od) (hc : PySem.W.selfFirst K C = true) (fT : fillsNumberSlot (.type "int") nm = pure true) (sl : Slot "int" (PySem.dunder nm) id)
    (h0 : PySem.W.findIn K (.ref C) (PySem.dunder nm) = some (some (.ref f))) {g : Addr} (hs : PySem.W.findIn K (.ref C) (dunderR nm) = some (some (.ref g))) (hf : PySem.W.isFn K (.ref g) = true) (hsub : PySem.W.subIn K (.ref C) (.type "int") = some false)
    (hcall : wpAny M A (call (.builtin id) [.int i t, .ref a]) (fun v s' => v = .notImplemented ∧ s' = s) E s)
    (h : wpAny M A (call (.ref g) [.ref a, .int i t]) (PySem.W.CmpBack fun v s' => Q (some v) s') E s) : wpAny M A (binaryOp1 nm (.int i t) (.ref a)) Q E s := by
  obtain ⟨cd, rest, hcd, hm⟩ := PySem.W.ksp_first hc
  have L1 : PySem.W.Looks M s.heap (typeOf (.ref a)) (.ref C) := I.type
  have L2 : PySem.W.Looks M s.heap (fillsNumberSlot (.ref C) nm) true := PySem.W.fills_K Y hcd hm h0
  have L3 : PySem.W.Looks M s.heap (isSubtype (.ref C) (.type "int")) false := PySem.W.looks_subIn Y hsub
  have two : wpAny M A (tryMethod (.ref a) (dunderR nm) (.int i t)) (fun r s' => ∃ v, r = some v ∧ Q (some v) s') E s := PySem.W.ksp_try Y I hs hf h
  simp only [binaryOp1]
  refine wpAny_bind (wpAny_of_eq (a := Value.type "int") rfl (wpAny_bind (L1.here (wpAny_bind (wpAny_of_eq fT ?_)))))
  have ne : (Value.type "int" == Value.ref C) = false := Bool.eq_false_iff.mpr fun q => by cases beq_iff_eq.mp q
  simp only [ne, Bool.false_eq_true, if_false]
  refine wpAny_bind (L2.here ?_)
  simp only [Bool.and_self, if_true]
  refine wpAny_bind (L3.here ?_)
  have hpy : numberSlotInPython (.type "int") nm = pure false := rfl
  simp only [Bool.false_eq_true, if_false, pure_bind, Bool.not_false, Bool.and_self, if_true, hpy]
  refine wpAny_bind (m := tryMethod (.int i t) _ _) ?_
  have hT : s.TypeIs (.int i t) "int" := typeIs_int s i t
  unfold tryMethod
  refine wpAny_bind (wpAny_callSpecial?_slot hT sl (wpAny_mono hcall (fun v s1 h1 => ?_) fun _ _ z => z))
  obtain ⟨rfl, rfl⟩ := h1
  refine wpAny_pure (wpAny_bind (wpAny_mono two (fun r s2 h2 => ?_) fun _ _ z => z))
  obtain ⟨v, rfl, q⟩ := h2
  exact wpAny_bind (wpAny_rule (wpAny_pure q))
end
end Sq
namespace Sq
open PySem L2 PyProof.Rows
/-- what the class must say for i + a -/
structure RevOp (K : PySem.W.Frag) (C f g : Addr) (nm : String) : Prop where
  h0 : PySem.W.findIn K (.ref C) (PySem.dunder nm) = some (some (.ref f))
  hs : PySem.W.findIn K (.ref C) (dunderR nm) = some (some (.ref g))
  hf : PySem.W.isFn K (.ref g) = true
  hsub : PySem.W.subIn K (.ref C) (.type "int") = some false
/-- the built-in side of an operator of ints -/
structure BltOp (op : Operator) : Prop where
  fT : fillsNumberSlot (.type "int") op.info.2 = pure true
  sl : ∃ id B, Slot "int" (PySem.dunder op.info.2) id ∧ entryFor table id = some B ∧ (∀ a b : Value, argsOk id ⟨[a, b], []⟩) ∧ ∃ nm g, ∀ args, B args = Builtin.Int.intBinary nm g false args
theorem blt_add : BltOp .Add := ⟨F.fills_int_add, _, _, F.slot_int_add, F.entry_int_add, F.args_int_add_2, _, _, fun _ => rfl⟩
theorem blt_sub : BltOp .Sub := ⟨F.fills_int_sub, _, _, F.slot_int_sub, F.entry_int_sub, F.args_int_sub_2, _, _, fun _ => rfl⟩
theorem blt_mul : BltOp .Mult := ⟨F.fills_int_mul, _, _, F.slot_int_mul, F.entry_int_mul, F.args_int_mul_2, _, _, fun _ => rfl⟩
section
variable {X : Cx} {CX : CXT} {k : Nat} {f C : Addr} {fd : FuncData} {ps : List Str} {sp : Sp} {E : XK}
theorem bin_of1 {M : Model} {A : Around} {E : Value → Shared → Prop} {s : Shared} {op : Operator} {a b : Value} {Q : Value → Shared → Prop} (h : wpAny M A (binaryOp1 op.info.2 a b) (fun r s' => ∃ v, r = some v ∧ Q v s') E s) : wpAny M A (binaryOp op a b) Q E s := by
  rcases hi : op.info with ⟨sym, nm⟩
  rw [hi] at h
  simp only [binaryOp, hi]
  refine wpAny_holding (wpAny_bind (wpAny_mono h (fun r s' hr => ?_) fun _ _ z => z))
  obtain ⟨v, rfl, q⟩ := hr
  exact wpAny_pure q
theorem op_Iown {op : Operator} {g : Addr} (hc : PySem.W.selfFirst X.K C = true) (B : BltOp op) (R : RevOp X.K C f g op.info.2) (G : FnOk X.prog X.w X.K X.mg X.base CX k g fd ps sp) (hr : Room k X.A) (hb : Binds X.K fd ps []) (hx : Passes CX X E) :
    OpR X (binaryOp op) (rIOwn C sp E) := by
  rintro pins s σ H x y v u Q I rx ry ⟨a, i, dx, fs, rfl, rfl, ha, hsp⟩
  cases ry
  obtain ⟨t, rfl⟩ := rx
  obtain ⟨od, J⟩ := inst_at I ha
  obtain ⟨id, Bf, sl, en, ar, nm, gg, hB⟩ := B.sl
  refine bin_of1 (bin1_right I.kIn J hc B.fT sl R.h0 R.hs R.hf R.hsub ?_ ?_)
  · refine call_meets sl (typeIs_int s i t) en (ar _ _) (S := SNot a) ?_ ⟨⟨_, J.at_, rfl⟩, rfl, rfl⟩
    rw [hB]
    exact bin_not
  · refine wpAny_mono (run_fn (us := [.ref a, .int i t]) (vs := [.ref a, .int i]) G hr hb .nil hx I (.cons rfl (.cons ⟨t, rfl⟩ .nil)) hsp) (fun u s' h => ?_) fun _ _ z => z
    have c := cmpBack_of h
    cases u with
    | notImplemented => exact c.elim
    | _ => exact ⟨_, rfl, c⟩
/-- the class has only itself and object above it -/
structure MroOk (K : PySem.W.Frag) (C : Addr) (cd : ClassData) : Prop where
  hc : PySem.W.clsIn K C = some cd
  hm : cd.mro = [.ref C, .type "object"]
structure NoIn (K : PySem.W.Frag) (C : Addr) (nm : String) : Prop where
  h1 : PySem.W.findIn K (.ref C) (dunderI nm) = some none
  h2 : PySem.W.findIn K (.type "object") (dunderI nm) = some none
theorem no_inplace {K : PySem.W.Frag} {M : Model} {h : Heap} {cd : ClassData} {nm : String} {add : Bool} (Y : K.In h) (O : MroOk K C cd) (N : NoIn K C nm) : PySem.W.Looks M h (fillsInplaceSlot (.ref C) nm add) false := by
  intro A Q E s kk q
  have Lm : PySem.W.Looks M h (mroOf (.ref C)) cd.mro := (PySem.W.looks_clsIn Y O.hc).andThen (f := fun cd => pure cd.mro) .now
  have L1 : PySem.W.Looks M h (typeLookup (.ref C) (dunderI nm)) none := PySem.W.looks_findIn Y N.h1
  have L2 : PySem.W.Looks M h (typeLookup (.type "object") (dunderI nm)) none := PySem.W.looks_findIn Y N.h2
  unfold fillsInplaceSlot
  refine wpAny_bind (Lm A _ E s kk ?_)
  rw [O.hm, List.anyM_cons]
  refine wpAny_bind (wpAny_bind (L1 A _ E s kk (wpAny_pure ?_)))
  rw [if_neg Bool.false_ne_true, List.anyM_cons]
  refine wpAny_bind (wpAny_bind (L2 A _ E s kk (wpAny_pure ?_)))
  rw [if_neg Bool.false_ne_true, List.anyM_nil]
  exact wpAny_pure q
theorem inplace_of1 {M : Model} {A : Around} {E : Value → Shared → Prop} {s : Shared} {K : PySem.W.Frag} {op : Operator} {a : Addr} {b : Value} {ox : Obj} {od : Option Obj} {cd : ClassData} {Q : Value → Shared → Prop} (Y : K.In s.heap) (I : PySem.W.InstAt s.heap a ox C od) (O : MroOk K C cd) (N : NoIn K C op.info.2)
    (h : wpAny M A (binaryOp1 op.info.2 (.ref a) b) (fun r s' => ∃ v, r = some v ∧ Q v s') E s) : wpAny M A (inplaceOp op (.ref a) b) Q E s := by
  have L1 : PySem.W.Looks M s.heap (typeOf (.ref a)) (.ref C) := I.type
  have L2 : PySem.W.Looks M s.heap (fillsInplaceSlot (.ref C) op.info.2 (op == .Add)) false := no_inplace Y O N
  unfold inplaceOp
  refine wpAny_holding (wpAny_bind (L1.here (wpAny_bind (L2.here ?_))))
  simp only [Bool.false_eq_true, if_false]
  refine wpAny_bind (wpAny_mono h (fun r s' hr => ?_) fun _ _ z => z)
  obtain ⟨v, rfl, q⟩ := hr
  exact wpAny_pure q
theorem bin1_two {M : Model} {A : Around} {E : Value → Shared → Prop} {s : Shared} {K : PySem.W.Frag} {a : Addr} {b : Value} {ox : Obj} {od : Option Obj} {nm : String} {Q : Option Value → Shared → Prop} (Y : K.In s.heap) (I : PySem.W.InstAt s.heap a ox C od)
    (hb : PySem.W.Looks M s.heap (typeOf b) (.ref C)) (hc : PySem.W.selfFirst K C = true) (O : OwnOp K C f (PySem.dunder nm)) (h : wpAny M A (call (.ref f) [.ref a, b]) (PySem.W.CmpBack fun v s' => Q (some v) s') E s) : wpAny M A (binaryOp1 nm (.ref a) b) Q E s := by
  obtain ⟨cd, rest, hcd, hm⟩ := PySem.W.ksp_first hc
  have L1 : PySem.W.Looks M s.heap (typeOf (.ref a)) (.ref C) := I.type
  have L2 : PySem.W.Looks M s.heap (fillsNumberSlot (.ref C) nm) true := PySem.W.fills_K Y hcd hm O.at_
  have one : wpAny M A (tryMethod (.ref a) (PySem.dunder nm) b) (fun r s' => ∃ v, r = some v ∧ Q (some v) s') E s := PySem.W.ksp_try Y I O.at_ O.fn h
  simp only [binaryOp1]
  refine wpAny_bind (L1.here (wpAny_bind (hb.here (wpAny_bind (L2.here ?_)))))
  simp only [beq_self_eq_true, if_true]
  refine wpAny_bind (wpAny_pure ?_)
  simp only [Bool.and_false, Bool.false_eq_true, if_false, Bool.false_and, pure_bind, if_true]
  refine wpAny_bind (wpAny_mono one (fun r s' hr => ?_) fun _ _ z => z)
  obtain ⟨v, rfl, q⟩ := hr
  exact wpAny_pure q
theorem bin1_int {M : Model} {A : Around} {E : Value → Shared → Prop} {s : Shared} {K : PySem.W.Frag} {a : Addr} {i : Int} {t : Tok} {ox : Obj} {od : Option Obj} {nm : String} {Q : Option Value → Shared → Prop} (Y : K.In s.heap) (I : PySem.W.InstAt s.heap a ox C od)
    (hc : PySem.W.selfFirst K C = true) (O : OwnOp K C f (PySem.dunder nm)) (N : IntOp K C nm) (h : wpAny M A (call (.ref f) [.ref a, .int i t]) (PySem.W.CmpBack fun v s' => Q (some v) s') E s) : wpAny M A (binaryOp1 nm (.ref a) (.int i t)) Q E s := by
  obtain ⟨cd, rest, hcd, hm⟩ := PySem.W.ksp_first hc
  obtain ⟨fo, h1⟩ := N.h1
  obtain ⟨ro, h2⟩ := N.h2
  obtain ⟨g, h3⟩ := N.hr
  have L1 : PySem.W.Looks M s.heap (typeOf (.ref a)) (.ref C) := I.type
  have L2 : PySem.W.Looks M s.heap (fillsNumberSlot (.ref C) nm) true := PySem.W.fills_K Y hcd hm O.at_
  have L3 : PySem.W.Looks M s.heap (fillsNumberSlot (.type "int") nm) ((fo.isSome && !isSeqSlot fo) || (ro.isSome && !isSeqSlot ro)) := PySem.W.ksp_fillsT Y h1 h2
  have L4 : PySem.W.Looks M s.heap (isSubtype (.type "int") (.ref C)) false := PySem.W.looks_subIn Y N.hsub
  have L5 : PySem.W.Looks M s.heap (numberSlotInPython (.ref C) nm) true := PySem.W.ksp_inPy Y O.at_ h3 (.inr ⟨g, rfl⟩)
  have L6 : PySem.W.Looks M s.heap (typeLookup (.type "int") (dunderR nm)) ro := PySem.W.looks_findIn Y h2
  have one : wpAny M A (tryMethod (.ref a) (PySem.dunder nm) (.int i t)) (fun r s' => ∃ v, r = some v ∧ Q (some v) s') E s := PySem.W.ksp_try Y I O.at_ O.fn h
  have ne : (Value.ref C == Value.type "int") = false := Bool.eq_false_iff.mpr fun q => by cases beq_iff_eq.mp q
  have hpy : numberSlotInPython (.type "int") nm = pure false := rfl
  simp only [binaryOp1]
  refine wpAny_bind (L1.here (wpAny_bind (wpAny_of_eq (a := Value.type "int") rfl (wpAny_bind (L2.here ?_)))))
  simp only [ne, Bool.false_eq_true, if_false]
  refine wpAny_bind (L3.here ?_)
  generalize ((fo.isSome && !isSeqSlot fo) || (ro.isSome && !isSeqSlot ro)) = right
  cases right with
  | false =>
    simp only [Bool.and_false, Bool.false_eq_true, if_false, Bool.false_and, pure_bind, if_true]
    refine wpAny_bind (wpAny_mono one (fun r s' hr => ?_) fun _ _ z => z)
    obtain ⟨v, rfl, q⟩ := hr
    exact wpAny_pure q
  | true =>
    simp only [Bool.and_self, if_true]
    refine wpAny_bind (L4.here ?_)
    simp only [Bool.false_eq_true, if_false, pure_bind, Bool.not_false, Bool.and_self, if_true]
    refine wpAny_bind (L5.here ?_)
    simp only [if_true, hpy, pure_bind, Bool.not_false]
    refine wpAny_bind (L6.here (wpAny_bind (wpAny_mono one (fun r s' hr => ?_) fun _ _ z => z)))
    obtain ⟨v, rfl, q⟩ := hr
    exact wpAny_pure q
theorem back_some {pins : List (Addr × Obj)} {σ : L2.St} {Q : VK} {u : Value} {s' : Shared} (h : EP X pins σ Q u s') : PySem.W.CmpBack (fun v s' => ∃ w, some v = some w ∧ EP X pins σ Q w s') u s' := by
  have c := cmpBack_of h
  cases u with
  | notImplemented => exact c.elim
  | _ => exact ⟨_, rfl, c⟩
theorem ip_own2 {op : Operator} {cd : ClassData} (hc : PySem.W.selfFirst X.K C = true) (M : MroOk X.K C cd) (N : NoIn X.K C op.info.2) (O : OwnOp X.K C f (PySem.dunder op.info.2)) (G : FnOk X.prog X.w X.K X.mg X.base CX k f fd ps sp) (hr : Room k X.A) (hb : Binds X.K fd ps []) (hx : Passes CX X E) :
    OpR X (inplaceOp op) (rOwn2 C sp E) := by
  rintro pins s σ H x y v u Q I rx ry ⟨a, b, dx, dy, fs, gs, rfl, rfl, ha, hb', hsp⟩
  cases rx
  cases ry
  obtain ⟨od, J⟩ := inst_at I ha
  obtain ⟨od', J'⟩ := inst_at I hb'
  exact inplace_of1 I.kIn J M N (bin1_two I.kIn J J'.type hc O (wpAny_mono (run_fn (us := [.ref a, .ref b]) (vs := [.ref a, .ref b]) G hr hb .nil hx I (.cons rfl (.cons rfl .nil)) hsp) (fun _ _ h => back_some h) fun _ _ z => z))
theorem ip_ownI {op : Operator} {cd : ClassData} (hc : PySem.W.selfFirst X.K C = true) (M : MroOk X.K C cd) (N : NoIn X.K C op.info.2) (O : OwnOp X.K C f (PySem.dunder op.info.2)) (NI : IntOp X.K C op.info.2) (G : FnOk X.prog X.w X.K X.mg X.base CX k f fd ps sp) (hr : Room k X.A) (hb : Binds X.K fd ps []) (hx : Passes CX X E) :
    OpR X (inplaceOp op) (rOwnI C sp E) := by
  rintro pins s σ H x y v u Q I rx ry ⟨a, i, dx, fs, rfl, rfl, ha, hsp⟩
  cases rx
  obtain ⟨t, rfl⟩ := ry
  obtain ⟨od, J⟩ := inst_at I ha
  exact inplace_of1 I.kIn J M N (bin1_int I.kIn J hc O NI (wpAny_mono (run_fn (us := [.ref a, .int i t]) (vs := [.ref a, .int i]) G hr hb .nil hx I (.cons rfl (.cons ⟨t, rfl⟩ .nil)) hsp) (fun _ _ h => back_some h) fun _ _ z => z))
/-- a == y by the class's own ==; y is of the class, or of a built-in class -/
def rOwnEq (K : PySem.W.Frag) (C : Addr) (sp : Sp) (E : XK) : R2 := fun x y H Q => ∃ a dx fs t, x = .ref a ∧ H a = some (.ins C dx fs) ∧ TyX K H y t ∧ PySem.W.notFirst K C t = true ∧ sp [x, y] H Q E
theorem op_ownEq (O : OwnOp X.K C f "__eq__") (G : FnOk X.prog X.w X.K X.mg X.base CX k f fd ps sp) (hr : Room k X.A) (hb : Binds X.K fd ps []) (hx : Passes CX X E) : OpR X (compareOp .Eq) (rOwnEq X.K C sp E) := by
  rintro pins s σ H x y v u Q I rx ry ⟨a, dx, fs, t, rfl, ha, hty, hn, hsp⟩
  cases rx
  obtain ⟨od, J⟩ := inst_at I ha
  obtain ⟨m, hF⟩ := I.fr
  obtain ⟨Pt, KX, hp, _⟩ := kit_of I ry hty
  show wpAny (model X.prog X.w) X.A (richCompare .Eq (.ref a) u) (EP X pins σ Q) X.xe s
  refine PySem.W.cmp_K (op := .Eq) (tb := t) hr.units0 hF I.ok.mod.kin J (KX.ty _ _ I.kIn hp) hn O.at_ O.fn ?_
  exact wpAny_mono (run_fn (us := [.ref a, u]) (vs := [.ref a, y]) G hr hb .nil hx I (.cons rfl (.cons ry .nil)) hsp) (fun _ _ h => cmpBack_of h) fun _ _ z => z
end
end Sq

namespace Sq
open PySem L2 PyProof.Rows
/-- one or the other rule -/
theorem op_or {X : Cx} {f : Value → Value → Sem Value} {r1 r2 : R2} (h1 : OpR X f r1) (h2 : OpR X f r2) : OpR X f (fun x y H Q => r1 x y H Q ∨ r2 x y H Q) := by
  rintro pins s σ H x y v u Q I rx ry (h | h)
  · exact h1 pins s σ H x y v u Q I rx ry h
  · exact h2 pins s σ H x y v u Q I rx ry h
/-- X(), X an own error class without an __init__ -/
theorem pmk_own0 {X : Cx} {C : Addr} {bmB : List Value} {B newId initId : String} {x : Str} {p pos : Pos} (F : ExcBaseFacts B newId initId bmB) (q : PySem.W.excIn X.K C bmB newId = true) (gC : X.mg x = some (.ref C)) (kC : PySem.W.keepIn X.K (.ref C) = true)
    (r : Raises X (.ref C)) (hg : Gl X x) (nd : (x == ("__debug__" : Str)) = false := by decide) : PMk X (.Call (.Name x p) [] [] pos) (fun _ H Q => Q (.ref C) none H) := by
  intro pins s σ H Q I h
  refine wpAny_Call_Name_kw (ld_glob I hg gC (PySem.W.callWith_K0 I.kIn kC ?_) nd)
  show wpAny _ _ (call (.ref C) []) _ _ _
  obtain ⟨bm, N, nm, qn, bs, hdct, sn, sub, ab, col, dd, k0, k1, k2, k3, k5, mN, hC, hN, hni, T⟩ := exc_obj I.kIn q
  obtain ⟨hp, g, d, t, os⟩ := s
  exact wpAny_call_exc_subT F T hC hN hni (fun h' e hm => mk_of I hm r h (I.hok.gone hm.new)) (Nat.zero_le _)
/-- what the class must say for a != b by its own == -/
structure NeOp (K : PySem.W.Frag) (C f : Addr) : Prop where
  eq : PySem.W.findIn K (.ref C) "__eq__" = some (some (.ref f))
  fn : PySem.W.isFn K (.ref f) = true
  ne : PySem.W.findIn K (.ref C) "__ne__" = some (some (.builtin "object.__ne__"))
  ob : PySem.W.mroIn K C (.type "object") = some true
section
variable {X : Cx} {CX : CXT} {k : Nat} {f C : Addr} {fd : FuncData} {ps : List Str} {sp : Sp} {E : XK}
theorem if_bound {M : Model} {A : Around} {E : Value → Shared → Prop} {s : Shared} {K : PySem.W.Frag} {x : Addr} {ox : Obj} {od : Option Obj} {name : Str} {id : String} {args : List Value} {Q : Option Value → Shared → Prop} (Y : K.In s.heap) (I : PySem.W.InstAt s.heap x ox C od)
    (hs : PySem.W.findIn K (.ref C) name = some (some (.builtin id))) (hb : ∀ self : Value, bindSpecial (.builtin id) self = pure (Value.builtin id, [self])) (h : wpAny M A (call (.builtin id) (.ref x :: args)) (fun v => Q (some v)) E s) : wpAny M A (callSpecialIfBound? (.ref x) name args) Q E s := by
  simp only [callSpecialIfBound?, bindSpecialIfBound?]
  refine wpAny_holding (wpAny_bind (wpAny_bind (wpAny_bind (I.type.here ((PySem.W.looks_findIn Y hs).here ?_)))))
  have fin : wpAny M A (call (.builtin id) ([.ref x] ++ args) >>= fun v => pure (some v)) Q E s := wpAny_bind (wpAny_mono h (fun v s' h' => wpAny_pure h') fun _ _ h' => h')
  refine wpAny_bind (wpAny_askSetting (wpAny_ite ?_))
  split
  · exact wpAny_bind (wpAny_of_eq (hb _) (wpAny_pure fin))
  · exact wpAny_tryCatch (wpAny_bind (wpAny_of_eq (hb _) (wpAny_pure fin)))
end
end Sq

namespace Sq
open PySem L2 PyProof.Rows
abbrev s_isnum : Stmt := top 10
abbrev s_asratio : Stmt := top 11
abbrev s_req : Stmt := inClass (top 12) 1
abbrev s_radd : Stmt := inClass (top 12) 2
abbrev s_rradd : Stmt := inClass (top 12) 3
abbrev s_rsub : Stmt := inClass (top 12) 4
abbrev s_rrsub : Stmt := inClass (top 12) 5
abbrev s_rmul : Stmt := inClass (top 12) 6
abbrev s_rrmul : Stmt := inClass (top 12) 7
abbrev s_rneg : Stmt := inClass (top 12) 8
abbrev s_rover : Stmt := inClass (top 12) 9
/-! ### mathematics -/
theorem low_int {i T U : Int} (L : Low i 1 T U) : T = i ∧ U = 1 := by
  have v := L.val
  have p := L.pos
  have c := L.cop
  rw [Int.mul_one] at v
  rw [v, Int.gcd_comm] at c
  have d : Int.gcd U (i * U) = U.natAbs := Int.gcd_eq_natAbs_left (Int.dvd_mul_left ..)
  rw [d] at c
  have u1 : U = 1 := by omega
  rw [u1, Int.mul_one] at v
  exact ⟨v, u1⟩
theorem cancel_r {x y z : Int} (hz : z ≠ 0) (h : x * z = y * z) : x = y := Int.eq_of_mul_eq_mul_right hz h
/-- the value of a fraction in lowest terms, over a further fraction's -/
theorem low_add {a b c d t u t' u' T U : Int} (L1 : Low a b t u) (L2 : Low c d t' u') (L : Low (t * u' + t' * u) (u * u') T U) : T * (b * d) = (a * d + c * b) * U := by
  have h1 := L1.val
  have h2 := L2.val
  have h := L.val
  have n : u * u' ≠ 0 := Int.mul_ne_zero (by have := L1.pos; omega) (by have := L2.pos; omega)
  refine cancel_r n ?_
  grind
theorem low_sub {a b c d t u t' u' T U : Int} (L1 : Low a b t u) (L2 : Low c d t' u') (L : Low (t * u' - t' * u) (u * u') T U) : T * (b * d) = (a * d - c * b) * U := by
  have h1 := L1.val
  have h2 := L2.val
  have h := L.val
  have n : u * u' ≠ 0 := Int.mul_ne_zero (by have := L1.pos; omega) (by have := L2.pos; omega)
  refine cancel_r n ?_
  grind
theorem low_mul {a b c d t u t' u' T U : Int} (L1 : Low a b t u) (L2 : Low c d t' u') (L : Low (t * t') (u * u') T U) : T * (b * d) = a * c * U := by
  have h1 := L1.val
  have h2 := L2.val
  have h := L.val
  have n : u * u' ≠ 0 := Int.mul_ne_zero (by have := L1.pos; omega) (by have := L2.pos; omega)
  refine cancel_r n ?_
  grind
theorem low_over {a b c d t u t' u' T U : Int} (L1 : Low a b t u) (L2 : Low c d t' u') (hd : d ≠ 0) (hc : c ≠ 0) (L : Low (t * u') (u * t') T U) : T * (b * c) = a * d * U := by
  have h1 := L1.val
  have h2 := L2.val
  have h := L.val
  have t0 : t' ≠ 0 := fun e => by
    rw [e, Int.zero_mul] at h2
    have := L2.pos
    exact Int.mul_ne_zero hc (by omega) h2.symm
  have n : u * t' ≠ 0 := Int.mul_ne_zero (by have := L1.pos; omega) t0
  refine cancel_r n (cancel_r hd ?_)
  grind
theorem low_neg {a b t u T U : Int} (L1 : Low a b t u) (L : Low (-t) u T U) : T * b = -a * U := by
  have h1 := L1.val
  have h := L.val
  have n : u ≠ 0 := by have := L1.pos; omega
  refine cancel_r n ?_
  grind
theorem low_one : Low t 1 t 1 := ⟨by decide, by simp, by omega, Nat.le_refl _, Nat.le_refl _⟩
theorem low_eq {a b c d t u t' u' : Int} (hb : b ≠ 0) (hd : d ≠ 0) (L1 : Low a b t u) (L2 : Low c d t' u') : (t = t' ∧ u = u') ↔ a * d = c * b := by
  have h1 := L1.val
  have h2 := L2.val
  have p1 := L1.pos
  have p2 := L2.pos
  constructor
  · rintro ⟨rfl, rfl⟩
    refine cancel_r (z := u) (by omega) ?_
    grind
  · intro h
    have n : b * d ≠ 0 := Int.mul_ne_zero hb hd
    have e : t * u' = t' * u := cancel_r n (by grind)
    have e' : t.natAbs * u'.natAbs = t'.natAbs * u.natAbs := by rw [← Int.natAbs_mul, ← Int.natAbs_mul, e]
    have c1 : Nat.Coprime u.natAbs t.natAbs := Nat.Coprime.symm L1.cop
    have c2 : Nat.Coprime u'.natAbs t'.natAbs := Nat.Coprime.symm L2.cop
    have d1 : u.natAbs ∣ u'.natAbs := c1.dvd_of_dvd_mul_left (by rw [e']; exact Nat.dvd_mul_left ..)
    have d2 : u'.natAbs ∣ u.natAbs := c2.dvd_of_dvd_mul_left (by rw [← e']; exact Nat.dvd_mul_left ..)
    have eu : u.natAbs = u'.natAbs := Nat.dvd_antisymm d1 d2
    have eu2 : u = u' := by omega
    subst eu2
    exact ⟨cancel_r (z := u) (by omega) e, rfl⟩
theorem low_eqI {a b t u w : Int} (hb : b ≠ 0) (L1 : Low a b t u) : (u = 1 ∧ t = w) ↔ a = w * b := by
  have h := low_eq hb (by decide) L1 (low_one (t := w))
  rw [Int.mul_one] at h
  rw [← h]
  constructor
  · rintro ⟨a, b⟩
    exact ⟨b, a⟩
  · rintro ⟨a, b⟩
    exact ⟨b, a⟩
/-- of at most 1,500 bits -/
def Fit (t : Int) : Prop := t.natAbs < 2 ^ 1500
theorem up {t : Int} (h : Fit t) : t.natAbs < 2 ^ 4000 := Nat.lt_of_lt_of_le h (Nat.pow_le_pow_right (by decide) (by decide))
theorem fit_up {t : Int} (h : Fit t) : t.natAbs < 2 ^ 8000 := Nat.lt_of_lt_of_le h (Nat.pow_le_pow_right (by decide) (by decide))
theorem big2 {t u : Int} (h : Fit t) (h' : Fit u) : (t * u).natAbs < 2 ^ 8000 := Nat.lt_of_lt_of_le (wide_lt h h') (Nat.pow_le_pow_right (by decide) (by decide))
theorem fit_one : Fit 1 := Nat.lt_of_lt_of_le (show (1 : Int).natAbs < 2 ^ 1 from by decide) (Nat.pow_le_pow_right (by decide) (by decide))
theorem mul_ne {a b : Int} (h : a ≠ 0) (h' : b ≠ 0) : a * b ≠ 0 := Int.mul_ne_zero h h'
/-- y is the number t / u: a Ratio, or an int -/
def NumAt (C : Addr) (H : Hp) (y : V) (t u : Int) : Prop := (∃ r, y = .ref r ∧ RatAt C H r t u) ∨ (y = .int t ∧ u = 1)
theorem RatAt.same {C : Addr} {H H' : Hp} {x : Addr} {t u : Int} (s : Same H H') (h : RatAt C H x t u) : RatAt C H' x t u := by
  obtain ⟨dx, h⟩ := h
  exact ⟨dx, s _ _ h⟩
theorem NumAt.same {C : Addr} {H H' : Hp} {y : V} {t u : Int} (s : Same H H') (h : NumAt C H y t u) : NumAt C H' y t u := by
  rcases h with ⟨r, e, h⟩ | h
  · exact .inl ⟨r, e, h.same s⟩
  · exact .inr h
/-- isinstance(x, Ratio) of other things -/
structure KZx (K : PySem.W.Frag) (C : Addr) : Prop where
  kint : PySem.W.kitOne K (.type "int") (.ref C) = some false
  kstr : PySem.W.kitOne K (.type "str") (.ref C) = some false
  knon : PySem.W.kitOne K (.type "NoneType") (.ref C) = some false
def spIsNum (K : PySem.W.Frag) (C : Addr) : Sp := fun vs H Q _ => ∃ (y : V) (t : Value) (b : Bool), vs = [y] ∧ TyX K H y t ∧ PySem.W.kitOne K t (.ref C) = some b ∧ IsTy K H y ∧ Q (.bl (b || isI y)) H
theorem num_is {K : PySem.W.Frag} {C : Addr} {H : Hp} {y : V} {t u : Int} (T : CTx K C) (Y : ITy K C) (Z : KZx K C) (h : NumAt C H y t u) : ∃ (q : Value) (b : Bool), TyX K H y q ∧ PySem.W.kitOne K q (.ref C) = some b ∧ IsTy K H y ∧ (b || isI y) = true := by
  rcases h with ⟨r, rfl, h⟩ | ⟨rfl, _⟩
  · exact ⟨_, true, h.ty T Y, kit_self, h.isTy T Y, rfl⟩
  · exact ⟨.type "int", false, .base (.int _), Z.kint, .int _, rfl⟩
def spAsRatio (C : Addr) : Sp := fun vs H Q _ => ∃ (y : V) (t u : Int), vs = [y] ∧ NumAt C H y t u ∧ t.natAbs < 2 ^ 8000 ∧ ∀ r H', RatAt C H' r t u → Same H H' → Q (.ref r) H'
section
variable {P : Program} {w : World} {K : PySem.W.Frag} {mg : Str → Option Value} {base : Heap}
theorem sc_isnum : FnScope ["value"] ["value"] (defScope s_isnum) := ⟨rfl, rfl, rfl, by decide +kernel, rfl, by decide +kernel, by decide +kernel⟩
theorem ok_isnum {f C fI : Addr} {fd fdI : FuncData} (F : Fun K "is_number" "is_number" s_isnum f fd) (B : ITx mg) (m_C : mg "Ratio" = some (.ref C))
    (G_I : FnOk P w K mg base CX0 1 fI fdI ["value"] (spIsInt K)) (m_I : mg "is_an_integer" = some (.ref fI)) (k_I : PySem.W.keepIn K (.ref fI) = true) (b_I : Binds K fdI ["value"] []) : FnOk P w K mg base CX0 2 f fd ["value"] (spIsNum K C) := by
  refine F.ok sc_isnum (fun vs H Q E h => ?_) (fun cdv A outer s H vs Q E hr h => ?_)
  · obtain ⟨y, t, b, rfl, _⟩ := h
    rfl
  · obtain ⟨y, t, b, rfl, ty, kb, it, k⟩ := h
    refine ⟨_, pss_one (ps_ret (pe_or (pe_callB call_isi (by rfl) B.b_isinstance (by decide +kernel) (pa_cons (pv 0) (pa_cons (pe_glob (v := .ref C) rfl m_C rfl) pa_nil))) (pe_one (pe_call G_I hr rfl m_I k_I b_I .nil pass0 (pa_cons (pv 0) pa_nil))))), ?_⟩
    refine ⟨_, rfl, _, _, _, _, b, rfl, .own C, ty, kb, _, rfl, ?_⟩
    cases b with
    | true => exact iteT k
    | false => exact iteF ⟨_, rfl, _, rfl, it, k⟩
theorem sc_asratio : FnScope ["number"] ["number"] (defScope s_asratio) := ⟨rfl, rfl, rfl, by decide +kernel, rfl, by decide +kernel, by decide +kernel⟩
theorem ok_asratio {f C CN fR : Addr} {fd fdR : FuncData} {ds1 : List Value} (F : Fun K "as_ratio" "as_ratio" s_asratio f fd) (T : CTx K C) (Y : ITy K C) (Z : KZx K C) (B : ITx mg) (m_C : mg "Ratio" = some (.ref C)) (M : Mk K C fR)
    (G_R : FnOk P w K mg base (L2.CX P w) 3 fR fdR ["self", "top", "bottom"] (spRatioInit K C CN)) (b_R1 : Binds K fdR ["self", "top", "bottom"] ds1) (v_R1 : Vals [.int 1] ds1) : FnOk P w K mg base CX0 5 f fd ["number"] (spAsRatio C) := by
  refine F.ok sc_asratio (fun vs H Q E h => ?_) (fun cdv A outer s H vs Q E hr h => ?_)
  · obtain ⟨y, t, u, rfl, _⟩ := h
    rfl
  · obtain ⟨y, t, u, rfl, hy, st, k⟩ := h
    refine ⟨_, pss_cons (ps_if (pt_val (pe_callB call_isi (by rfl) B.b_isinstance (by decide +kernel) (pa_cons (pv 0) (pa_cons (pe_glob (v := .ref C) rfl m_C rfl) pa_nil)))) (pss_one (ps_ret (pv 0))) pss_nil)
      (pss_one (ps_ret (pe_make M G_R (hr.mono (by decide)) rfl m_C b_R1 v_R1 passL (pa_cons (pv 0) pa_nil)))), ?_⟩
    rcases hy with ⟨r, rfl, hr1⟩ | ⟨rfl, rfl⟩
    · refine ⟨_, rfl, _, _, _, _, true, rfl, .own C, hr1.ty T Y, kit_self, _, rfl, iteT ?_⟩
      exact ⟨_, rfl, k r H hr1 (Same.refl H)⟩
    · refine ⟨_, rfl, _, _, _, _, false, rfl, .own C, .base (.int _), Z.kint, _, rfl, iteF ?_⟩
      refine ⟨_, rfl, fun z dz nz ndz ne => mk_go (by decide) (fit_up fit_one) nz ndz ne fun a b H2 L R s2 => ⟨rfl, ?_⟩⟩
      obtain ⟨e1, e2⟩ := low_int L
      subst e1 e2
      exact k z H2 R s2
def spR_add (C : Addr) : Sp := fun vs H Q _ => ∃ (x : Addr) (y : V) (t u t' u' : Int), vs = [.ref x, y] ∧ RatAt C H x t u ∧ NumAt C H y t' u' ∧ 1 ≤ u ∧ 1 ≤ u' ∧ Fit t ∧ Fit u ∧ Fit t' ∧ Fit u' ∧
  ∀ z T U H', Low (t * u' + t' * u) (u * u') T U → RatAt C H' z T U → Same H H' → Q (.ref z) H'
theorem sc_radd : FnScope ["self", "other", "right"] ["self", "other"] (defScope s_radd) := ⟨rfl, rfl, rfl, by decide +kernel, rfl, by decide +kernel, by decide +kernel⟩
theorem ok_radd {f C CN fR fN fA : Addr} {fd fdR fdN fdA : FuncData} (F : Fun K "__add__" "Ratio.__add__" s_radd f fd) (T : CTx K C) (Y : ITy K C) (Z : KZx K C) (m_C : mg "Ratio" = some (.ref C)) (M : Mk K C fR)
    (G_R : FnOk P w K mg base (L2.CX P w) 3 fR fdR ["self", "top", "bottom"] (spRatioInit K C CN)) (b_R : Binds K fdR ["self", "top", "bottom"] [])
    (G_N : FnOk P w K mg base CX0 2 fN fdN ["value"] (spIsNum K C)) (m_N : mg "is_number" = some (.ref fN)) (k_N : PySem.W.keepIn K (.ref fN) = true) (b_N : Binds K fdN ["value"] [])
    (G_A : FnOk P w K mg base CX0 5 fA fdA ["number"] (spAsRatio C)) (m_A : mg "as_ratio" = some (.ref fA)) (k_A : PySem.W.keepIn K (.ref fA) = true) (b_A : Binds K fdA ["number"] []) :
    FnOk P w K mg base CX0 6 f fd ["self", "other"] (spR_add C) := by
  refine F.ok sc_radd (fun vs H Q E h => ?_) (fun cdv A outer s H vs Q E hr h => ?_)
  · obtain ⟨x, y, t, u, t', u', rfl, _⟩ := h
    rfl
  · obtain ⟨x, y, t, u, t', u', rfl, hx, hy, pu, pu', st, su, st', su', k⟩ := h
    refine ⟨_, (pss_cons (ps_if (pt_not (pt_val (pe_call G_N (hr.mono (by decide)) rfl m_N k_N b_N .nil pass0 (pa_cons (pv 1) pa_nil)))) (pss_one ps_never) pss_nil)
      (pss_cons (ps_set (i := 2) sc_radd.nd rfl (Or.inl rfl) (pe_call G_A hr rfl m_A k_A b_A .nil pass0 (pa_cons (pv 1) pa_nil)))
      (pss_one (ps_ret (pe_make M G_R (hr.mono (by decide)) rfl m_C b_R .nil passL (pa_cons (pe_op op_add (pe_op op_mulW (pe_fld (pv 0) rfl) (pe_fld (pv 2) rfl)) (pe_op op_mulW (pe_fld (pv 2) rfl) (pe_fld (pv 0) rfl))) (pa_cons (pe_op op_mulW (pe_fld (pv 0) rfl) (pe_fld (pv 2) rfl)) pa_nil))))))), ?_⟩
    obtain ⟨q, b, hq, kb, hi, hbi⟩ := num_is T Y Z hy
    refine ⟨_, rfl, y, q, b, rfl, hq, kb, hi, _, rfl, ?_⟩
    rw [hbi]
    refine iteF ?_
    refine ⟨_, rfl, y, t', u', rfl, hy, fit_up st', fun r H1 hr1 s1 => ?_⟩
    obtain ⟨dx, hx0⟩ := hx
    have hx1 := s1 _ _ hx0
    obtain ⟨dr, hr1⟩ := hr1
    refine ⟨_, rfl, x, C, dx, _, _, rfl, hx1, T.cl, T.nT, rf_top _ _, _, rfl, r, C, dr, _, _, rfl, hr1, T.cl, T.nB, rf_bottom _ _, _, _, rfl, rfl, mul_ok (up st) (up su'), ?_⟩
    refine ⟨_, rfl, r, C, dr, _, _, rfl, hr1, T.cl, T.nT, rf_top _ _, _, rfl, x, C, dx, _, _, rfl, hx1, T.cl, T.nB, rf_bottom _ _, _, _, rfl, rfl, mul_ok (up st') (up su), _, _, rfl, rfl, ?_⟩
    refine ⟨_, rfl, x, C, dx, _, _, rfl, hx1, T.cl, T.nB, rf_bottom _ _, _, rfl, r, C, dr, _, _, rfl, hr1, T.cl, T.nB, rf_bottom _ _, _, _, rfl, rfl, mul_ok (up su) (up su'), ?_⟩
    exact fun z dz nz ndz ne => mk_go (mul_ne (by omega) (by omega)) (big2 su su') nz ndz ne fun T U H2 L R s2 => ⟨rfl, k z T U H2 L R (s1.trans s2)⟩
def spR_sub (C : Addr) : Sp := fun vs H Q _ => ∃ (x : Addr) (y : V) (t u t' u' : Int), vs = [.ref x, y] ∧ RatAt C H x t u ∧ NumAt C H y t' u' ∧ 1 ≤ u ∧ 1 ≤ u' ∧ Fit t ∧ Fit u ∧ Fit t' ∧ Fit u' ∧
  ∀ z T U H', Low (t * u' - t' * u) (u * u') T U → RatAt C H' z T U → Same H H' → Q (.ref z) H'
theorem sc_rsub : FnScope ["self", "other", "right"] ["self", "other"] (defScope s_rsub) := ⟨rfl, rfl, rfl, by decide +kernel, rfl, by decide +kernel, by decide +kernel⟩
theorem ok_rsub {f C CN fR fN fA : Addr} {fd fdR fdN fdA : FuncData} (F : Fun K "__sub__" "Ratio.__sub__" s_rsub f fd) (T : CTx K C) (Y : ITy K C) (Z : KZx K C) (m_C : mg "Ratio" = some (.ref C)) (M : Mk K C fR)
    (G_R : FnOk P w K mg base (L2.CX P w) 3 fR fdR ["self", "top", "bottom"] (spRatioInit K C CN)) (b_R : Binds K fdR ["self", "top", "bottom"] [])
    (G_N : FnOk P w K mg base CX0 2 fN fdN ["value"] (spIsNum K C)) (m_N : mg "is_number" = some (.ref fN)) (k_N : PySem.W.keepIn K (.ref fN) = true) (b_N : Binds K fdN ["value"] [])
    (G_A : FnOk P w K mg base CX0 5 fA fdA ["number"] (spAsRatio C)) (m_A : mg "as_ratio" = some (.ref fA)) (k_A : PySem.W.keepIn K (.ref fA) = true) (b_A : Binds K fdA ["number"] []) :
    FnOk P w K mg base CX0 6 f fd ["self", "other"] (spR_sub C) := by
  refine F.ok sc_rsub (fun vs H Q E h => ?_) (fun cdv A outer s H vs Q E hr h => ?_)
  · obtain ⟨x, y, t, u, t', u', rfl, _⟩ := h
    rfl
  · obtain ⟨x, y, t, u, t', u', rfl, hx, hy, pu, pu', st, su, st', su', k⟩ := h
    refine ⟨_, (pss_cons (ps_if (pt_not (pt_val (pe_call G_N (hr.mono (by decide)) rfl m_N k_N b_N .nil pass0 (pa_cons (pv 1) pa_nil)))) (pss_one ps_never) pss_nil)
      (pss_cons (ps_set (i := 2) sc_rsub.nd rfl (Or.inl rfl) (pe_call G_A hr rfl m_A k_A b_A .nil pass0 (pa_cons (pv 1) pa_nil)))
      (pss_one (ps_ret (pe_make M G_R (hr.mono (by decide)) rfl m_C b_R .nil passL (pa_cons (pe_op op_sub (pe_op op_mulW (pe_fld (pv 0) rfl) (pe_fld (pv 2) rfl)) (pe_op op_mulW (pe_fld (pv 2) rfl) (pe_fld (pv 0) rfl))) (pa_cons (pe_op op_mulW (pe_fld (pv 0) rfl) (pe_fld (pv 2) rfl)) pa_nil))))))), ?_⟩
    obtain ⟨q, b, hq, kb, hi, hbi⟩ := num_is T Y Z hy
    refine ⟨_, rfl, y, q, b, rfl, hq, kb, hi, _, rfl, ?_⟩
    rw [hbi]
    refine iteF ?_
    refine ⟨_, rfl, y, t', u', rfl, hy, fit_up st', fun r H1 hr1 s1 => ?_⟩
    obtain ⟨dx, hx0⟩ := hx
    have hx1 := s1 _ _ hx0
    obtain ⟨dr, hr1⟩ := hr1
    refine ⟨_, rfl, x, C, dx, _, _, rfl, hx1, T.cl, T.nT, rf_top _ _, _, rfl, r, C, dr, _, _, rfl, hr1, T.cl, T.nB, rf_bottom _ _, _, _, rfl, rfl, mul_ok (up st) (up su'), ?_⟩
    refine ⟨_, rfl, r, C, dr, _, _, rfl, hr1, T.cl, T.nT, rf_top _ _, _, rfl, x, C, dx, _, _, rfl, hx1, T.cl, T.nB, rf_bottom _ _, _, _, rfl, rfl, mul_ok (up st') (up su), _, _, rfl, rfl, ?_⟩
    refine ⟨_, rfl, x, C, dx, _, _, rfl, hx1, T.cl, T.nB, rf_bottom _ _, _, rfl, r, C, dr, _, _, rfl, hr1, T.cl, T.nB, rf_bottom _ _, _, _, rfl, rfl, mul_ok (up su) (up su'), ?_⟩
    exact fun z dz nz ndz ne => mk_go (mul_ne (by omega) (by omega)) (big2 su su') nz ndz ne fun T U H2 L R s2 => ⟨rfl, k z T U H2 L R (s1.trans s2)⟩
def spR_mul (C : Addr) : Sp := fun vs H Q _ => ∃ (x : Addr) (y : V) (t u t' u' : Int), vs = [.ref x, y] ∧ RatAt C H x t u ∧ NumAt C H y t' u' ∧ 1 ≤ u ∧ 1 ≤ u' ∧ Fit t ∧ Fit u ∧ Fit t' ∧ Fit u' ∧
  ∀ z T U H', Low (t * t') (u * u') T U → RatAt C H' z T U → Same H H' → Q (.ref z) H'
theorem sc_rmul : FnScope ["self", "other", "right"] ["self", "other"] (defScope s_rmul) := ⟨rfl, rfl, rfl, by decide +kernel, rfl, by decide +kernel, by decide +kernel⟩
theorem ok_rmul {f C CN fR fN fA : Addr} {fd fdR fdN fdA : FuncData} (F : Fun K "__mul__" "Ratio.__mul__" s_rmul f fd) (T : CTx K C) (Y : ITy K C) (Z : KZx K C) (m_C : mg "Ratio" = some (.ref C)) (M : Mk K C fR)
    (G_R : FnOk P w K mg base (L2.CX P w) 3 fR fdR ["self", "top", "bottom"] (spRatioInit K C CN)) (b_R : Binds K fdR ["self", "top", "bottom"] [])
    (G_N : FnOk P w K mg base CX0 2 fN fdN ["value"] (spIsNum K C)) (m_N : mg "is_number" = some (.ref fN)) (k_N : PySem.W.keepIn K (.ref fN) = true) (b_N : Binds K fdN ["value"] [])
    (G_A : FnOk P w K mg base CX0 5 fA fdA ["number"] (spAsRatio C)) (m_A : mg "as_ratio" = some (.ref fA)) (k_A : PySem.W.keepIn K (.ref fA) = true) (b_A : Binds K fdA ["number"] []) :
    FnOk P w K mg base CX0 6 f fd ["self", "other"] (spR_mul C) := by
  refine F.ok sc_rmul (fun vs H Q E h => ?_) (fun cdv A outer s H vs Q E hr h => ?_)
  · obtain ⟨x, y, t, u, t', u', rfl, _⟩ := h
    rfl
  · obtain ⟨x, y, t, u, t', u', rfl, hx, hy, pu, pu', st, su, st', su', k⟩ := h
    refine ⟨_, (pss_cons (ps_if (pt_not (pt_val (pe_call G_N (hr.mono (by decide)) rfl m_N k_N b_N .nil pass0 (pa_cons (pv 1) pa_nil)))) (pss_one ps_never) pss_nil)
      (pss_cons (ps_set (i := 2) sc_rmul.nd rfl (Or.inl rfl) (pe_call G_A hr rfl m_A k_A b_A .nil pass0 (pa_cons (pv 1) pa_nil)))
      (pss_one (ps_ret (pe_make M G_R (hr.mono (by decide)) rfl m_C b_R .nil passL (pa_cons (pe_op op_mulW (pe_fld (pv 0) rfl) (pe_fld (pv 2) rfl)) (pa_cons (pe_op op_mulW (pe_fld (pv 0) rfl) (pe_fld (pv 2) rfl)) pa_nil))))))), ?_⟩
    obtain ⟨q, b, hq, kb, hi, hbi⟩ := num_is T Y Z hy
    refine ⟨_, rfl, y, q, b, rfl, hq, kb, hi, _, rfl, ?_⟩
    rw [hbi]
    refine iteF ?_
    refine ⟨_, rfl, y, t', u', rfl, hy, fit_up st', fun r H1 hr1 s1 => ?_⟩
    obtain ⟨dx, hx0⟩ := hx
    have hx1 := s1 _ _ hx0
    obtain ⟨dr, hr1⟩ := hr1
    refine ⟨_, rfl, x, C, dx, _, _, rfl, hx1, T.cl, T.nT, rf_top _ _, _, rfl, r, C, dr, _, _, rfl, hr1, T.cl, T.nT, rf_top _ _, _, _, rfl, rfl, mul_ok (up st) (up st'), ?_⟩
    refine ⟨_, rfl, x, C, dx, _, _, rfl, hx1, T.cl, T.nB, rf_bottom _ _, _, rfl, r, C, dr, _, _, rfl, hr1, T.cl, T.nB, rf_bottom _ _, _, _, rfl, rfl, mul_ok (up su) (up su'), ?_⟩
    exact fun z dz nz ndz ne => mk_go (mul_ne (by omega) (by omega)) (big2 su su') nz ndz ne fun T U H2 L R s2 => ⟨rfl, k z T U H2 L R (s1.trans s2)⟩
end
end Sq

namespace Sq
open PySem L2 PyProof.Rows
section
variable {P : Program} {w : World} {K : PySem.W.Frag} {mg : Str → Option Value} {base : Heap}
def spR_radd (C : Addr) : Sp := fun vs H Q _ => ∃ (x : Addr) (i t u : Int), vs = [.ref x, .int i] ∧ RatAt C H x t u ∧ 1 ≤ u ∧ Fit t ∧ Fit u ∧ Fit i ∧
  ∀ z T U H', Low (t * 1 + i * u) (u * 1) T U → RatAt C H' z T U → Same H H' → Q (.ref z) H'
theorem sc_rradd : FnScope ["self", "other"] ["self", "other"] (defScope s_rradd) := ⟨rfl, rfl, rfl, by decide +kernel, rfl, by decide +kernel, by decide +kernel⟩
theorem ok_rradd {f C fO fN : Addr} {fd fdO fdN : FuncData} (F : Fun K "__radd__" "Ratio.__radd__" s_rradd f fd) (T : CTx K C) (Y : ITy K C) (Z : KZx K C) (hc : PySem.W.selfFirst K C = true)
    (G_N : FnOk P w K mg base CX0 2 fN fdN ["value"] (spIsNum K C)) (m_N : mg "is_number" = some (.ref fN)) (k_N : PySem.W.keepIn K (.ref fN) = true) (b_N : Binds K fdN ["value"] [])
    (O : OwnOp K C fO (PySem.dunder Operator.Add.info.2)) (I : IntOp K C Operator.Add.info.2) (G_O : FnOk P w K mg base CX0 6 fO fdO ["self", "other"] (spR_add C)) (b_O : Binds K fdO ["self", "other"] []) :
    FnOk P w K mg base CX0 7 f fd ["self", "other"] (spR_radd C) := by
  refine F.ok sc_rradd (fun vs H Q E h => ?_) (fun cdv A outer s H vs Q E hr h => ?_)
  · obtain ⟨x, i, t, u, rfl, _⟩ := h
    rfl
  · obtain ⟨x, i, t, u, rfl, hx, pu, st, su, si, k⟩ := h
    refine ⟨_, (pss_cons (ps_if (pt_not (pt_val (pe_call G_N (hr.mono (by decide)) rfl m_N k_N b_N .nil pass0 (pa_cons (pv 1) pa_nil)))) (pss_one ps_never) pss_nil)
      (pss_one (ps_ret (pe_op (op_ownI (op := .Add) hc O I G_O hr b_O pass0) (pv 0) (pv 1))))), ?_⟩
    obtain ⟨q, b, hq, kb, hi, hbi⟩ := num_is (H := H) (y := .int i) (t := i) (u := 1) T Y Z (.inr ⟨rfl, rfl⟩)
    refine ⟨_, rfl, .int i, q, b, rfl, hq, kb, hi, _, rfl, ?_⟩
    rw [hbi]
    refine iteF ?_
    obtain ⟨dx, hx0⟩ := id hx
    exact ⟨_, rfl, _, rfl, x, i, dx, _, rfl, rfl, hx0, x, .int i, t, u, i, 1, rfl, hx, .inr ⟨rfl, rfl⟩, pu, by decide, st, su, si, fit_one, k⟩
def spR_rmul (C : Addr) : Sp := fun vs H Q _ => ∃ (x : Addr) (i t u : Int), vs = [.ref x, .int i] ∧ RatAt C H x t u ∧ 1 ≤ u ∧ Fit t ∧ Fit u ∧ Fit i ∧
  ∀ z T U H', Low (t * i) (u * 1) T U → RatAt C H' z T U → Same H H' → Q (.ref z) H'
theorem sc_rrmul : FnScope ["self", "other"] ["self", "other"] (defScope s_rrmul) := ⟨rfl, rfl, rfl, by decide +kernel, rfl, by decide +kernel, by decide +kernel⟩
theorem ok_rrmul {f C fO fN : Addr} {fd fdO fdN : FuncData} (F : Fun K "__rmul__" "Ratio.__rmul__" s_rrmul f fd) (T : CTx K C) (Y : ITy K C) (Z : KZx K C) (hc : PySem.W.selfFirst K C = true)
    (G_N : FnOk P w K mg base CX0 2 fN fdN ["value"] (spIsNum K C)) (m_N : mg "is_number" = some (.ref fN)) (k_N : PySem.W.keepIn K (.ref fN) = true) (b_N : Binds K fdN ["value"] [])
    (O : OwnOp K C fO (PySem.dunder Operator.Mult.info.2)) (I : IntOp K C Operator.Mult.info.2) (G_O : FnOk P w K mg base CX0 6 fO fdO ["self", "other"] (spR_mul C)) (b_O : Binds K fdO ["self", "other"] []) :
    FnOk P w K mg base CX0 7 f fd ["self", "other"] (spR_rmul C) := by
  refine F.ok sc_rrmul (fun vs H Q E h => ?_) (fun cdv A outer s H vs Q E hr h => ?_)
  · obtain ⟨x, i, t, u, rfl, _⟩ := h
    rfl
  · obtain ⟨x, i, t, u, rfl, hx, pu, st, su, si, k⟩ := h
    refine ⟨_, (pss_cons (ps_if (pt_not (pt_val (pe_call G_N (hr.mono (by decide)) rfl m_N k_N b_N .nil pass0 (pa_cons (pv 1) pa_nil)))) (pss_one ps_never) pss_nil)
      (pss_one (ps_ret (pe_op (op_ownI (op := .Mult) hc O I G_O hr b_O pass0) (pv 0) (pv 1))))), ?_⟩
    obtain ⟨q, b, hq, kb, hi, hbi⟩ := num_is (H := H) (y := .int i) (t := i) (u := 1) T Y Z (.inr ⟨rfl, rfl⟩)
    refine ⟨_, rfl, .int i, q, b, rfl, hq, kb, hi, _, rfl, ?_⟩
    rw [hbi]
    refine iteF ?_
    obtain ⟨dx, hx0⟩ := id hx
    exact ⟨_, rfl, _, rfl, x, i, dx, _, rfl, rfl, hx0, x, .int i, t, u, i, 1, rfl, hx, .inr ⟨rfl, rfl⟩, pu, by decide, st, su, si, fit_one, k⟩
def spR_rsub (C : Addr) : Sp := fun vs H Q _ => ∃ (x : Addr) (i t u : Int), vs = [.ref x, .int i] ∧ RatAt C H x t u ∧ 1 ≤ u ∧ Fit t ∧ Fit u ∧ Fit i ∧
  ∀ z T U H', Low (i * u - t * 1) (1 * u) T U → RatAt C H' z T U → Same H H' → Q (.ref z) H'
theorem sc_rrsub : FnScope ["self", "other"] ["self", "other"] (defScope s_rrsub) := ⟨rfl, rfl, rfl, by decide +kernel, rfl, by decide +kernel, by decide +kernel⟩
theorem ok_rrsub {f C fO fN fA : Addr} {fd fdO fdN fdA : FuncData} (F : Fun K "__rsub__" "Ratio.__rsub__" s_rrsub f fd) (T : CTx K C) (Y : ITy K C) (Z : KZx K C) (hc : PySem.W.selfFirst K C = true)
    (G_N : FnOk P w K mg base CX0 2 fN fdN ["value"] (spIsNum K C)) (m_N : mg "is_number" = some (.ref fN)) (k_N : PySem.W.keepIn K (.ref fN) = true) (b_N : Binds K fdN ["value"] [])
    (G_A : FnOk P w K mg base CX0 5 fA fdA ["number"] (spAsRatio C)) (m_A : mg "as_ratio" = some (.ref fA)) (k_A : PySem.W.keepIn K (.ref fA) = true) (b_A : Binds K fdA ["number"] [])
    (O : OwnOp K C fO (PySem.dunder Operator.Sub.info.2)) (G_O : FnOk P w K mg base CX0 6 fO fdO ["self", "other"] (spR_sub C)) (b_O : Binds K fdO ["self", "other"] []) :
    FnOk P w K mg base CX0 7 f fd ["self", "other"] (spR_rsub C) := by
  refine F.ok sc_rrsub (fun vs H Q E h => ?_) (fun cdv A outer s H vs Q E hr h => ?_)
  · obtain ⟨x, i, t, u, rfl, _⟩ := h
    rfl
  · obtain ⟨x, i, t, u, rfl, hx, pu, st, su, si, k⟩ := h
    refine ⟨_, (pss_cons (ps_if (pt_not (pt_val (pe_call G_N (hr.mono (by decide)) rfl m_N k_N b_N .nil pass0 (pa_cons (pv 1) pa_nil)))) (pss_one ps_never) pss_nil)
      (pss_one (ps_ret (pe_op (op_own2 (op := .Sub) hc O G_O hr b_O pass0) (pe_call G_A (hr.mono (by decide)) rfl m_A k_A b_A .nil pass0 (pa_cons (pv 1) pa_nil)) (pv 0))))), ?_⟩
    obtain ⟨q, b, hq, kb, hi, hbi⟩ := num_is (H := H) (y := .int i) (t := i) (u := 1) T Y Z (.inr ⟨rfl, rfl⟩)
    refine ⟨_, rfl, .int i, q, b, rfl, hq, kb, hi, _, rfl, ?_⟩
    rw [hbi]
    refine iteF ?_
    refine ⟨_, rfl, .int i, i, 1, rfl, .inr ⟨rfl, rfl⟩, fit_up si, fun r H1 hr1 s1 => ?_⟩
    obtain ⟨dx, hx0⟩ := id hx
    obtain ⟨dr, hr0⟩ := id hr1
    exact ⟨_, rfl, r, x, dr, dx, _, _, rfl, rfl, hr0, s1 _ _ hx0, r, .ref x, i, 1, t, u, rfl, hr1, .inl ⟨x, rfl, hx.same s1⟩, by decide, pu, si, fit_one, st, su, fun z T U H' L R s2 => k z T U H' L R (s1.trans s2)⟩
def spR_neg (C : Addr) : Sp := fun vs H Q _ => ∃ (x : Addr) (t u : Int), vs = [.ref x] ∧ RatAt C H x t u ∧ 1 ≤ u ∧ Fit u ∧ ∀ z T U H', Low (-t) u T U → RatAt C H' z T U → Same H H' → Q (.ref z) H'
theorem sc_rneg : FnScope ["self"] ["self"] (defScope s_rneg) := ⟨rfl, rfl, rfl, by decide +kernel, rfl, by decide +kernel, by decide +kernel⟩
theorem ok_rneg {f C CN fR : Addr} {fd fdR : FuncData} (F : Fun K "__neg__" "Ratio.__neg__" s_rneg f fd) (T : CTx K C) (Y : ITy K C) (Z : KZx K C) (m_C : mg "Ratio" = some (.ref C)) (M : Mk K C fR)
    (G_R : FnOk P w K mg base (L2.CX P w) 3 fR fdR ["self", "top", "bottom"] (spRatioInit K C CN)) (b_R : Binds K fdR ["self", "top", "bottom"] []) : FnOk P w K mg base CX0 5 f fd ["self"] (spR_neg C) := by
  refine F.ok sc_rneg (fun vs H Q E h => ?_) (fun cdv A outer s H vs Q E hr h => ?_)
  · obtain ⟨x, t, u, rfl, _⟩ := h
    rfl
  · obtain ⟨x, t, u, rfl, hx, pu, su, k⟩ := h
    refine ⟨_, pss_one (ps_ret (pe_make M G_R (hr.mono (by decide)) rfl m_C b_R .nil passL (pa_cons (pe_un un_neg (pe_fld (pv 0) rfl)) (pa_cons (pe_fld (pv 0) rfl) pa_nil)))), ?_⟩
    obtain ⟨dx, hx0⟩ := id hx
    refine ⟨_, rfl, x, C, dx, _, _, rfl, hx0, T.cl, T.nT, rf_top _ _, _, rfl, _, rfl, x, C, dx, _, _, rfl, hx0, T.cl, T.nB, rf_bottom _ _, ?_⟩
    exact fun z dz nz ndz ne => mk_go (by omega) (fit_up su) nz ndz ne fun T U H2 L R s2 => ⟨rfl, k z T U H2 L R s2⟩
def spR_over (C CN : Addr) : Sp := fun vs H Q E => ∃ (x : Addr) (y : V) (t u t' u' : Int), vs = [.ref x, y] ∧ RatAt C H x t u ∧ NumAt C H y t' u' ∧ 1 ≤ u ∧ 1 ≤ u' ∧ Fit t ∧ Fit u ∧ Fit t' ∧ Fit u' ∧
  (t' = 0 → ∀ H1 d, Same H H1 → H1 d = none → E (.ref CN) (some d) (upd H1 d (wordAt "zero"))) ∧
  (t' ≠ 0 → ∀ z T U H', Low (t * u') (u * t') T U → RatAt C H' z T U → Same H H' → Q (.ref z) H')
theorem sc_rover : FnScope ["self", "other", "right"] ["self", "other"] (defScope s_rover) := ⟨rfl, rfl, rfl, by decide +kernel, rfl, by decide +kernel, by decide +kernel⟩
theorem ok_rover {f C CN fR fA : Addr} {fd fdR fdA : FuncData} (F : Fun K "over" "Ratio.over" s_rover f fd) (T : CTx K C) (Y : ITy K C) (Z : KZx K C) (m_C : mg "Ratio" = some (.ref C)) (M : Mk K C fR)
    (G_R : FnOk P w K mg base (L2.CX P w) 3 fR fdR ["self", "top", "bottom"] (spRatioInit K C CN)) (b_R : Binds K fdR ["self", "top", "bottom"] [])
    (G_A : FnOk P w K mg base CX0 5 fA fdA ["number"] (spAsRatio C)) (m_A : mg "as_ratio" = some (.ref fA)) (k_A : PySem.W.keepIn K (.ref fA) = true) (b_A : Binds K fdA ["number"] []) : FnOk P w K mg base (L2.CX P w) 6 f fd ["self", "other"] (spR_over C CN) := by
  refine F.okX sc_rover (fun vs H Q E h => ?_) (fun cdv A outer s H vs Q E hr h => ?_)
  · obtain ⟨x, y, t, u, t', u', rfl, _⟩ := h
    rfl
  · obtain ⟨x, y, t, u, t', u', rfl, hx, hy, pu, pu', st, su, st', su', kE, k⟩ := h
    refine ⟨_, (pss_cons (ps_set (i := 2) sc_rover.nd rfl (Or.inl rfl) (pe_call G_A hr rfl m_A k_A b_A .nil pass0 (pa_cons (pv 1) pa_nil)))
      (pss_one (ps_ret (pe_make (E := E) M G_R (hr.mono (by decide)) rfl m_C b_R .nil (passes_call (takes_of rfl rfl rfl rfl) fun _ _ _ _ h => h) (pa_cons (pe_op op_mulW (pe_fld (pv 0) rfl) (pe_fld (pv 2) rfl)) (pa_cons (pe_op op_mulW (pe_fld (pv 0) rfl) (pe_fld (pv 2) rfl)) pa_nil)))))), ?_⟩
    refine ⟨_, rfl, y, t', u', rfl, hy, fit_up st', fun r H1 hr1 s1 => ?_⟩
    obtain ⟨dx, hx0⟩ := hx
    have hx1 := s1 _ _ hx0
    obtain ⟨dr, hr1⟩ := hr1
    refine ⟨_, rfl, x, C, dx, _, _, rfl, hx1, T.cl, T.nT, rf_top _ _, _, rfl, r, C, dr, _, _, rfl, hr1, T.cl, T.nB, rf_bottom _ _, _, _, rfl, rfl, mul_ok (up st) (up su'), ?_⟩
    refine ⟨_, rfl, x, C, dx, _, _, rfl, hx1, T.cl, T.nB, rf_bottom _ _, _, rfl, r, C, dr, _, _, rfl, hr1, T.cl, T.nT, rf_top _ _, _, _, rfl, rfl, mul_ok (up su) (up st'), ?_⟩
    intro z dz nz ndz ne
    by_cases h0 : t' = 0
    · have e0 : u * t' = 0 := by rw [h0, Int.mul_zero]
      refine ⟨z, dz, _, _, rfl, upd_same, .int _, .int _, fun b e => (by cases e; exact big2 su st'), fun w hw d hd => ?_, fun a b ea eb hb => (by cases eb; exact absurd e0 hb)⟩
      have hw1 : dueW (.int (t * u')) (.int (u * t')) = some w := hw
      rw [e0] at hw1
      have ew : w = "zero" := by
        have : dueW (.int (t * u')) (.int 0) = some ("zero" : Str) := rfl
        rw [this] at hw1
        exact (Option.some.inj hw1).symm
      subst ew
      exact kE h0 _ d (s1.trans (same_pair nz ndz ne)) hd
    · exact mk_go (mul_ne (by omega) h0) (big2 su st') nz ndz ne fun T U H2 L R s2 => ⟨rfl, k h0 z T U H2 L R (s1.trans s2)⟩
/-- self == other, other a number -/
def spR_eq (K : PySem.W.Frag) (C : Addr) : Sp := fun vs H Q _ => ∃ (x : Addr) (y : V) (t u : Int), vs = [.ref x, y] ∧ RatAt C H x t u ∧
  ((∃ r t' u', y = .ref r ∧ RatAt C H r t' u' ∧ Q (.bl (decide (t = t' ∧ u = u'))) H) ∨ (∃ i, y = .int i ∧ Q (.bl (decide (u = 1 ∧ t = i))) H) ∨
    (∃ q, TyX K H y q ∧ PySem.W.kitOne K q (.ref C) = some false ∧ IsTy K H y ∧ isI y = false ∧ Q (.bl false) H))
theorem sc_req : FnScope ["self", "other"] ["self", "other"] (defScope s_req) := ⟨rfl, rfl, rfl, by decide +kernel, rfl, by decide +kernel, by decide +kernel⟩
theorem dec_int2 (a b : Int) : decide (V.int a = V.int b) = decide (a = b) := by
  by_cases h : a = b
  · rw [h, decide_eq_true rfl, decide_eq_true rfl]
  · rw [decide_eq_false h, decide_eq_false fun e => h (V.int.inj e)]
theorem ok_req {f C fI : Addr} {fd fdI : FuncData} (F : Fun K "__eq__" "Ratio.__eq__" s_req f fd) (T : CTx K C) (Y : ITy K C) (Z : KZx K C) (B : ITx mg) (m_C : mg "Ratio" = some (.ref C))
    (G_I : FnOk P w K mg base CX0 1 fI fdI ["value"] (spIsInt K)) (m_I : mg "is_an_integer" = some (.ref fI)) (k_I : PySem.W.keepIn K (.ref fI) = true) (b_I : Binds K fdI ["value"] []) :
    FnOk P w K mg base CX0 2 f fd ["self", "other"] (spR_eq K C) := by
  refine F.ok sc_req (fun vs H Q E h => ?_) (fun cdv A outer s H vs Q E hr h => ?_)
  · obtain ⟨x, y, t, u, rfl, _⟩ := h
    rfl
  · obtain ⟨x, y, t, u, rfl, hx, h⟩ := h
    refine ⟨_, (pss_cons (ps_if (pt_val (pe_callB call_isi (by rfl) B.b_isinstance (by decide +kernel) (pa_cons (pv 1) (pa_cons (pe_glob (v := .ref C) rfl m_C rfl) pa_nil))))
        (pss_one (ps_ret (pe_and (pe_cmpR op_eq (pe_fld (pv 0) rfl) (pe_fld (pv 1) rfl) (nomark _)) (pe_one (pe_cmpR op_eq (pe_fld (pv 0) rfl) (pe_fld (pv 1) rfl) (nomark _)))))) pss_nil)
      (pss_one (ps_ret (pe_and (pe_call G_I hr rfl m_I k_I b_I .nil pass0 (pa_cons (pv 1) pa_nil)) (pe_and (pe_cmpR op_eq (pe_fld (pv 0) rfl) pe_int (nomark _)) (pe_one (pe_cmpR op_eq (pe_fld (pv 0) rfl) (pv 1) (nomark _)))))))), ?_⟩
    obtain ⟨dx, hx0⟩ := id hx
    rcases h with ⟨r, t', u', rfl, hr1, k⟩ | ⟨i, rfl, k⟩ | ⟨q, ty, kb, it, ni, k⟩
    · obtain ⟨dr, hr0⟩ := id hr1
      refine ⟨_, rfl, _, _, _, _, true, rfl, .own C, hr1.ty T Y, kit_self, _, rfl, iteT ?_⟩
      refine ⟨_, rfl, x, C, dx, _, _, rfl, hx0, T.cl, T.nT, rf_top _ _, _, rfl, r, C, dr, _, _, rfl, hr0, T.cl, T.nT, rf_top _ _, rfl, _, rfl, ?_⟩
      rw [dec_int2]
      by_cases e : t = t'
      · rw [decide_eq_true e]
        refine iteT ⟨_, rfl, x, C, dx, _, _, rfl, hx0, T.cl, T.nB, rf_bottom _ _, _, rfl, r, C, dr, _, _, rfl, hr0, T.cl, T.nB, rf_bottom _ _, rfl, ?_⟩
        show Q (.bl (decide (V.int u = V.int u'))) H
        rw [dec_int2]
        simp only [e, true_and] at k
        exact k
      · rw [decide_eq_false e]
        refine iteF ?_
        simp only [e, false_and, decide_false] at k
        exact k
    · refine ⟨_, rfl, _, _, _, _, false, rfl, .own C, .base (.int _), Z.kint, _, rfl, iteF ?_⟩
      refine ⟨_, rfl, _, rfl, .int i, _, rfl, iteT ?_⟩
      refine ⟨_, rfl, x, C, dx, _, _, rfl, hx0, T.cl, T.nB, rf_bottom _ _, rfl, _, rfl, ?_⟩
      rw [dec_int2]
      by_cases e : u = 1
      · rw [decide_eq_true e]
        refine iteT ⟨_, rfl, x, C, dx, _, _, rfl, hx0, T.cl, T.nT, rf_top _ _, _, rfl, rfl, ?_⟩
        show Q (.bl (decide (V.int t = V.int i))) H
        rw [dec_int2]
        simp only [e, true_and] at k
        exact k
      · rw [decide_eq_false e]
        refine iteF ?_
        simp only [e, false_and, decide_false] at k
        exact k
    · refine ⟨_, rfl, _, _, _, _, false, rfl, .own C, ty, kb, _, rfl, iteF ?_⟩
      refine ⟨_, rfl, y, rfl, it, _, rfl, ?_⟩
      rw [ni]
      exact iteF k
end
end Sq

namespace Sq
open PySem L2 PyProof.Rows
abbrev s_dbot : Stmt := top 21
abbrev s_is : Stmt := top 19
abbrev s_zero : Stmt := top 20
abbrev s_law : Stmt := top 22
/-- t / u is a / b -/
structure Vl (a b t u : Int) : Prop where
  pos : 1 ≤ u
  val : t * b = a * u
theorem Low.vl {a b t u : Int} (L : Low a b t u) : Vl a b t u := ⟨L.pos, L.val⟩
theorem vl_add {a b c d t u t' u' T U : Int} (L1 : Vl a b t u) (L2 : Vl c d t' u') (L : Low (t * u' + t' * u) (u * u') T U) : Vl (a * d + c * b) (b * d) T U := by
  refine ⟨L.pos, ?_⟩
  have h1 := L1.val
  have h2 := L2.val
  have h := L.val
  have n : u * u' ≠ 0 := Int.mul_ne_zero (by have := L1.pos; omega) (by have := L2.pos; omega)
  refine cancel_r n ?_
  grind
theorem vl_sub {a b c d t u t' u' T U : Int} (L1 : Vl a b t u) (L2 : Vl c d t' u') (L : Low (t * u' - t' * u) (u * u') T U) : Vl (a * d - c * b) (b * d) T U := by
  refine ⟨L.pos, ?_⟩
  have h1 := L1.val
  have h2 := L2.val
  have h := L.val
  have n : u * u' ≠ 0 := Int.mul_ne_zero (by have := L1.pos; omega) (by have := L2.pos; omega)
  refine cancel_r n ?_
  grind
theorem vl_mul {a b c d t u t' u' T U : Int} (L1 : Vl a b t u) (L2 : Vl c d t' u') (L : Low (t * t') (u * u') T U) : Vl (a * c) (b * d) T U := by
  refine ⟨L.pos, ?_⟩
  have h1 := L1.val
  have h2 := L2.val
  have h := L.val
  have n : u * u' ≠ 0 := Int.mul_ne_zero (by have := L1.pos; omega) (by have := L2.pos; omega)
  refine cancel_r n ?_
  grind
theorem vl_int {i : Int} : Vl i 1 i 1 := ⟨by decide, rfl⟩
theorem bigF {n : Nat} {x : Int} (h : B n x) (hn : n ≤ 1500) : Fit x := B_le h hn
theorem big4 {n : Nat} {x : Int} (h : B n x) (hn : n ≤ 4000) : x.natAbs < 2 ^ 4000 := B_le h hn
def spIs (C : Addr) : Sp := fun vs H Q _ => ∃ (z : Addr) (p q T U : Int), vs = [.ref z, .int p, .int q] ∧ RatAt C H z T U ∧ 1 ≤ U ∧ Int.gcd T U = 1 ∧ T * q = p * U ∧ T.natAbs < 2 ^ 4000 ∧ U.natAbs < 2 ^ 4000 ∧ p.natAbs < 2 ^ 4000 ∧ q.natAbs < 2 ^ 4000 ∧ Q (.bl true) H
def spDbot : Sp := fun vs H Q _ => ∃ p, vs = [.ref p] ∧ StAt H p ∧ ∀ v H', v ≠ 0 → v.natAbs < 2 ^ 120 → StAt H' p → But p H H' → Q (.int v) H'
def spZero (C : Addr) : Sp := fun vs H Q _ => ∃ (x : Addr) (y : V) (t u u' : Int), vs = [.ref x, y] ∧ RatAt C H x t u ∧ NumAt C H y 0 u' ∧ 1 ≤ u ∧ 1 ≤ u' ∧ Fit t ∧ Fit u ∧ Fit u' ∧ ∀ H', Same H H' → Q (.str "zero") H'
section
variable {P : Program} {w : World} {K : PySem.W.Frag} {mg : Str → Option Value} {base : Heap}
theorem low_zero {d T U : Int} (hd : d ≠ 0) (L : Low 0 d T U) : T = 0 := by
  have v := L.val
  rw [Int.zero_mul] at v
  exact (Int.mul_eq_zero.mp v).resolve_right hd
theorem val1 {a b w T U : Int} (h : Vl a (b * 1) T U) : T * b = a * U := by
  have e := h.val
  rw [Int.mul_one] at e
  exact e
theorem sc_dbot : FnScope ["_law_state_here", "_law_found"] ["_law_state_here"] (defScope s_dbot) := ⟨rfl, rfl, rfl, by decide +kernel, rfl, by decide +kernel, by decide +kernel⟩
theorem ok_dbot {f fgreat : Addr} {fd fdgreat : FuncData} (F : Fun K "_law_draw_bottom" "_law_draw_bottom" s_dbot f fd) (G_great : FnOk P w K mg base CX0 2 fgreat fdgreat ["_law_state_here"] spGreat) (b_great : Binds K fdgreat ["_law_state_here"] []) (m_great : mg "_law_great" = some (.ref fgreat)) (k_great : PySem.W.keepIn K (.ref fgreat) = true) : FnOk P w K mg base CX0 3 f fd ["_law_state_here"] spDbot := by
  refine F.ok sc_dbot (fun vs H Q E h => ?_) (fun cdv A outer s H vs Q E hr h => ?_)
  · obtain ⟨p, rfl, _⟩ := h
    rfl
  · obtain ⟨p, rfl, St, k⟩ := h
    refine ⟨_, (pss_cons (ps_set (i := 1) sc_dbot.nd rfl (Or.inl rfl) (pe_call G_great (hr.mono (by decide)) rfl m_great k_great b_great .nil pass0 (pa_cons (pv 0) pa_nil)))
      (pss_cons (ps_if (pt_cmpR op_eq (pv 1) pe_int (nomark _)) (pss_one (ps_ret pe_int)) pss_nil) (pss_one (ps_ret (pv 1))))), ?_⟩
    refine ⟨_, rfl, p, rfl, St, fun v H1 hv S1 B1 => ⟨_, rfl, rfl, _, rfl, ?_⟩⟩
    refine ite2 (fun c => ?_) (fun c => ?_)
    · exact k 1 H1 (by decide) (Nat.lt_of_lt_of_le (show (1 : Int).natAbs < 2 ^ 1 from by decide) (Nat.pow_le_pow_right (by decide) (by decide))) S1 B1
    · exact ⟨_, rfl, k v H1 (fun e => c (by rw [e]; rfl)) hv S1 B1⟩
theorem sc_is : FnScope ["_law_told", "_law_top", "_law_bottom"] ["_law_told", "_law_top", "_law_bottom"] (defScope s_is) := ⟨rfl, rfl, rfl, by decide +kernel, rfl, by decide +kernel, by decide +kernel⟩
theorem ok_is {f C fG fI : Addr} {fd fdG fdI : FuncData} (F : Fun K "_law_is" "_law_is" s_is f fd) (T : CTx K C) (Y : ITy K C) (BI : ITx mg) (m_C : mg "Ratio" = some (.ref C)) (G_I : FnOk P w K mg base CX0 1 fI fdI ["_law_told"] (spIsInt K)) (b_I : Binds K fdI ["_law_told"] []) (m_I : mg "_law_is_integer" = some (.ref fI)) (k_I : PySem.W.keepIn K (.ref fI) = true) (G_G : FnOk P w K mg base CX0 1 fG fdG ["_law_one", "_law_other"] spGcd) (b_G : Binds K fdG ["_law_one", "_law_other"] []) (m_G : mg "_law_gcd" = some (.ref fG)) (k_G : PySem.W.keepIn K (.ref fG) = true) : FnOk P w K mg base CX0 2 f fd ["_law_told", "_law_top", "_law_bottom"] (spIs C) := by
  refine F.ok sc_is (fun vs H Q E h => ?_) (fun cdv A outer s H vs Q E hr h => ?_)
  · obtain ⟨a, b, x, t, u, rfl, _⟩ := h
    rfl
  · obtain ⟨x, p, q, t, u, rfl, R, pu, cop, val, st, su, sp, sq, k⟩ := h
    refine ⟨_, (pss_cons (ps_if (PW.pt (pw_or (pt_not (pt_val (pe_callB call_isi (by rfl) BI.b_isinstance (by decide +kernel) (pa_cons (pv 0) (pa_cons (pe_glob (v := .ref C) rfl m_C rfl) pa_nil)))))
        (pw_or (pt_not (pt_val (pe_call G_I hr rfl m_I k_I b_I .nil pass0 (pa_cons (pe_fld (pv 0) rfl) pa_nil)))) (pw_or1 (pt_not (pt_val (pe_call G_I hr rfl m_I k_I b_I .nil pass0 (pa_cons (pe_fld (pv 0) rfl) pa_nil)))))))) (pss_one (ps_ret pe_bl)) pss_nil)
      (pss_cons (ps_if (PW.pt (pw_or (pt_cmpR op_lt (pe_fld (pv 0) rfl) pe_int (nomark _)) (pw_or1 (pt_cmpR op_ne (pe_call G_G hr rfl m_G k_G b_G .nil pass0 (pa_cons (pe_fld (pv 0) rfl) (pa_cons (pe_fld (pv 0) rfl) pa_nil))) pe_int (nomark _))))) (pss_one (ps_ret pe_bl)) pss_nil)
      (pss_one (ps_ret (pe_cmpR op_eq (pe_op op_mulW (pe_fld (pv 0) rfl) (pv 2)) (pe_op op_mulW (pv 1) (pe_fld (pv 0) rfl)) (nomark _)))))), ?_⟩
    obtain ⟨dx, hx⟩ := id R
    refine ⟨_, rfl, _, _, _, _, true, rfl, .own C, R.ty T Y, kit_self, true, rfl, ?_⟩
    refine iteF ⟨_, rfl, x, C, dx, _, _, rfl, hx, T.cl, T.nT, rf_top _ _, _, rfl, IsTy.int _, _, rfl, ?_⟩
    refine iteF ⟨_, rfl, x, C, dx, _, _, rfl, hx, T.cl, T.nB, rf_bottom _ _, _, rfl, IsTy.int _, _, rfl, ?_⟩
    refine iteF ⟨_, rfl, x, C, dx, _, _, rfl, hx, T.cl, T.nB, rf_bottom _ _, _, _, rfl, rfl, _, rfl, ?_⟩
    rw [decide_eq_false (show ¬ u < 1 from by omega)]
    refine iteF ⟨_, rfl, x, C, dx, _, _, rfl, hx, T.cl, T.nT, rf_top _ _, _, rfl, x, C, dx, _, _, rfl, hx, T.cl, T.nB, rf_bottom _ _, t, u, rfl, rfl, _, rfl, ?_⟩
    rw [cop]
    refine iteF ?_
    refine ⟨_, rfl, x, C, dx, _, _, rfl, hx, T.cl, T.nT, rf_top _ _, _, rfl, _, _, rfl, rfl, mul_ok st sq, ?_⟩
    refine ⟨_, rfl, _, rfl, x, C, dx, _, _, rfl, hx, T.cl, T.nB, rf_bottom _ _, _, _, rfl, rfl, mul_ok sp su, rfl, ?_⟩
    show Q (.bl (decide (V.int (t * q) = V.int (p * u)))) H
    rw [val, decide_eq_true rfl]
    exact k
theorem sc_zero : FnScope ["_law_one", "_law_other", "e"] ["_law_one", "_law_other"] (defScope s_zero) := ⟨rfl, rfl, rfl, by decide +kernel, rfl, by decide +kernel, by decide +kernel⟩
theorem ok_zero {f C CN fN fO : Addr} {fd fdO : FuncData} (F : Fun K "_law_zero" "_law_zero" s_zero f fd) (T : CTx K C) (N : NTx K mg CN fN) (m_N : mg "NoRatio" = some (.ref CN)) (te : PySem.W.exmOne K (.ref CN) (.ref CN) = some true) (xf : XfC K CN)
    (Me : Meth K C "over" fO) (G_O : FnOk P w K mg base (L2.CX P w) 6 fO fdO ["self", "other"] (spR_over C CN)) (b_O : Binds K fdO ["self", "other"] []) : FnOk P w K mg base (L2.CX P w) 7 f fd ["_law_one", "_law_other"] (spZero C) := by
  refine F.okX sc_zero (fun vs H Q E h => ?_) (fun cdv A outer s H vs Q E hr h => ?_)
  · obtain ⟨x, y, t, u, u', rfl, _⟩ := h
    rfl
  · obtain ⟨x, y, t, u, u', rfl, hx, hy, pu, pu', st, su, su', k⟩ := h
    refine ⟨_, (pss_cons (ps_try_as (i := 2) (tb := fun W => tDrop (tMtS C "over" (spR_over C CN) (WE W) (tVar 0) (tCons (tVar 1) tNil))) (Wout := fun _ _ _ _ => False) rfl rfl sc_zero.nd rfl rfl ⟨rfl, by decide, Or.inl m_N⟩ takes0
        (fun W pn xe tk _ => pss_one (ps_expr (pe_mtS (pv 0) T.cl Me G_O hr b_O (fun σ => passAt tk σ) (pa_cons (pv 1) pa_nil))))
        (fun a oe cls d pn hz hf => pss_one (ps_ret (pe_xf xf N.nw hz hf (pv 2)))))
      (pss_one (ps_ret pe_str))), ?_⟩
    obtain ⟨dx, hx0⟩ := id hx
    refine ⟨_, rfl, x, dx, _, rfl, hx0, rf_no _ _ (by decide +kernel) (by decide +kernel), _, rfl, x, y, t, u, 0, u', rfl, hx, hy, pu, pu', st, su, bigF (n := 1) (show (0 : Int).natAbs < 2 ^ 1 from by decide) (by decide), su', fun _ H1 d s1 hd => ?_, fun h => absurd rfl h⟩
    refine ⟨true, te, fun _ a ha => ?_, fun q => Bool.noConfusion q⟩
    exact ⟨_, rfl, rfl, rfl, d, _, _, rfl, upd_same, rfl, k _ (same_new s1 hd)⟩
theorem sc_law : FnScope ["_law_script", "_law_state_here", "_law_alike", "_law_a", "_law_b", "_law_c", "_law_d", "_law_whole", "_law_one", "_law_other", "_law_held"] ["_law_script"] (defScope s_law) := ⟨rfl, rfl, rfl, by decide +kernel, rfl, by decide +kernel, by decide +kernel⟩
theorem ok_law {f C CN fR fstate fdraw fgreat fdbot fis fzero fadd fsub fmul fradd frsub frmul fneg fover feq : Addr} {fd fdR fdstate fddraw fdgreat fddbot fdis fdzero fdadd fdsub fdmul fdradd fdrsub fdrmul fdneg fdover fdeq : FuncData} {cd : ClassData}
    (F : Fun K "law" "law" s_law f fd) (T : CTx K C) (Y : ITy K C) (Z : KZx K C) (m_C : mg "Ratio" = some (.ref C)) (M : Mk K C fR) (hc : PySem.W.selfFirst K C = true) (MO : MroOk K C cd) (nfC : PySem.W.notFirst K C (.ref C) = true) (nf1 : PySem.W.notFirst K C (.type "int") = true) (nf2 : PySem.W.notFirst K C (.type "str") = true) (nf3 : PySem.W.notFirst K C (.type "NoneType") = true)
    (G_R : FnOk P w K mg base (L2.CX P w) 3 fR fdR ["self", "top", "bottom"] (spRatioInit K C CN)) (b_R : Binds K fdR ["self", "top", "bottom"] [])
    (G_state : FnOk P w K mg base CX0 1 fstate fdstate ["_law_script"] (spState K)) (b_state : Binds K fdstate ["_law_script"] []) (m_state : mg "_law_state" = some (.ref fstate)) (k_state : PySem.W.keepIn K (.ref fstate) = true)
    (G_draw : FnOk P w K mg base CX0 1 fdraw fddraw ["_law_state_here", "_law_many"] spDraw) (b_draw : Binds K fddraw ["_law_state_here", "_law_many"] []) (m_draw : mg "_law_draw" = some (.ref fdraw)) (k_draw : PySem.W.keepIn K (.ref fdraw) = true)
    (G_great : FnOk P w K mg base CX0 2 fgreat fdgreat ["_law_state_here"] spGreat) (b_great : Binds K fdgreat ["_law_state_here"] []) (m_great : mg "_law_great" = some (.ref fgreat)) (k_great : PySem.W.keepIn K (.ref fgreat) = true)
    (G_dbot : FnOk P w K mg base CX0 3 fdbot fddbot ["_law_state_here"] spDbot) (b_dbot : Binds K fddbot ["_law_state_here"] []) (m_dbot : mg "_law_draw_bottom" = some (.ref fdbot)) (k_dbot : PySem.W.keepIn K (.ref fdbot) = true)
    (G_is : FnOk P w K mg base CX0 2 fis fdis ["_law_told", "_law_top", "_law_bottom"] (spIs C)) (b_is : Binds K fdis ["_law_told", "_law_top", "_law_bottom"] []) (m_is : mg "_law_is" = some (.ref fis)) (k_is : PySem.W.keepIn K (.ref fis) = true)
    (G_zero : FnOk P w K mg base (L2.CX P w) 7 fzero fdzero ["_law_one", "_law_other"] (spZero C)) (b_zero : Binds K fdzero ["_law_one", "_law_other"] []) (m_zero : mg "_law_zero" = some (.ref fzero)) (k_zero : PySem.W.keepIn K (.ref fzero) = true)
    (G_add : FnOk P w K mg base CX0 6 fadd fdadd ["self", "other"] (spR_add C)) (b_add : Binds K fdadd ["self", "other"] []) (O_add : OwnOp K C fadd (PySem.dunder Operator.Add.info.2)) (N_add : IntOp K C Operator.Add.info.2) (V_add : RevOp K C fadd fradd Operator.Add.info.2) (NI_add : NoIn K C Operator.Add.info.2)
    (G_radd : FnOk P w K mg base CX0 7 fradd fdradd ["self", "other"] (spR_radd C)) (b_radd : Binds K fdradd ["self", "other"] [])
    (G_sub : FnOk P w K mg base CX0 6 fsub fdsub ["self", "other"] (spR_sub C)) (b_sub : Binds K fdsub ["self", "other"] []) (O_sub : OwnOp K C fsub (PySem.dunder Operator.Sub.info.2)) (N_sub : IntOp K C Operator.Sub.info.2) (V_sub : RevOp K C fsub frsub Operator.Sub.info.2) (NI_sub : NoIn K C Operator.Sub.info.2)
    (G_rsub : FnOk P w K mg base CX0 7 frsub fdrsub ["self", "other"] (spR_rsub C)) (b_rsub : Binds K fdrsub ["self", "other"] [])
    (G_mul : FnOk P w K mg base CX0 6 fmul fdmul ["self", "other"] (spR_mul C)) (b_mul : Binds K fdmul ["self", "other"] []) (O_mul : OwnOp K C fmul (PySem.dunder Operator.Mult.info.2)) (N_mul : IntOp K C Operator.Mult.info.2) (V_mul : RevOp K C fmul frmul Operator.Mult.info.2) (NI_mul : NoIn K C Operator.Mult.info.2)
    (G_rmul : FnOk P w K mg base CX0 7 frmul fdrmul ["self", "other"] (spR_rmul C)) (b_rmul : Binds K fdrmul ["self", "other"] [])
    (G_neg : FnOk P w K mg base CX0 5 fneg fdneg ["self"] (spR_neg C)) (b_neg : Binds K fdneg ["self"] []) (O_neg : OwnOp K C fneg "__neg__")
    (G_over : FnOk P w K mg base (L2.CX P w) 6 fover fdover ["self", "other"] (spR_over C CN)) (b_over : Binds K fdover ["self", "other"] []) (Me_over : Meth K C "over" fover)
    (G_eq : FnOk P w K mg base CX0 2 feq fdeq ["self", "other"] (spR_eq K C)) (b_eq : Binds K fdeq ["self", "other"] []) (O_eq : OwnOp K C feq "__eq__") :
    FnOk P w K mg base CX0 10 f fd ["_law_script"] (spLaw K) := by
  refine F.ok sc_law (fun vs H Q E h => ?_) (fun cdv A outer s H vs Q E hr h => ?_)
  · obtain ⟨a, ns, rfl, _⟩ := h
    rfl
  · obtain ⟨sc, ns, rfl, hS, hl, k⟩ := h
    refine ⟨_, (pss_cons (ps_set (i := 1) sc_law.nd rfl (Or.inl rfl) (pe_call G_state (hr.mono (by decide)) rfl m_state k_state b_state .nil pass0 (pa_cons (pv 0) pa_nil)))
      (pss_cons (ps_set (i := 2) sc_law.nd rfl (Or.inl rfl) (pe_call G_draw (hr.mono (by decide)) rfl m_draw k_draw b_draw .nil pass0 (pa_cons (pv 1) (pa_cons pe_int pa_nil))))
      (pss_cons (ps_par (i := 3) (j := 4) (by rfl) sc_law.nd rfl rfl (by decide) rfl rfl (pa_cons (pe_call G_great (hr.mono (by decide)) rfl m_great k_great b_great .nil pass0 (pa_cons (pv 1) pa_nil)) (pa_cons (pe_call G_dbot (hr.mono (by decide)) rfl m_dbot k_dbot b_dbot .nil pass0 (pa_cons (pv 1) pa_nil)) pa_nil)) (by rfl))
      (pss_cons (ps_par (i := 5) (j := 6) (by rfl) sc_law.nd rfl rfl (by decide) rfl rfl (pa_cons (pe_call G_great (hr.mono (by decide)) rfl m_great k_great b_great .nil pass0 (pa_cons (pv 1) pa_nil)) (pa_cons (pe_call G_dbot (hr.mono (by decide)) rfl m_dbot k_dbot b_dbot .nil pass0 (pa_cons (pv 1) pa_nil)) pa_nil)) (by rfl))
      (pss_cons (ps_set (i := 7) sc_law.nd rfl (Or.inl rfl) (pe_call G_great (hr.mono (by decide)) rfl m_great k_great b_great .nil pass0 (pa_cons (pv 1) pa_nil)))
      (C8.pss_cut (ps_if (pt_cmpR op_eq (pv 2) pe_int (nomark _))
        (pss_one (ps_par (i := 5) (j := 6) (by rfl) sc_law.nd rfl rfl (by decide) rfl rfl (pa_cons (pe_op op_mulW pe_int (pv 3)) (pa_cons (pe_op op_mulW pe_int (pv 4)) pa_nil)) (by rfl)))
        pss_nil)
      (pss_cons (ps_set (i := 8) sc_law.nd rfl (Or.inl rfl) (pe_make M G_R (hr.mono (by decide)) rfl m_C b_R .nil passL (pa_cons (pv 3) (pa_cons (pv 4) pa_nil))))
      (pss_cons (ps_set (i := 9) sc_law.nd rfl (Or.inl rfl) (pe_make M G_R (hr.mono (by decide)) rfl m_C b_R .nil passL (pa_cons (pv 5) (pa_cons (pv 6) pa_nil))))
      (pss_cons (ps_if (PW.pt (pw_or (pt_not (pt_val (pe_call G_is (hr.mono (by decide)) rfl m_is k_is b_is .nil pass0 (pa_cons (pe_op (op_own2 (op := .Add) hc O_add G_add (hr.mono (by decide)) b_add pass0) (pv 8) (pv 9)) (pa_cons (pe_op op_add (pe_op op_mulW (pv 3) (pv 6)) (pe_op op_mulW (pv 5) (pv 4))) (pa_cons (pe_op op_mulW (pv 4) (pv 6)) pa_nil)))))) (pw_or1 (pt_not (pt_val (pe_call G_is (hr.mono (by decide)) rfl m_is k_is b_is .nil pass0 (pa_cons (pe_op (op_own2 (op := .Sub) hc O_sub G_sub (hr.mono (by decide)) b_sub pass0) (pv 8) (pv 9)) (pa_cons (pe_op op_sub (pe_op op_mulW (pv 3) (pv 6)) (pe_op op_mulW (pv 5) (pv 4))) (pa_cons (pe_op op_mulW (pv 4) (pv 6)) pa_nil)))))))))
        (pss_one (ps_ret pe_bl))
        pss_nil)
      (pss_cons (ps_if (PW.pt (pw_or (pt_not (pt_val (pe_call G_is (hr.mono (by decide)) rfl m_is k_is b_is .nil pass0 (pa_cons (pe_op (op_own2 (op := .Mult) hc O_mul G_mul (hr.mono (by decide)) b_mul pass0) (pv 8) (pv 9)) (pa_cons (pe_op op_mulW (pv 3) (pv 5)) (pa_cons (pe_op op_mulW (pv 4) (pv 6)) pa_nil)))))) (pw_or1 (pt_not (pt_val (pe_call G_is (hr.mono (by decide)) rfl m_is k_is b_is .nil pass0 (pa_cons (pe_un (un_own O_neg G_neg (hr.mono (by decide)) b_neg pass0) (pv 8)) (pa_cons (pe_un un_neg (pv 3)) (pa_cons (pv 4) pa_nil)))))))))
        (pss_one (ps_ret pe_bl))
        pss_nil)
      (pss_cons (ps_if (PW.pt (pw_or (pt_not (pt_val (pe_call G_is (hr.mono (by decide)) rfl m_is k_is b_is .nil pass0 (pa_cons (pe_op (op_ownI (op := .Add) hc O_add N_add G_add (hr.mono (by decide)) b_add pass0) (pv 8) (pv 7)) (pa_cons (pe_op op_add (pv 3) (pe_op op_mulW (pv 7) (pv 4))) (pa_cons (pv 4) pa_nil)))))) (pw_or1 (pt_not (pt_val (pe_call G_is (hr.mono (by decide)) rfl m_is k_is b_is .nil pass0 (pa_cons (pe_op (op_Iown (op := .Add) hc blt_add V_add G_radd (hr.mono (by decide)) b_radd pass0) (pv 7) (pv 8)) (pa_cons (pe_op op_add (pv 3) (pe_op op_mulW (pv 7) (pv 4))) (pa_cons (pv 4) pa_nil)))))))))
        (pss_one (ps_ret pe_bl))
        pss_nil)
      (pss_cons (ps_if (PW.pt (pw_or (pt_not (pt_val (pe_call G_is (hr.mono (by decide)) rfl m_is k_is b_is .nil pass0 (pa_cons (pe_op (op_ownI (op := .Sub) hc O_sub N_sub G_sub (hr.mono (by decide)) b_sub pass0) (pv 8) (pv 7)) (pa_cons (pe_op op_sub (pv 3) (pe_op op_mulW (pv 7) (pv 4))) (pa_cons (pv 4) pa_nil)))))) (pw_or1 (pt_not (pt_val (pe_call G_is (hr.mono (by decide)) rfl m_is k_is b_is .nil pass0 (pa_cons (pe_op (op_Iown (op := .Sub) hc blt_sub V_sub G_rsub (hr.mono (by decide)) b_rsub pass0) (pv 7) (pv 8)) (pa_cons (pe_op op_sub (pe_op op_mulW (pv 7) (pv 4)) (pv 3)) (pa_cons (pv 4) pa_nil)))))))))
        (pss_one (ps_ret pe_bl))
        pss_nil)
      (pss_cons (ps_if (PW.pt (pw_or (pt_not (pt_val (pe_call G_is (hr.mono (by decide)) rfl m_is k_is b_is .nil pass0 (pa_cons (pe_op (op_ownI (op := .Mult) hc O_mul N_mul G_mul (hr.mono (by decide)) b_mul pass0) (pv 8) (pv 7)) (pa_cons (pe_op op_mulW (pv 3) (pv 7)) (pa_cons (pv 4) pa_nil)))))) (pw_or1 (pt_not (pt_val (pe_call G_is (hr.mono (by decide)) rfl m_is k_is b_is .nil pass0 (pa_cons (pe_op (op_Iown (op := .Mult) hc blt_mul V_mul G_rmul (hr.mono (by decide)) b_rmul pass0) (pv 7) (pv 8)) (pa_cons (pe_op op_mulW (pv 3) (pv 7)) (pa_cons (pv 4) pa_nil)))))))))
        (pss_one (ps_ret pe_bl))
        pss_nil)
      (C8.pss_cut (ps_if (PW.pt (pw_and (pt_cmpR op_ne (pv 5) pe_int (nomark _)) (pw_and1 (pt_not (pt_val (pe_call G_is (hr.mono (by decide)) rfl m_is k_is b_is .nil pass0 (pa_cons (pe_meth (pv 8) T.cl Me_over G_over (hr.mono (by decide)) b_over .nil passL (pa_cons (pv 9) pa_nil)) (pa_cons (pe_op op_mulW (pv 3) (pv 6)) (pa_cons (pe_op op_mulW (pv 4) (pv 5)) pa_nil)))))))))
        (pss_one (ps_ret pe_bl))
        pss_nil)
      (C8.pss_cut (ps_if (PW.pt (pw_and (pt_cmpR op_ne (pv 7) pe_int (nomark _)) (pw_and1 (pt_not (pt_val (pe_call G_is (hr.mono (by decide)) rfl m_is k_is b_is .nil pass0 (pa_cons (pe_meth (pv 8) T.cl Me_over G_over (hr.mono (by decide)) b_over .nil passL (pa_cons (pv 7) pa_nil)) (pa_cons (pv 3) (pa_cons (pe_op op_mulW (pv 4) (pv 7)) pa_nil)))))))))
        (pss_one (ps_ret pe_bl))
        pss_nil)
      (pss_cons (ps_if (PW.pt (pw_or (pt_cmpR op_ne (pe_call G_zero (hr.mono (by decide)) rfl m_zero k_zero b_zero .nil passL (pa_cons (pv 8) (pa_cons (pe_make M G_R (hr.mono (by decide)) rfl m_C b_R .nil passL (pa_cons pe_int (pa_cons (pv 6) pa_nil))) pa_nil))) pe_str (nomark _)) (pw_or1 (pt_cmpR op_ne (pe_call G_zero (hr.mono (by decide)) rfl m_zero k_zero b_zero .nil passL (pa_cons (pv 8) (pa_cons pe_int pa_nil))) pe_str (nomark _)))))
        (pss_one (ps_ret pe_bl))
        pss_nil)
      (pss_cons (ps_if (PW.pt (pw_or (pt_cmpR op_ne (pe_cmpR (op_ownEq O_eq G_eq (hr.mono (by decide)) b_eq pass0) (pv 8) (pv 9) (nomark _)) (pe_cmpR op_eq (pe_op op_mulW (pv 3) (pv 6)) (pe_op op_mulW (pv 5) (pv 4)) (nomark _)) (nomark _)) (pw_or (pt_cmpR op_ne (pe_cmpR (op_ownEq O_eq G_eq (hr.mono (by decide)) b_eq pass0) (pv 8) (pv 7) (nomark _)) (pe_cmpR op_eq (pv 3) (pe_op op_mulW (pv 7) (pv 4)) (nomark _)) (nomark _)) (pw_or (pt_cmpR (op_ownEq O_eq G_eq (hr.mono (by decide)) b_eq pass0) (pv 8) pe_str (nomark _)) (pw_or1 (pt_cmpR (op_ownEq O_eq G_eq (hr.mono (by decide)) b_eq pass0) (pv 8) pe_non (nomark _)))))))
        (pss_one (ps_ret pe_bl))
        pss_nil)
      (pss_cons (ps_set (i := 10) sc_law.nd rfl (Or.inl rfl) (pv 8))
      (pss_cons (ps_aug (i := 10) sc_law.nd rfl (Or.inl rfl) (pv 9) (ip_own2 (op := .Add) hc MO NI_add O_add G_add (hr.mono (by decide)) b_add pass0))
      (pss_cons (ps_aug (i := 10) sc_law.nd rfl (Or.inl rfl) (pv 9) (ip_own2 (op := .Mult) hc MO NI_mul O_mul G_mul (hr.mono (by decide)) b_mul pass0))
      (pss_cons (ps_aug (i := 10) sc_law.nd rfl (Or.inl rfl) (pv 7) (ip_ownI (op := .Sub) hc MO NI_sub O_sub N_sub G_sub (hr.mono (by decide)) b_sub pass0))
      (pss_one (ps_ret (pe_and (pe_call G_is (hr.mono (by decide)) rfl m_is k_is b_is .nil pass0 (pa_cons (pv 8) (pa_cons (pv 3) (pa_cons (pv 4) pa_nil)))) (pe_one (pe_call G_is (hr.mono (by decide)) rfl m_is k_is b_is .nil pass0 (pa_cons (pv 10) (pa_cons (pe_op op_sub (pe_op op_mulW (pe_op op_add (pe_op op_mulW (pv 3) (pv 6)) (pe_op op_mulW (pv 5) (pv 4))) (pv 5)) (pe_op op_mulW (pe_op op_mulW (pe_op op_mulW (pv 7) (pv 4)) (pv 6)) (pv 6))) (pa_cons (pe_op op_mulW (pe_op op_mulW (pv 4) (pv 6)) (pv 6)) pa_nil))))))))))))))))))))))))))))), ?_⟩
    refine ⟨_, rfl, sc, ns, rfl, hS, hl, fun p H1 hp S1 B1 => ?_⟩
    refine ⟨_, rfl, p, _, rfl, by decide, by decide, S1, fun al H2 al0 al1 S2 B2 => ?_⟩
    refine ⟨_, rfl, p, rfl, S2, fun a H3 Ba S3 B3 => ⟨_, rfl, p, rfl, S3, fun b H4 hb Bb S4 B4 => ⟨_, _, rfl, ?_⟩⟩⟩
    refine ⟨_, rfl, p, rfl, S4, fun c0 H5 Bc0 S5 B5 => ⟨_, rfl, p, rfl, S5, fun d0 H6 hd0 Bd0 S6 B6 => ⟨_, _, rfl, ?_⟩⟩⟩
    refine ⟨_, rfl, p, rfl, S6, fun x H7 Bx S7 B7 => ?_⟩
    replace Ba : B 120 a := Ba
    replace Bb : B 120 b := Bb
    replace Bx : B 120 x := Bx
    replace Bc0 : B 120 c0 := Bc0
    replace Bd0 : B 120 d0 := Bd0
    have B_one : B 1 (1 : Int) := show (1 : Int).natAbs < 2 ^ 1 from by decide
    have B_3 : B 2 (3 : Int) := show (3 : Int).natAbs < 2 ^ 2 from by decide
    have B_0 : B 1 (0 : Int) := show (0 : Int).natAbs < 2 ^ 1 from by decide
    refine ⟨fun σ H' => H' = H7 ∧ ∃ c d : Int, d ≠ 0 ∧ B 122 c ∧ B 122 d ∧ σ = [some (.ref sc), some (.ref p), some (.int al), some (.int a), some (.int b), some (.int c), some (.int d), some (.int x), none, none, none], ?_, ?_⟩
    · refine ⟨_, rfl, rfl, _, rfl, ?_⟩
      refine ite2 (fun e => ?_) (fun e => ?_)
      · refine ⟨_, rfl, _, _, rfl, rfl, mulB B_3 Ba (by decide), _, rfl, _, _, rfl, rfl, mulB B_3 Bb (by decide), _, _, rfl, rfl, 3 * a, 3 * b, by omega, B_mul B_3 Ba, B_mul B_3 Bb, rfl⟩
      · exact ⟨rfl, c0, d0, hd0, B_le Bc0 (by decide), B_le Bd0 (by decide), rfl⟩
    rintro σ H' ⟨rfl, c, d, hd, Bc, Bd, rfl⟩
    clear B1 B2 B3 B4 B5 B6 B7 S1 S2 S3 S4 S5 S6 S7
    refine ⟨_, rfl, _, rfl, fun one dx n1 n2 n3 => mk_go hb (B_le Bb (by decide)) n1 n2 n3 fun t u G1 L1 R1 g1 => ⟨rfl, ?_⟩⟩
    refine ⟨_, rfl, _, rfl, fun oth dy m1 m2 m3 => mk_go hd (B_le Bd (by decide)) m1 m2 m3 fun t1 u1 G2 L2 R2 g2 => ⟨rfl, ?_⟩⟩
    replace R1 := R1.same g2
    have V1 := L1.vl
    have V2 := L2.vl
    have pu := L1.pos
    have pu1 := L2.pos
    have Bt : B 120 t := B_abs Ba L1.lt
    have Bu : B 120 u := B_abs Bb L1.lu
    have Bt1 : B 122 t1 := B_abs Bc L2.lt
    have Bu1 : B 122 u1 := B_abs Bd L2.lu
    have Ft := bigF Bt (by decide)
    have Fu := bigF Bu (by decide)
    have Ft1 := bigF Bt1 (by decide)
    have Fu1 := bigF Bu1 (by decide)
    have Fx := bigF Bx (by decide)
    obtain ⟨dx, hx⟩ := id R1
    obtain ⟨dy, hy⟩ := id R2
    refine ⟨_, rfl, _, rfl, one, oth, dx, dy, _, _, rfl, rfl, hx, hy, one, .ref oth, t, u, t1, u1, rfl, R1, .inl ⟨oth, rfl, R2⟩, pu, pu1, Ft, Fu, Ft1, Fu1, fun z1 T1 U1 H1 Lz1 Rz1 gz1 => ⟨_, rfl, _, rfl, _, _, rfl, rfl, mulB Ba Bd (by decide), _, rfl, _, rfl, _, _, rfl, rfl, mulB Bc Bb (by decide), _, _, rfl, rfl, _, rfl, _, rfl, _, _, rfl, rfl, mulB Bb Bd (by decide), z1, ((a * d) + (c * b)), (b * d), T1, U1, rfl, Rz1, Lz1.pos, Lz1.cop, (vl_add V1 V2 Lz1).val, big4 (B_abs (B_add (B_mul Bt Bu1) (B_mul Bt1 Bu)) Lz1.lt) (by decide), big4 (B_abs (B_mul Bu Bu1) Lz1.lu) (by decide), big4 (B_add (B_mul Ba Bd) (B_mul Bc Bb)) (by decide), big4 (B_mul Bb Bd) (by decide), _, rfl, iteF ?_⟩⟩
    replace R1 := R1.same gz1
    replace R2 := R2.same gz1
    obtain ⟨dx, hx⟩ := id R1
    obtain ⟨dy, hy⟩ := id R2
    refine ⟨_, rfl, _, rfl, one, oth, dx, dy, _, _, rfl, rfl, hx, hy, one, .ref oth, t, u, t1, u1, rfl, R1, .inl ⟨oth, rfl, R2⟩, pu, pu1, Ft, Fu, Ft1, Fu1, fun z2 T2 U2 H2 Lz2 Rz2 gz2 => ⟨_, rfl, _, rfl, _, _, rfl, rfl, mulB Ba Bd (by decide), _, rfl, _, rfl, _, _, rfl, rfl, mulB Bc Bb (by decide), _, _, rfl, rfl, _, rfl, _, rfl, _, _, rfl, rfl, mulB Bb Bd (by decide), z2, ((a * d) - (c * b)), (b * d), T2, U2, rfl, Rz2, Lz2.pos, Lz2.cop, (vl_sub V1 V2 Lz2).val, big4 (B_abs (B_sub (B_mul Bt Bu1) (B_mul Bt1 Bu)) Lz2.lt) (by decide), big4 (B_abs (B_mul Bu Bu1) Lz2.lu) (by decide), big4 (B_sub (B_mul Ba Bd) (B_mul Bc Bb)) (by decide), big4 (B_mul Bb Bd) (by decide), _, rfl, iteF ?_⟩⟩
    replace R1 := R1.same gz2
    replace R2 := R2.same gz2
    obtain ⟨dx, hx⟩ := id R1
    obtain ⟨dy, hy⟩ := id R2
    refine ⟨_, rfl, _, rfl, one, oth, dx, dy, _, _, rfl, rfl, hx, hy, one, .ref oth, t, u, t1, u1, rfl, R1, .inl ⟨oth, rfl, R2⟩, pu, pu1, Ft, Fu, Ft1, Fu1, fun z3 T3 U3 H3 Lz3 Rz3 gz3 => ⟨_, rfl, _, rfl, _, _, rfl, rfl, mulB Ba Bc (by decide), _, rfl, _, rfl, _, _, rfl, rfl, mulB Bb Bd (by decide), z3, (a * c), (b * d), T3, U3, rfl, Rz3, Lz3.pos, Lz3.cop, (vl_mul V1 V2 Lz3).val, big4 (B_abs (B_mul Bt Bt1) Lz3.lt) (by decide), big4 (B_abs (B_mul Bu Bu1) Lz3.lu) (by decide), big4 (B_mul Ba Bc) (by decide), big4 (B_mul Bb Bd) (by decide), _, rfl, iteF ?_⟩⟩
    replace R1 := R1.same gz3
    replace R2 := R2.same gz3
    obtain ⟨dx, hx⟩ := id R1
    obtain ⟨dy, hy⟩ := id R2
    refine ⟨_, rfl, one, dx, _, rfl, hx, one, t, u, rfl, R1, pu, Fu, fun z4 T4 U4 H4 Lz4 Rz4 gz4 => ⟨_, rfl, _, rfl, _, rfl, z4, (-a), b, T4, U4, rfl, Rz4, Lz4.pos, Lz4.cop, (low_neg L1 Lz4), big4 (B_abs (B_neg Bt) Lz4.lt) (by decide), big4 (B_abs Bu Lz4.lu) (by decide), big4 (B_neg Ba) (by decide), big4 Bb (by decide), _, rfl, iteF ?_⟩⟩
    replace R1 := R1.same gz4
    replace R2 := R2.same gz4
    obtain ⟨dx, hx⟩ := id R1
    obtain ⟨dy, hy⟩ := id R2
    refine ⟨_, rfl, _, rfl, one, x, dx, _, rfl, rfl, hx, one, .int x, t, u, x, 1, rfl, R1, .inr ⟨rfl, rfl⟩, pu, by decide, Ft, Fu, Fx, fit_one, fun z5 T5 U5 H5 Lz5 Rz5 gz5 => ⟨_, rfl, _, rfl, _, rfl, _, _, rfl, rfl, mulB Bx Bb (by decide), _, _, rfl, rfl, _, rfl, z5, (a + (x * b)), b, T5, U5, rfl, Rz5, Lz5.pos, Lz5.cop, (by have e := (vl_add V1 vl_int Lz5).val; simpa only [Int.mul_one, Int.one_mul] using e), big4 (B_abs (B_add (B_mul Bt B_one) (B_mul Bx Bu)) Lz5.lt) (by decide), big4 (B_abs (B_mul Bu B_one) Lz5.lu) (by decide), big4 (B_add Ba (B_mul Bx Bb)) (by decide), big4 Bb (by decide), _, rfl, iteF ?_⟩⟩
    replace R1 := R1.same gz5
    replace R2 := R2.same gz5
    obtain ⟨dx, hx⟩ := id R1
    obtain ⟨dy, hy⟩ := id R2
    refine ⟨_, rfl, _, rfl, one, x, dx, _, rfl, rfl, hx, one, x, t, u, rfl, R1, pu, Ft, Fu, Fx, fun z6 T6 U6 H6 Lz6 Rz6 gz6 => ⟨_, rfl, _, rfl, _, rfl, _, _, rfl, rfl, mulB Bx Bb (by decide), _, _, rfl, rfl, _, rfl, z6, (a + (x * b)), b, T6, U6, rfl, Rz6, Lz6.pos, Lz6.cop, (by have e := (vl_add V1 vl_int Lz6).val; simpa only [Int.mul_one, Int.one_mul] using e), big4 (B_abs (B_add (B_mul Bt B_one) (B_mul Bx Bu)) Lz6.lt) (by decide), big4 (B_abs (B_mul Bu B_one) Lz6.lu) (by decide), big4 (B_add Ba (B_mul Bx Bb)) (by decide), big4 Bb (by decide), _, rfl, iteF ?_⟩⟩
    replace R1 := R1.same gz6
    replace R2 := R2.same gz6
    obtain ⟨dx, hx⟩ := id R1
    obtain ⟨dy, hy⟩ := id R2
    refine ⟨_, rfl, _, rfl, one, x, dx, _, rfl, rfl, hx, one, .int x, t, u, x, 1, rfl, R1, .inr ⟨rfl, rfl⟩, pu, by decide, Ft, Fu, Fx, fit_one, fun z7 T7 U7 H7 Lz7 Rz7 gz7 => ⟨_, rfl, _, rfl, _, rfl, _, _, rfl, rfl, mulB Bx Bb (by decide), _, _, rfl, rfl, _, rfl, z7, (a - (x * b)), b, T7, U7, rfl, Rz7, Lz7.pos, Lz7.cop, (by have e := (vl_sub V1 vl_int Lz7).val; simpa only [Int.mul_one, Int.one_mul] using e), big4 (B_abs (B_sub (B_mul Bt B_one) (B_mul Bx Bu)) Lz7.lt) (by decide), big4 (B_abs (B_mul Bu B_one) Lz7.lu) (by decide), big4 (B_sub Ba (B_mul Bx Bb)) (by decide), big4 Bb (by decide), _, rfl, iteF ?_⟩⟩
    replace R1 := R1.same gz7
    replace R2 := R2.same gz7
    obtain ⟨dx, hx⟩ := id R1
    obtain ⟨dy, hy⟩ := id R2
    refine ⟨_, rfl, _, rfl, one, x, dx, _, rfl, rfl, hx, one, x, t, u, rfl, R1, pu, Ft, Fu, Fx, fun z8 T8 U8 H8 Lz8 Rz8 gz8 => ⟨_, rfl, _, rfl, _, _, rfl, rfl, mulB Bx Bb (by decide), _, rfl, _, _, rfl, rfl, _, rfl, z8, ((x * b) - a), b, T8, U8, rfl, Rz8, Lz8.pos, Lz8.cop, (by have e := (vl_sub vl_int V1 Lz8).val; simpa only [Int.mul_one, Int.one_mul] using e), big4 (B_abs (B_sub (B_mul Bx Bu) (B_mul Bt B_one)) Lz8.lt) (by decide), big4 (B_abs (B_mul B_one Bu) Lz8.lu) (by decide), big4 (B_sub (B_mul Bx Bb) Ba) (by decide), big4 Bb (by decide), _, rfl, iteF ?_⟩⟩
    replace R1 := R1.same gz8
    replace R2 := R2.same gz8
    obtain ⟨dx, hx⟩ := id R1
    obtain ⟨dy, hy⟩ := id R2
    refine ⟨_, rfl, _, rfl, one, x, dx, _, rfl, rfl, hx, one, .int x, t, u, x, 1, rfl, R1, .inr ⟨rfl, rfl⟩, pu, by decide, Ft, Fu, Fx, fit_one, fun z9 T9 U9 H9 Lz9 Rz9 gz9 => ⟨_, rfl, _, rfl, _, _, rfl, rfl, mulB Ba Bx (by decide), _, rfl, z9, (a * x), b, T9, U9, rfl, Rz9, Lz9.pos, Lz9.cop, (by have e := (vl_mul V1 vl_int Lz9).val; simpa only [Int.mul_one, Int.one_mul] using e), big4 (B_abs (B_mul Bt Bx) Lz9.lt) (by decide), big4 (B_abs (B_mul Bu B_one) Lz9.lu) (by decide), big4 (B_mul Ba Bx) (by decide), big4 Bb (by decide), _, rfl, iteF ?_⟩⟩
    replace R1 := R1.same gz9
    replace R2 := R2.same gz9
    obtain ⟨dx, hx⟩ := id R1
    obtain ⟨dy, hy⟩ := id R2
    refine ⟨_, rfl, _, rfl, one, x, dx, _, rfl, rfl, hx, one, x, t, u, rfl, R1, pu, Ft, Fu, Fx, fun z10 T10 U10 H10 Lz10 Rz10 gz10 => ⟨_, rfl, _, rfl, _, _, rfl, rfl, mulB Ba Bx (by decide), _, rfl, z10, (a * x), b, T10, U10, rfl, Rz10, Lz10.pos, Lz10.cop, (by have e := (vl_mul V1 vl_int Lz10).val; simpa only [Int.mul_one, Int.one_mul] using e), big4 (B_abs (B_mul Bt Bx) Lz10.lt) (by decide), big4 (B_abs (B_mul Bu B_one) Lz10.lu) (by decide), big4 (B_mul Ba Bx) (by decide), big4 Bb (by decide), _, rfl, iteF ?_⟩⟩
    replace R1 := R1.same gz10
    replace R2 := R2.same gz10
    obtain ⟨dx, hx⟩ := id R1
    obtain ⟨dy, hy⟩ := id R2
    refine ⟨fun σ H' => σ = [some (.ref sc), some (.ref p), some (.int al), some (.int a), some (.int b), some (.int c), some (.int d), some (.int x), some (.ref one), some (.ref oth), none] ∧ RatAt C H' one t u ∧ RatAt C H' oth t1 u1, ?_, ?_⟩
    · refine ⟨_, rfl, rfl, _, rfl, ?_⟩
      by_cases e0 : c = 0
      · rw [e0]
        exact iteF (iteF ⟨(by first | rfl | rw [e0]), R1, R2⟩)
      · rw [decide_eq_false (show ¬ (V.int c = V.int 0) from fun e => e0 (V.int.inj e))]
        refine iteT ?_
        have tn : t1 ≠ 0 := fun z => e0 (by have v := L2.val; rw [z, Int.zero_mul] at v; exact (Int.mul_eq_zero.mp v.symm).resolve_right (by omega))
        refine ⟨_, rfl, one, dx, _, rfl, hx, rf_no _ _ (by decide +kernel) (by decide +kernel), _, rfl, one, .ref oth, t, u, t1, u1, rfl, R1, .inl ⟨oth, rfl, R2⟩, pu, pu1, Ft, Fu, Ft1, Fu1, fun e => absurd e tn, fun _ z12 T12 U12 H12 Lz12 Rz12 gz12 => ⟨_, rfl, _, rfl, _, _, rfl, rfl, mulB Ba Bd (by decide), _, rfl, _, rfl, _, _, rfl, rfl, mulB Bb Bc (by decide), z12, (a * d), (b * c), T12, U12, rfl, Rz12, Lz12.pos, Lz12.cop, (low_over L1 L2 hd e0 Lz12), big4 (B_abs (B_mul Bt Bu1) Lz12.lt) (by decide), big4 (B_abs (B_mul Bu Bt1) Lz12.lu) (by decide), big4 (B_mul Ba Bd) (by decide), big4 (B_mul Bb Bc) (by decide), _, rfl, ?_⟩⟩
        exact iteF ⟨rfl, R1.same gz12, R2.same gz12⟩
    rintro σ H' ⟨rfl, R1, R2⟩
    obtain ⟨dx, hx⟩ := id R1
    obtain ⟨dy, hy⟩ := id R2

    refine ⟨fun σ H' => σ = [some (.ref sc), some (.ref p), some (.int al), some (.int a), some (.int b), some (.int c), some (.int d), some (.int x), some (.ref one), some (.ref oth), none] ∧ RatAt C H' one t u ∧ RatAt C H' oth t1 u1, ?_, ?_⟩
    · refine ⟨_, rfl, rfl, _, rfl, ?_⟩
      by_cases e0 : x = 0
      · rw [e0]
        exact iteF (iteF ⟨(by first | rfl | rw [e0]), R1, R2⟩)
      · rw [decide_eq_false (show ¬ (V.int x = V.int 0) from fun e => e0 (V.int.inj e))]
        refine iteT ?_
        refine ⟨_, rfl, one, dx, _, rfl, hx, rf_no _ _ (by decide +kernel) (by decide +kernel), _, rfl, one, .int x, t, u, x, 1, rfl, R1, .inr ⟨rfl, rfl⟩, pu, by decide, Ft, Fu, Fx, fit_one, fun e => absurd e e0, fun _ z13 T13 U13 H13 Lz13 Rz13 gz13 => ⟨_, rfl, _, rfl, _, rfl, _, _, rfl, rfl, mulB Bb Bx (by decide), z13, a, (b * x), T13, U13, rfl, Rz13, Lz13.pos, Lz13.cop, (by have e := low_over L1 low_one (by decide) e0 Lz13; simpa only [Int.mul_one, Int.one_mul] using e), big4 (B_abs (B_mul Bt B_one) Lz13.lt) (by decide), big4 (B_abs (B_mul Bu Bx) Lz13.lu) (by decide), big4 Ba (by decide), big4 (B_mul Bb Bx) (by decide), _, rfl, ?_⟩⟩
        exact iteF ⟨rfl, R1.same gz13, R2.same gz13⟩
    rintro σ H' ⟨rfl, R1, R2⟩
    obtain ⟨dx, hx⟩ := id R1
    obtain ⟨dy, hy⟩ := id R2

    -- over nothing
    refine ⟨_, rfl, _, rfl, fun z dz q1 q2 q3 => mk_go hd (B_le Bd (by decide)) q1 q2 q3 fun Tq Uq G3 L3 R3 g3 => ⟨rfl, one, .ref z, t, u, Uq, rfl, R1.same g3, .inl ⟨z, rfl, low_zero hd L3 ▸ R3⟩, pu, L3.pos, Ft, Fu, bigF (B_abs Bd L3.lu) (by decide), fun G4 g4 => ⟨rfl, _, rfl, iteNS rfl ?_⟩⟩⟩
    replace R1 := (R1.same g3).same g4
    replace R2 := (R2.same g3).same g4
    refine ⟨_, rfl, one, .int 0, t, u, 1, rfl, R1, .inr ⟨rfl, rfl⟩, pu, by decide, Ft, Fu, fit_one, fun G5 g5 => ⟨rfl, _, rfl, iteNS rfl ?_⟩⟩
    replace R1 := R1.same g5
    replace R2 := R2.same g5
    obtain ⟨dx, hx⟩ := id R1
    obtain ⟨dy, hy⟩ := id R2
    -- equality
    refine ⟨_, rfl, _, rfl, one, dx, _, _, rfl, hx, R2.ty T Y, nfC, one, .ref oth, t, u, rfl, R1, .inl ⟨oth, t1, u1, rfl, R2, _, rfl, _, rfl, _, _, rfl, rfl, mulB Ba Bd (by decide), _, rfl, _, rfl, _, _, rfl, rfl, mulB Bc Bb (by decide), rfl, rfl, _, rfl, ?_⟩⟩
    rw [dec_int2]
    refine iteNS (congrArg V.bl (decide_eq_decide.mpr (low_eq hb hd L1 L2))) ?_
    refine ⟨_, rfl, _, rfl, one, dx, _, _, rfl, hx, .base (.int x), nf1, one, .int x, t, u, rfl, R1, .inr (.inl ⟨x, rfl, _, rfl, _, rfl, _, rfl, _, _, rfl, rfl, mulB Bx Bb (by decide), rfl, rfl, _, rfl, ?_⟩)⟩
    rw [dec_int2]
    refine iteNS (congrArg V.bl (decide_eq_decide.mpr (low_eqI hb L1))) ?_
    refine ⟨_, rfl, one, dx, _, _, rfl, hx, .base (.str _), nf2, one, .str _, t, u, rfl, R1, .inr (.inr ⟨_, .base (.str _), Z.kstr, .str _, rfl, _, rfl, iteF ?_⟩)⟩
    refine ⟨_, rfl, one, dx, _, _, rfl, hx, .base .non, nf3, one, .non, t, u, rfl, R1, .inr (.inr ⟨_, .base .non, Z.knon, .non, rfl, _, rfl, iteF ?_⟩)⟩
    -- in place
    refine ⟨_, rfl, _, rfl, _, rfl, one, oth, dx, dy, _, _, rfl, rfl, hx, hy, one, .ref oth, t, u, t1, u1, rfl, R1, .inl ⟨oth, rfl, R2⟩, pu, pu1, Ft, Fu, Ft1, Fu1, fun za Ta Ua Ha La Ra ga => ?_⟩
    replace R1 := R1.same ga
    replace R2 := R2.same ga
    obtain ⟨dy, hy⟩ := id R2
    obtain ⟨dz, hz⟩ := id Ra
    have BTa := B_abs (B_add (B_mul Bt Bu1) (B_mul Bt1 Bu)) La.lt
    have BUa := B_abs (B_mul Bu Bu1) La.lu
    refine ⟨_, rfl, _, rfl, za, oth, dz, dy, _, _, rfl, rfl, hz, hy, za, .ref oth, Ta, Ua, t1, u1, rfl, Ra, .inl ⟨oth, rfl, R2⟩, La.pos, pu1, bigF BTa (by decide), bigF BUa (by decide), Ft1, Fu1, fun zb Tb Ub Hb Lb Rb gb => ?_⟩
    replace R1 := R1.same gb
    obtain ⟨dz, hz⟩ := id Rb
    have BTb := B_abs (B_mul BTa Bt1) Lb.lt
    have BUb := B_abs (B_mul BUa Bu1) Lb.lu
    refine ⟨_, rfl, _, rfl, zb, x, dz, _, rfl, rfl, hz, zb, .int x, Tb, Ub, x, 1, rfl, Rb, .inr ⟨rfl, rfl⟩, Lb.pos, by decide, bigF BTb (by decide), bigF BUb (by decide), Fx, fit_one, fun zc Tc Uc Hc Lc Rc gc => ?_⟩
    replace R1 := R1.same gc
    have Vc := vl_sub (vl_mul (vl_add V1 V2 La) V2 Lb) vl_int Lc
    refine ⟨_, rfl, _, rfl, _, rfl, one, a, b, t, u, rfl, R1, pu, L1.cop, L1.val, big4 Bt (by decide), big4 Bu (by decide), big4 Ba (by decide), big4 Bb (by decide), _, rfl, iteT ?_⟩
    refine ⟨_, rfl, _, rfl, _, rfl, _, _, rfl, rfl, mulB Ba Bd (by decide), _, rfl, _, rfl, _, _, rfl, rfl, mulB Bc Bb (by decide), _, _, rfl, rfl, _, rfl, _, _, rfl, rfl, mulB (B_add (B_mul Ba Bd) (B_mul Bc Bb)) Bc (by decide), _, rfl, _, rfl, _, _, rfl, rfl, mulB Bx Bb (by decide), _, rfl, _, _, rfl, rfl, mulB (B_mul Bx Bb) Bd (by decide), _, rfl, _, _, rfl, rfl, mulB (B_mul (B_mul Bx Bb) Bd) Bd (by decide), _, _, rfl, rfl, _, rfl, _, rfl, _, _, rfl, rfl, mulB Bb Bd (by decide), _, rfl, _, _, rfl, rfl, mulB (B_mul Bb Bd) Bd (by decide), zc, _, _, Tc, Uc, rfl, Rc, Lc.pos, Lc.cop, ?_, big4 (B_abs (B_sub (B_mul BTb B_one) (B_mul Bx BUb)) Lc.lt) (by decide), big4 (B_abs (B_mul BUb B_one) Lc.lu) (by decide), big4 (B_sub (B_mul (B_add (B_mul Ba Bd) (B_mul Bc Bb)) Bc) (B_mul (B_mul (B_mul Bx Bb) Bd) Bd)) (by decide), big4 (B_mul (B_mul Bb Bd) Bd) (by decide), k _⟩
    have e := Vc.val
    rw [Int.mul_one, Int.mul_one] at e
    rw [e]
    congr 2
    grind
end
end Sq

namespace Sq
open PySem PySem.Spec PyProof.Rows L2
theorem cls_some {K : PySem.W.Frag} {C : Addr} (h : PySem.W.hasDictIn K C = true) : (PySem.W.clsIn K C).isSome = true := by
  obtain ⟨cd, hc, _⟩ := PySem.W.any_some h
  rw [hc]
  rfl
theorem kit_own {K : PySem.W.Frag} {C : Addr} {t : Value} (h : PySem.W.hasDictIn K C = true) (ht : PySem.W.typeIn K (.ref C) = some (.type "type")) (hs : PySem.W.subIn K t (.ref C) = some true) : PySem.W.kitOne K t (.ref C) = some true := by
  unfold PySem.W.kitOne
  split
  · rfl
  · show (if ((PySem.W.clsIn K C).isSome && PySem.W.typeIn K (.ref C) == some (.type "type")) = true then PySem.W.subIn K t (.ref C) else none) = some true
    rw [cls_some h, ht]
    simpa using hs
theorem kit_tyo {K : PySem.W.Frag} {C : Addr} {T : String} {b : Bool} (h : PySem.W.hasDictIn K C = true) (ht : PySem.W.typeIn K (.ref C) = some (.type "type")) (hs : PySem.W.subIn K (.type T) (.ref C) = some b) : PySem.W.kitOne K (.type T) (.ref C) = some b := by
  unfold PySem.W.kitOne
  rw [if_neg (by simp)]
  show (if ((PySem.W.clsIn K C).isSome && PySem.W.typeIn K (.ref C) == some (.type "type")) = true then PySem.W.subIn K (.type T) (.ref C) else none) = some b
  rw [cls_some h, ht]
  simpa using hs
theorem kit_ty2 {K : PySem.W.Frag} {C : Addr} {T : String} {b : Bool} (hm : PySem.W.kitMeta T = true) (hs : PySem.W.subIn K (.ref C) (.type T) = some b) : PySem.W.kitOne K (.ref C) (.type T) = some b := by
  unfold PySem.W.kitOne
  rw [if_neg (by simp)]
  show (if PySem.W.kitMeta T = true then PySem.W.subIn K (.ref C) (.type T) else none) = some b
  rw [if_pos hm]
  exact hs
theorem all_mk {P : Program} {w : World} {K : PySem.W.Frag} {h : Heap} {mg : Str → Option Value} {fa : Addr} (X : K.In h) (G : h.Ns mainGlobals mg) (hfa : mg "law" = some (.ref fa))
    {CS CN fNI NaN fII CR fRI dRI fstate fdraw fgcd flisint fgreat fisnum fasr feq fadd fradd fsub frsub fmul frmul fneg fover fdbot fis fzero fla : Addr} {odNI anNI ddN odII anII odRI anRI oe1RI odstate anstate oddraw andraw odgcd angcd odlisint anlisint odgreat angreat odisnum anisnum odasr anasr odeq aneq odadd anadd odradd anradd odsub ansub odrsub anrsub odmul anmul odrmul anrmul odneg anneg odover anover oddbot andbot odis anis odzero anzero odla anla : Option Addr} {slNI slII slRI skRI slstate sldraw slgcd sllisint slgreat slisnum slasr sleq sladd slradd slsub slrsub slmul slrmul slneg slover sldbot slis slzero slla : Array (Option Value)} {ocNI kVNI dcNI pmNI cdNI ctNI ocII kVII dcII pmII cdII ctII ocRI kVRI dcRI pmRI cdRI ctRI oeRI ocstate kVstate dcstate pmstate cdstate ctstate ocdraw kVdraw dcdraw pmdraw cddraw ctdraw ocgcd kVgcd dcgcd pmgcd cdgcd ctgcd oclisint kVlisint dclisint pmlisint cdlisint ctlisint ocgreat kVgreat dcgreat pmgreat cdgreat ctgreat ocisnum kVisnum dcisnum pmisnum cdisnum ctisnum ocasr kVasr dcasr pmasr cdasr ctasr oceq kVeq dceq pmeq cdeq cteq ocadd kVadd dcadd pmadd cdadd ctadd ocradd kVradd dcradd pmradd cdradd ctradd ocsub kVsub dcsub pmsub cdsub ctsub ocrsub kVrsub dcrsub pmrsub cdrsub ctrsub ocmul kVmul dcmul pmmul cdmul ctmul ocrmul kVrmul dcrmul pmrmul cdrmul ctrmul ocneg kVneg dcneg pmneg cdneg ctneg ocover kVover dcover pmover cdover ctover ocdbot kVdbot dcdbot pmdbot cddbot ctdbot ocis kVis dcis pmis cdis ctis oczero kVzero dczero pmzero cdzero ctzero ocla kVla dcla pmla cdla ctla : Value} {nRI : Nat} {tkRI : Tok} {nmN qN : Str} {bsN subN : List Value} {snN : List Str} {abN : Bool} {colN : Option Bool} {m0N m1N m2N m3N m5N foadd roadd fosub rosub fomul romul : Option Value} {cdR : ClassData}
    (aS : PySem.W.nsIn K mainGlobals "SeriesError" = some (some (.ref CS)))
    (x3S : PySem.W.typeIn K (.ref CS) = some (.type "type"))
    (y8S : PySem.W.hasDictIn K CS = true)
    (aN : PySem.W.nsIn K mainGlobals "NoRatio" = some (some (.ref CN)))
    (x3N : PySem.W.typeIn K (.ref CN) = some (.type "type"))
    (y8N : PySem.W.hasDictIn K CN = true)
    (aNI : PySem.W.findIn K (.ref CN) "__init__" = some (some (.ref fNI)))
    (lNI : K.lookup fNI = some ⟨ocNI, odNI, .func (PySem.W.fnOf "__init__" "NoRatio.__init__" (defArgs s_noRatioInit) (defBody s_noRatioInit) (defScope s_noRatioInit) .none kVNI dcNI pmNI anNI cdNI ctNI), slNI⟩)
    (cNI : PySem.W.codeIn K cdNI "NoRatio.__init__" = true)
    (kNI : PySem.W.keepIn K (.ref fNI) = true)
    (iNI : PySem.W.isFn K (.ref fNI) = true)
    (y5 : PySem.W.specialIn K (.builtin "object.__class__") "__get__" = some (some (.builtin "getset_descriptor.__get__")))
    (y6 : PySem.W.takesIn K (.builtin "object.__class__") = some true)
    (xLN : K.lookup CN = some (excClassObj nmN qN CN NaN bsN [.ref CS, .type "ValueError", .type "Exception", .type "BaseException", .type "object"] true snN subN abN colN ddN m0N m1N m2N m3N m5N "ValueError.__new__"))
    (x1N : PySem.W.findIn K (.ref CN) "__setattr__" = some (some (.builtin "object.__setattr__")))
    (x2N : PySem.W.subIn K (.ref CN) (.type "BaseException") = some true)
    (x4N : PySem.W.keepIn K (.ref CN) = true)
    (x5N : PySem.W.findIn K (.ref CN) "word" = some none)
    (x6N : PySem.W.typeIn K (.ref fNI) = some (.type "function"))
    (x7N : PySem.W.subIn K (.ref CN) (.ref CN) = some true)
    (x8N : PySem.W.subIn K (.ref CN) (.ref CS) = some true)
    (x9N : PySem.W.subIn K (.ref CN) (.type "ValueError") = some true)
    (y2N : PySem.W.findIn K (.ref CN) "__getattribute__" = some (some (.builtin "BaseException.__getattribute__")))
    (y3N : PySem.W.findIn K (.ref CN) "__getattr__" = some none)
    (y4N : PySem.W.findIn K (.ref CN) "__class__" = some (some (.builtin "object.__class__")))
    (y7N : PySem.W.mroIn K CN (.type "object") = some true)
    (aII : PySem.W.nsIn K mainGlobals "is_an_integer" = some (some (.ref fII)))
    (lII : K.lookup fII = some ⟨ocII, odII, .func (PySem.W.fnOf "is_an_integer" "is_an_integer" (defArgs s_isint) (defBody s_isint) (defScope s_isint) .none kVII dcII pmII anII cdII ctII), slII⟩)
    (cII : PySem.W.codeIn K cdII "is_an_integer" = true)
    (kII : PySem.W.keepIn K (.ref fII) = true)
    (aR : PySem.W.nsIn K mainGlobals "Ratio" = some (some (.ref CR)))
    (pgR : PySem.W.plainGet K CR Str.empty = true)
    (hdR : PySem.W.hasDictIn K CR = true)
    (poR : PySem.W.plainOver K CR = true)
    (saR : PySem.W.findIn K (.ref CR) "__setattr__" = some (some (.builtin "object.__setattr__")))
    (mkR : PySem.W.makesIn K CR = true)
    (kcR : PySem.W.keepIn K (.ref CR) = true)
    (nR_top : PySem.W.findIn K (.ref CR) "top" = some none)
    (nR_bottom : PySem.W.findIn K (.ref CR) "bottom" = some none)
    (q1R : PySem.W.findIn K (.ref CR) "__class__" = some (some (.builtin "object.__class__")))
    (q2R : PySem.W.mroIn K CR (.type "object") = some true)
    (q3R : PySem.W.typeIn K (.ref CR) = some (.type "type"))
    (aRI : PySem.W.findIn K (.ref CR) "__init__" = some (some (.ref fRI)))
    (lRI : K.lookup fRI = some ⟨ocRI, odRI, .func (PySem.W.fnOf "__init__" "Ratio.__init__" (defArgs s_ratioInit) (defBody s_ratioInit) (defScope s_ratioInit) (.ref dRI) kVRI dcRI pmRI anRI cdRI ctRI), slRI⟩)
    (cRI : PySem.W.codeIn K cdRI "Ratio.__init__" = true)
    (kRI : PySem.W.keepIn K (.ref fRI) = true)
    (iRI : PySem.W.isFn K (.ref fRI) = true)
    (eRI : K.lookup dRI = some ⟨oeRI, oe1RI, .seq #[Value.int 1 tkRI] nRI, skRI⟩)
    (w3 : PySem.W.subIn K (.ref CR) (.type "int") = some false)
    (w4 : PySem.W.subIn K (.ref CR) (.type "bool") = some false)
    (g_gcd : PySem.W.nsIn K mainGlobals "gcd" = some (some (.builtin "math.gcd")))
    (z_len : PySem.W.nsIn K mainGlobals "len" = some none)
    (z_abs : PySem.W.nsIn K mainGlobals "abs" = some none)
    (z_int : PySem.W.nsIn K mainGlobals "int" = some none)
    (z_range : PySem.W.nsIn K mainGlobals "range" = some none)
    (z_isinstance : PySem.W.nsIn K mainGlobals "isinstance" = some none)
    (z_bool : PySem.W.nsIn K mainGlobals "bool" = some none)
    (astate : PySem.W.nsIn K mainGlobals "_law_state" = some (some (.ref fstate)))
    (lstate : K.lookup fstate = some ⟨ocstate, odstate, .func (PySem.W.fnOf "_law_state" "_law_state" (defArgs s_state) (defBody s_state) (defScope s_state) .none kVstate dcstate pmstate anstate cdstate ctstate), slstate⟩)
    (cstate : PySem.W.codeIn K cdstate "_law_state" = true)
    (kstate : PySem.W.keepIn K (.ref fstate) = true)
    (adraw : PySem.W.nsIn K mainGlobals "_law_draw" = some (some (.ref fdraw)))
    (ldraw : K.lookup fdraw = some ⟨ocdraw, oddraw, .func (PySem.W.fnOf "_law_draw" "_law_draw" (defArgs s_draw) (defBody s_draw) (defScope s_draw) .none kVdraw dcdraw pmdraw andraw cddraw ctdraw), sldraw⟩)
    (cdraw : PySem.W.codeIn K cddraw "_law_draw" = true)
    (kdraw : PySem.W.keepIn K (.ref fdraw) = true)
    (agcd : PySem.W.nsIn K mainGlobals "_law_gcd" = some (some (.ref fgcd)))
    (lgcd : K.lookup fgcd = some ⟨ocgcd, odgcd, .func (PySem.W.fnOf "_law_gcd" "_law_gcd" (defArgs s_gcd) (defBody s_gcd) (defScope s_gcd) .none kVgcd dcgcd pmgcd angcd cdgcd ctgcd), slgcd⟩)
    (cgcd : PySem.W.codeIn K cdgcd "_law_gcd" = true)
    (kgcd : PySem.W.keepIn K (.ref fgcd) = true)
    (alisint : PySem.W.nsIn K mainGlobals "_law_is_integer" = some (some (.ref flisint)))
    (llisint : K.lookup flisint = some ⟨oclisint, odlisint, .func (PySem.W.fnOf "_law_is_integer" "_law_is_integer" (defArgs s_lisint) (defBody s_lisint) (defScope s_lisint) .none kVlisint dclisint pmlisint anlisint cdlisint ctlisint), sllisint⟩)
    (clisint : PySem.W.codeIn K cdlisint "_law_is_integer" = true)
    (klisint : PySem.W.keepIn K (.ref flisint) = true)
    (agreat : PySem.W.nsIn K mainGlobals "_law_great" = some (some (.ref fgreat)))
    (lgreat : K.lookup fgreat = some ⟨ocgreat, odgreat, .func (PySem.W.fnOf "_law_great" "_law_great" (defArgs s_great) (defBody s_great) (defScope s_great) .none kVgreat dcgreat pmgreat angreat cdgreat ctgreat), slgreat⟩)
    (cgreat : PySem.W.codeIn K cdgreat "_law_great" = true)
    (kgreat : PySem.W.keepIn K (.ref fgreat) = true)
    (aisnum : PySem.W.nsIn K mainGlobals "is_number" = some (some (.ref fisnum)))
    (lisnum : K.lookup fisnum = some ⟨ocisnum, odisnum, .func (PySem.W.fnOf "is_number" "is_number" (defArgs s_isnum) (defBody s_isnum) (defScope s_isnum) .none kVisnum dcisnum pmisnum anisnum cdisnum ctisnum), slisnum⟩)
    (cisnum : PySem.W.codeIn K cdisnum "is_number" = true)
    (kisnum : PySem.W.keepIn K (.ref fisnum) = true)
    (aasr : PySem.W.nsIn K mainGlobals "as_ratio" = some (some (.ref fasr)))
    (lasr : K.lookup fasr = some ⟨ocasr, odasr, .func (PySem.W.fnOf "as_ratio" "as_ratio" (defArgs s_asratio) (defBody s_asratio) (defScope s_asratio) .none kVasr dcasr pmasr anasr cdasr ctasr), slasr⟩)
    (casr : PySem.W.codeIn K cdasr "as_ratio" = true)
    (kasr : PySem.W.keepIn K (.ref fasr) = true)
    (aeq : PySem.W.findIn K (.ref CR) "__eq__" = some (some (.ref feq)))
    (leq : K.lookup feq = some ⟨oceq, odeq, .func (PySem.W.fnOf "__eq__" "Ratio.__eq__" (defArgs s_req) (defBody s_req) (defScope s_req) .none kVeq dceq pmeq aneq cdeq cteq), sleq⟩)
    (ceq : PySem.W.codeIn K cdeq "Ratio.__eq__" = true)
    (keq : PySem.W.keepIn K (.ref feq) = true)
    (ieq : PySem.W.isFn K (.ref feq) = true)
    (aadd : PySem.W.findIn K (.ref CR) "__add__" = some (some (.ref fadd)))
    (ladd : K.lookup fadd = some ⟨ocadd, odadd, .func (PySem.W.fnOf "__add__" "Ratio.__add__" (defArgs s_radd) (defBody s_radd) (defScope s_radd) .none kVadd dcadd pmadd anadd cdadd ctadd), sladd⟩)
    (cadd : PySem.W.codeIn K cdadd "Ratio.__add__" = true)
    (kadd : PySem.W.keepIn K (.ref fadd) = true)
    (iadd : PySem.W.isFn K (.ref fadd) = true)
    (aradd : PySem.W.findIn K (.ref CR) "__radd__" = some (some (.ref fradd)))
    (lradd : K.lookup fradd = some ⟨ocradd, odradd, .func (PySem.W.fnOf "__radd__" "Ratio.__radd__" (defArgs s_rradd) (defBody s_rradd) (defScope s_rradd) .none kVradd dcradd pmradd anradd cdradd ctradd), slradd⟩)
    (cradd : PySem.W.codeIn K cdradd "Ratio.__radd__" = true)
    (kradd : PySem.W.keepIn K (.ref fradd) = true)
    (iradd : PySem.W.isFn K (.ref fradd) = true)
    (asub : PySem.W.findIn K (.ref CR) "__sub__" = some (some (.ref fsub)))
    (lsub : K.lookup fsub = some ⟨ocsub, odsub, .func (PySem.W.fnOf "__sub__" "Ratio.__sub__" (defArgs s_rsub) (defBody s_rsub) (defScope s_rsub) .none kVsub dcsub pmsub ansub cdsub ctsub), slsub⟩)
    (csub : PySem.W.codeIn K cdsub "Ratio.__sub__" = true)
    (ksub : PySem.W.keepIn K (.ref fsub) = true)
    (isub : PySem.W.isFn K (.ref fsub) = true)
    (arsub : PySem.W.findIn K (.ref CR) "__rsub__" = some (some (.ref frsub)))
    (lrsub : K.lookup frsub = some ⟨ocrsub, odrsub, .func (PySem.W.fnOf "__rsub__" "Ratio.__rsub__" (defArgs s_rrsub) (defBody s_rrsub) (defScope s_rrsub) .none kVrsub dcrsub pmrsub anrsub cdrsub ctrsub), slrsub⟩)
    (crsub : PySem.W.codeIn K cdrsub "Ratio.__rsub__" = true)
    (krsub : PySem.W.keepIn K (.ref frsub) = true)
    (irsub : PySem.W.isFn K (.ref frsub) = true)
    (amul : PySem.W.findIn K (.ref CR) "__mul__" = some (some (.ref fmul)))
    (lmul : K.lookup fmul = some ⟨ocmul, odmul, .func (PySem.W.fnOf "__mul__" "Ratio.__mul__" (defArgs s_rmul) (defBody s_rmul) (defScope s_rmul) .none kVmul dcmul pmmul anmul cdmul ctmul), slmul⟩)
    (cmul : PySem.W.codeIn K cdmul "Ratio.__mul__" = true)
    (kmul : PySem.W.keepIn K (.ref fmul) = true)
    (imul : PySem.W.isFn K (.ref fmul) = true)
    (armul : PySem.W.findIn K (.ref CR) "__rmul__" = some (some (.ref frmul)))
    (lrmul : K.lookup frmul = some ⟨ocrmul, odrmul, .func (PySem.W.fnOf "__rmul__" "Ratio.__rmul__" (defArgs s_rrmul) (defBody s_rrmul) (defScope s_rrmul) .none kVrmul dcrmul pmrmul anrmul cdrmul ctrmul), slrmul⟩)
    (crmul : PySem.W.codeIn K cdrmul "Ratio.__rmul__" = true)
    (krmul : PySem.W.keepIn K (.ref frmul) = true)
    (irmul : PySem.W.isFn K (.ref frmul) = true)
    (aneg : PySem.W.findIn K (.ref CR) "__neg__" = some (some (.ref fneg)))
    (lneg : K.lookup fneg = some ⟨ocneg, odneg, .func (PySem.W.fnOf "__neg__" "Ratio.__neg__" (defArgs s_rneg) (defBody s_rneg) (defScope s_rneg) .none kVneg dcneg pmneg anneg cdneg ctneg), slneg⟩)
    (cneg : PySem.W.codeIn K cdneg "Ratio.__neg__" = true)
    (kneg : PySem.W.keepIn K (.ref fneg) = true)
    (ineg : PySem.W.isFn K (.ref fneg) = true)
    (aover : PySem.W.findIn K (.ref CR) "over" = some (some (.ref fover)))
    (lover : K.lookup fover = some ⟨ocover, odover, .func (PySem.W.fnOf "over" "Ratio.over" (defArgs s_rover) (defBody s_rover) (defScope s_rover) .none kVover dcover pmover anover cdover ctover), slover⟩)
    (cover : PySem.W.codeIn K cdover "Ratio.over" = true)
    (kover : PySem.W.keepIn K (.ref fover) = true)
    (iover : PySem.W.isFn K (.ref fover) = true)
    (adbot : PySem.W.nsIn K mainGlobals "_law_draw_bottom" = some (some (.ref fdbot)))
    (ldbot : K.lookup fdbot = some ⟨ocdbot, oddbot, .func (PySem.W.fnOf "_law_draw_bottom" "_law_draw_bottom" (defArgs s_dbot) (defBody s_dbot) (defScope s_dbot) .none kVdbot dcdbot pmdbot andbot cddbot ctdbot), sldbot⟩)
    (cdbot : PySem.W.codeIn K cddbot "_law_draw_bottom" = true)
    (kdbot : PySem.W.keepIn K (.ref fdbot) = true)
    (ais : PySem.W.nsIn K mainGlobals "_law_is" = some (some (.ref fis)))
    (lis : K.lookup fis = some ⟨ocis, odis, .func (PySem.W.fnOf "_law_is" "_law_is" (defArgs s_is) (defBody s_is) (defScope s_is) .none kVis dcis pmis anis cdis ctis), slis⟩)
    (cis : PySem.W.codeIn K cdis "_law_is" = true)
    (kis : PySem.W.keepIn K (.ref fis) = true)
    (azero : PySem.W.nsIn K mainGlobals "_law_zero" = some (some (.ref fzero)))
    (lzero : K.lookup fzero = some ⟨oczero, odzero, .func (PySem.W.fnOf "_law_zero" "_law_zero" (defArgs s_zero) (defBody s_zero) (defScope s_zero) .none kVzero dczero pmzero anzero cdzero ctzero), slzero⟩)
    (czero : PySem.W.codeIn K cdzero "_law_zero" = true)
    (kzero : PySem.W.keepIn K (.ref fzero) = true)
    (ala : PySem.W.nsIn K mainGlobals "law" = some (some (.ref fla)))
    (lla : K.lookup fla = some ⟨ocla, odla, .func (PySem.W.fnOf "law" "law" (defArgs s_law) (defBody s_law) (defScope s_law) .none kVla dcla pmla anla cdla ctla), slla⟩)
    (cla : PySem.W.codeIn K cdla "law" = true)
    (kla : PySem.W.keepIn K (.ref fla) = true)
    (w_int : PySem.W.subIn K (.type "int") (.ref CR) = some false)
    (nf_int : PySem.W.notFirst K CR (.type "int") = true)
    (w_str : PySem.W.subIn K (.type "str") (.ref CR) = some false)
    (nf_str : PySem.W.notFirst K CR (.type "str") = true)
    (w_NoneType : PySem.W.subIn K (.type "NoneType") (.ref CR) = some false)
    (nf_NoneType : PySem.W.notFirst K CR (.type "NoneType") = true)
    (sf0 : PySem.W.selfFirst K CR = true)
    (mro1 : PySem.W.clsIn K CR = some cdR)
    (mro2 : cdR.mro = [.ref CR, .type "object"])
    (i1add : PySem.W.findIn K (.type "int") "__add__" = some foadd)
    (i2add : PySem.W.findIn K (.type "int") "__radd__" = some roadd)
    (i3add : PySem.W.findIn K (.ref CR) "__iadd__" = some none)
    (i4add : PySem.W.findIn K (.type "object") "__iadd__" = some none)
    (i1sub : PySem.W.findIn K (.type "int") "__sub__" = some fosub)
    (i2sub : PySem.W.findIn K (.type "int") "__rsub__" = some rosub)
    (i3sub : PySem.W.findIn K (.ref CR) "__isub__" = some none)
    (i4sub : PySem.W.findIn K (.type "object") "__isub__" = some none)
    (i1mul : PySem.W.findIn K (.type "int") "__mul__" = some fomul)
    (i2mul : PySem.W.findIn K (.type "int") "__rmul__" = some romul)
    (i3mul : PySem.W.findIn K (.ref CR) "__imul__" = some none)
    (i4mul : PySem.W.findIn K (.type "object") "__imul__" = some none) :
    ∃ fd : FuncData, (∀ (s : Shared) (v : Value), BindsTo s fd ⟨[v], []⟩ [("_law_script", v)]) ∧ ∀ base : Heap, K.In base → base.Ns mainGlobals mg → FnOk P w K mg base CX0 10 fa fd ["_law_script"] (spLaw K) := by
  have e := hfa.symm.trans (PySem.W.mg_of X G ala)
  cases e
  have m_S : mg "SeriesError" = some (.ref CS) := PySem.W.mg_of X G aS
  have m_N : mg "NoRatio" = some (.ref CN) := PySem.W.mg_of X G aN
  have F_NI := fun_mk (st := s_noRatioInit) lNI cNI kNI
  have b_NI := F_NI.binds (ps := ["self", "word"]) fun _ _ _ _ _ _ us hl => match us, hl with | [_, _], _ => rfl
  have NN : NTx K mg CN fNI := ⟨⟨⟨nmN, qN, NaN, bsN, _, snN, subN, abN, colN, ddN, m0N, m1N, m2N, m3N, m5N, xLN, rfl⟩, x1N, x2N, x3N, x4N⟩, x5N, aNI, x6N⟩
  have teN := PySem.W.exm_ref x2N y8N x3N x7N
  have xfN : XfC K CN := ⟨y2N, y3N, x2N, y8N⟩
  have eiN : EIx K CN := ⟨cls_some y8N, y2N, y3N, x2N, y4N, y5, y6, y7N⟩
  have F_II := fun_mk (st := s_isint) lII cII kII
  have b_II := F_II.binds (ps := ["value"]) fun _ _ _ _ _ _ us hl => match us, hl with | [_], _ => rfl
  have m_II : mg "is_an_integer" = some (.ref fII) := PySem.W.mg_of X G aII
  have m_R : mg "Ratio" = some (.ref CR) := PySem.W.mg_of X G aR
  have F_RI : FunD K "__init__" "Ratio.__init__" (defArgs s_ratioInit) (defBody s_ratioInit) (defScope s_ratioInit) [.int 1] [] fRI _ := ⟨⟨_, _, _, _, _, _, _, _, _, _, rfl, lRI, cRI, .inr ⟨by simp, dRI, _, [Value.int 1 tkRI], nRI, rfl, eRI, rfl, .cons ⟨_, rfl⟩ .nil⟩, .inl rfl⟩, kRI⟩
  have T : CTx K CR := ⟨⟨pgR, hdR, poR, saR⟩, nR_top, nR_bottom⟩
  have Y : ITy K CR := ⟨q1R, y5, y6, q2R, kit_ty2 (by decide +kernel) w3, kit_ty2 (by decide +kernel) w4⟩
  have GT : GTx mg CN := ⟨PySem.W.mg_of X G g_gcd, m_N⟩
  obtain ⟨ds0, v0, b_R⟩ := F_RI.binds1 (ps := ["self", "top", "bottom"]) 3 1 (by simp) rfl fun _ _ _ _ _ _ _ us its hl hi => match us, its, hl, hi with | [_, _, _], [_], _, _ => ⟨_, rfl, rfl⟩
  cases v0
  obtain ⟨ds1, v1, b_R1⟩ := F_RI.binds1 (ps := ["self", "top", "bottom"]) 2 0 (by simp) rfl fun _ _ _ _ _ _ _ us its hl hi => match us, its, hl, hi with | [_, _], [_], _, _ => ⟨_, rfl, rfl⟩
  have M : Mk K CR fRI := ⟨mkR, aRI, iRI, kcR⟩
  have z_len := PySem.W.mg_none_of X G z_len
  have z_abs := PySem.W.mg_none_of X G z_abs
  have z_int := PySem.W.mg_none_of X G z_int
  have z_range := PySem.W.mg_none_of X G z_range
  have z_isinstance := PySem.W.mg_none_of X G z_isinstance
  have z_bool := PySem.W.mg_none_of X G z_bool
  have D : DTx mg := ⟨z_len, z_abs, z_int, z_range⟩
  have I : ITx mg := ⟨z_isinstance, z_int, z_bool⟩
  have F_state := fun_mk (st := s_state) lstate cstate kstate
  have b_state := F_state.binds (ps := ["_law_script"]) fun _ _ _ _ _ _ us hl => match us, hl with | [_], _ => rfl
  have m_state : mg "_law_state" = some (.ref fstate) := PySem.W.mg_of X G astate
  have F_draw := fun_mk (st := s_draw) ldraw cdraw kdraw
  have b_draw := F_draw.binds (ps := ["_law_state_here", "_law_many"]) fun _ _ _ _ _ _ us hl => match us, hl with | [_, _], _ => rfl
  have m_draw : mg "_law_draw" = some (.ref fdraw) := PySem.W.mg_of X G adraw
  have F_gcd := fun_mk (st := s_gcd) lgcd cgcd kgcd
  have b_gcd := F_gcd.binds (ps := ["_law_one", "_law_other"]) fun _ _ _ _ _ _ us hl => match us, hl with | [_, _], _ => rfl
  have m_gcd : mg "_law_gcd" = some (.ref fgcd) := PySem.W.mg_of X G agcd
  have F_lisint := fun_mk (st := s_lisint) llisint clisint klisint
  have b_lisint := F_lisint.binds (ps := ["_law_told"]) fun _ _ _ _ _ _ us hl => match us, hl with | [_], _ => rfl
  have m_lisint : mg "_law_is_integer" = some (.ref flisint) := PySem.W.mg_of X G alisint
  have F_great := fun_mk (st := s_great) lgreat cgreat kgreat
  have b_great := F_great.binds (ps := ["_law_state_here"]) fun _ _ _ _ _ _ us hl => match us, hl with | [_], _ => rfl
  have m_great : mg "_law_great" = some (.ref fgreat) := PySem.W.mg_of X G agreat
  have F_isnum := fun_mk (st := s_isnum) lisnum cisnum kisnum
  have b_isnum := F_isnum.binds (ps := ["value"]) fun _ _ _ _ _ _ us hl => match us, hl with | [_], _ => rfl
  have m_isnum : mg "is_number" = some (.ref fisnum) := PySem.W.mg_of X G aisnum
  have F_asr := fun_mk (st := s_asratio) lasr casr kasr
  have b_asr := F_asr.binds (ps := ["number"]) fun _ _ _ _ _ _ us hl => match us, hl with | [_], _ => rfl
  have m_asr : mg "as_ratio" = some (.ref fasr) := PySem.W.mg_of X G aasr
  have F_eq := fun_mk (st := s_req) leq ceq keq
  have b_eq := F_eq.binds (ps := ["self", "other"]) fun _ _ _ _ _ _ us hl => match us, hl with | [_, _], _ => rfl
  have F_add := fun_mk (st := s_radd) ladd cadd kadd
  have b_add := F_add.binds (ps := ["self", "other"]) fun _ _ _ _ _ _ us hl => match us, hl with | [_, _], _ => rfl
  have F_radd := fun_mk (st := s_rradd) lradd cradd kradd
  have b_radd := F_radd.binds (ps := ["self", "other"]) fun _ _ _ _ _ _ us hl => match us, hl with | [_, _], _ => rfl
  have F_sub := fun_mk (st := s_rsub) lsub csub ksub
  have b_sub := F_sub.binds (ps := ["self", "other"]) fun _ _ _ _ _ _ us hl => match us, hl with | [_, _], _ => rfl
  have F_rsub := fun_mk (st := s_rrsub) lrsub crsub krsub
  have b_rsub := F_rsub.binds (ps := ["self", "other"]) fun _ _ _ _ _ _ us hl => match us, hl with | [_, _], _ => rfl
  have F_mul := fun_mk (st := s_rmul) lmul cmul kmul
  have b_mul := F_mul.binds (ps := ["self", "other"]) fun _ _ _ _ _ _ us hl => match us, hl with | [_, _], _ => rfl
  have F_rmul := fun_mk (st := s_rrmul) lrmul crmul krmul
  have b_rmul := F_rmul.binds (ps := ["self", "other"]) fun _ _ _ _ _ _ us hl => match us, hl with | [_, _], _ => rfl
  have F_neg := fun_mk (st := s_rneg) lneg cneg kneg
  have b_neg := F_neg.binds (ps := ["self"]) fun _ _ _ _ _ _ us hl => match us, hl with | [_], _ => rfl
  have F_over := fun_mk (st := s_rover) lover cover kover
  have b_over := F_over.binds (ps := ["self", "other"]) fun _ _ _ _ _ _ us hl => match us, hl with | [_, _], _ => rfl
  have F_dbot := fun_mk (st := s_dbot) ldbot cdbot kdbot
  have b_dbot := F_dbot.binds (ps := ["_law_state_here"]) fun _ _ _ _ _ _ us hl => match us, hl with | [_], _ => rfl
  have m_dbot : mg "_law_draw_bottom" = some (.ref fdbot) := PySem.W.mg_of X G adbot
  have F_is := fun_mk (st := s_is) lis cis kis
  have b_is := F_is.binds (ps := ["_law_told", "_law_top", "_law_bottom"]) fun _ _ _ _ _ _ us hl => match us, hl with | [_, _, _], _ => rfl
  have m_is : mg "_law_is" = some (.ref fis) := PySem.W.mg_of X G ais
  have F_zero := fun_mk (st := s_zero) lzero czero kzero
  have b_zero := F_zero.binds (ps := ["_law_one", "_law_other"]) fun _ _ _ _ _ _ us hl => match us, hl with | [_, _], _ => rfl
  have m_zero : mg "_law_zero" = some (.ref fzero) := PySem.W.mg_of X G azero
  have F_la := fun_mk (st := s_law) lla cla kla
  have b_la := F_la.binds (ps := ["_law_script"]) fun _ _ _ _ _ _ us hl => match us, hl with | [_], _ => rfl
  have Z : KZx K CR := ⟨kit_tyo hdR q3R w_int, kit_tyo hdR q3R w_str, kit_tyo hdR q3R w_NoneType⟩
  have MO : MroOk K CR cdR := ⟨mro1, mro2⟩
  have d_add : PySem.dunder Operator.Add.info.2 = ("__add__" : Str) := by decide +kernel
  have dr_add : dunderR Operator.Add.info.2 = ("__radd__" : Str) := by decide +kernel
  have di_add : dunderI Operator.Add.info.2 = ("__iadd__" : Str) := by decide +kernel
  have O_add : OwnOp K CR fadd (PySem.dunder Operator.Add.info.2) := ⟨by rw [d_add]; exact aadd, iadd⟩
  have N_add : IntOp K CR Operator.Add.info.2 := ⟨⟨_, by rw [d_add]; exact i1add⟩, ⟨_, by rw [dr_add]; exact i2add⟩, w_int, ⟨_, by rw [dr_add]; exact aradd⟩⟩
  have V_add : RevOp K CR fadd fradd Operator.Add.info.2 := ⟨by rw [d_add]; exact aadd, by rw [dr_add]; exact aradd, iradd, w3⟩
  have NI_add : NoIn K CR Operator.Add.info.2 := ⟨by rw [di_add]; exact i3add, by rw [di_add]; exact i4add⟩
  have d_sub : PySem.dunder Operator.Sub.info.2 = ("__sub__" : Str) := by decide +kernel
  have dr_sub : dunderR Operator.Sub.info.2 = ("__rsub__" : Str) := by decide +kernel
  have di_sub : dunderI Operator.Sub.info.2 = ("__isub__" : Str) := by decide +kernel
  have O_sub : OwnOp K CR fsub (PySem.dunder Operator.Sub.info.2) := ⟨by rw [d_sub]; exact asub, isub⟩
  have N_sub : IntOp K CR Operator.Sub.info.2 := ⟨⟨_, by rw [d_sub]; exact i1sub⟩, ⟨_, by rw [dr_sub]; exact i2sub⟩, w_int, ⟨_, by rw [dr_sub]; exact arsub⟩⟩
  have V_sub : RevOp K CR fsub frsub Operator.Sub.info.2 := ⟨by rw [d_sub]; exact asub, by rw [dr_sub]; exact arsub, irsub, w3⟩
  have NI_sub : NoIn K CR Operator.Sub.info.2 := ⟨by rw [di_sub]; exact i3sub, by rw [di_sub]; exact i4sub⟩
  have d_mul : PySem.dunder Operator.Mult.info.2 = ("__mul__" : Str) := by decide +kernel
  have dr_mul : dunderR Operator.Mult.info.2 = ("__rmul__" : Str) := by decide +kernel
  have di_mul : dunderI Operator.Mult.info.2 = ("__imul__" : Str) := by decide +kernel
  have O_mul : OwnOp K CR fmul (PySem.dunder Operator.Mult.info.2) := ⟨by rw [d_mul]; exact amul, imul⟩
  have N_mul : IntOp K CR Operator.Mult.info.2 := ⟨⟨_, by rw [d_mul]; exact i1mul⟩, ⟨_, by rw [dr_mul]; exact i2mul⟩, w_int, ⟨_, by rw [dr_mul]; exact armul⟩⟩
  have V_mul : RevOp K CR fmul frmul Operator.Mult.info.2 := ⟨by rw [d_mul]; exact amul, by rw [dr_mul]; exact armul, irmul, w3⟩
  have NI_mul : NoIn K CR Operator.Mult.info.2 := ⟨by rw [di_mul]; exact i3mul, by rw [di_mul]; exact i4mul⟩
  refine ⟨PySem.W.fnOf "law" "law" (defArgs s_law) (defBody s_law) (defScope s_law) .none kVla dcla pmla anla cdla ctla, fun s v => .of_eq rfl, fun base _ _ => ?_⟩
  have G_NI := ok_noRatioInit (P := P) (w := w) (mg := mg) (base := base) F_NI NN
  have G_II := ok_isint (P := P) (w := w) (base := base) F_II I
  have G_R := ok_ratioInit (P := P) (w := w) (base := base) F_RI T NN GT G_NI b_NI G_II m_II kII b_II
  have G_draw := ok_draw (P := P) (w := w) (base := base) F_draw D
  have G_state := ok_state (P := P) (w := w) (base := base) F_state D
  have G_gcd := ok_gcd (P := P) (w := w) (base := base) F_gcd D
  have G_lisint := ok_lisint (P := P) (w := w) (base := base) F_lisint I
  have G_great := ok_great (P := P) (w := w) (base := base) F_great D G_draw m_draw kdraw b_draw
  have G_isnum := ok_isnum (P := P) (w := w) (base := base) F_isnum I m_R G_II m_II kII b_II
  have G_asr := ok_asratio (P := P) (w := w) (base := base) F_asr T Y Z I m_R M G_R b_R1 v1
  have G_add := ok_radd (P := P) (w := w) (base := base) F_add T Y Z m_R M G_R b_R G_isnum m_isnum kisnum b_isnum G_asr m_asr kasr b_asr
  have G_sub := ok_rsub (P := P) (w := w) (base := base) F_sub T Y Z m_R M G_R b_R G_isnum m_isnum kisnum b_isnum G_asr m_asr kasr b_asr
  have G_mul := ok_rmul (P := P) (w := w) (base := base) F_mul T Y Z m_R M G_R b_R G_isnum m_isnum kisnum b_isnum G_asr m_asr kasr b_asr
  have G_radd := ok_rradd (P := P) (w := w) (base := base) F_radd T Y Z sf0 G_isnum m_isnum kisnum b_isnum O_add N_add G_add b_add
  have G_rmul := ok_rrmul (P := P) (w := w) (base := base) F_rmul T Y Z sf0 G_isnum m_isnum kisnum b_isnum O_mul N_mul G_mul b_mul
  have G_rsub := ok_rrsub (P := P) (w := w) (base := base) F_rsub T Y Z sf0 G_isnum m_isnum kisnum b_isnum G_asr m_asr kasr b_asr O_sub G_sub b_sub
  have G_neg := ok_rneg (P := P) (w := w) (base := base) F_neg T Y Z m_R M G_R b_R
  have G_over := ok_rover (P := P) (w := w) (base := base) F_over T Y Z m_R M G_R b_R G_asr m_asr kasr b_asr
  have G_eq := ok_req (P := P) (w := w) (base := base) F_eq T Y Z I m_R G_II m_II kII b_II
  have Me_over : Meth K CR "over" fover := ⟨aover, iover, kover⟩
  have G_dbot := ok_dbot (P := P) (w := w) (base := base) F_dbot G_great b_great m_great kgreat
  have G_is := ok_is (P := P) (w := w) (base := base) F_is T Y I m_R G_lisint b_lisint m_lisint klisint G_gcd b_gcd m_gcd kgcd
  have G_zero := ok_zero (P := P) (w := w) (base := base) F_zero T NN m_N teN xfN Me_over G_over b_over
  exact ok_law F_la T Y Z m_R M sf0 MO (by simp [PySem.W.notFirst]) nf_int nf_str nf_NoneType G_R b_R G_state b_state m_state kstate G_draw b_draw m_draw kdraw G_great b_great m_great kgreat G_dbot b_dbot m_dbot kdbot G_is b_is m_is kis G_zero b_zero m_zero kzero G_add b_add O_add N_add V_add NI_add G_radd b_radd G_sub b_sub O_sub N_sub V_sub NI_sub G_rsub b_rsub G_mul b_mul O_mul N_mul V_mul NI_mul G_rmul b_rmul G_neg b_neg ⟨aneg, ineg⟩ G_over b_over Me_over G_eq b_eq ⟨aeq, ieq⟩
theorem walk {l : PySem.W.OpenLaw} {q : Program} {loose : List Str} {XP : (Str → Option Value) → Heap → Prop} {YP : World → Heap → Prop} {d : DefRec} {K : Params → PySem.W.Frag} (hn : l.most = some 63) (hdf : d.params.defaults = [])
    (hY : ∀ (w : World) (h : Heap), YP w h → (K w.params).In h)
    (F : ∀ (w : World) (mg : Str → Option Value) (fa : Addr) (h : Heap), (K w.params).In h → h.Ns mainGlobals mg → mg d.name = some (.ref fa) →
      ∃ fd : FuncData, (∀ (s : Shared) (u : Value), BindsTo s fd ⟨[u], []⟩ [("_law_script", u)]) ∧ ∀ base : Heap, (K w.params).In base → base.Ns mainGlobals mg → FnOk l.prog w (K w.params) mg base CX0 10 fa fd ["_law_script"] (spLaw (K w.params))) :
    PySem.W.WalkO q loose XP YP l.row.toRowW d [] (fun f vs => PySem.call f vs) :=
  L2.walk_of (n := 63) (k := 10) (x := "_law_script") (CX := fun _ => CX0) (sp := fun w => spLaw (K w.params)) hn (by decide) hdf ⟨rfl, by decide, by decide⟩ hY F (fun _ _ a ns hl _ hS => ⟨a, ns, rfl, hS, hl, fun _ => rfl⟩) fun _ _ _ _ _ z => z
end Sq

open PySem PySem.W PyProof.Rows
set_option maxRecDepth 100000 in
set_option maxHeartbeats 0 in
theorem PySem.Challenge.cw_seriessquares_k02_ratio_arithmetic_holds : PySem.Challenge.rw_seriessquares_k02_ratio_arithmetic.Holds := by
  w_on; o_law; k_head; (case hw => w_witness2)
  k_fill
  refine Sq.walk (l := PySem.Challenge.rw_seriessquares_k02_ratio_arithmetic) rfl rfl (fun w h Y => PySem.W.kIn_of Y) ?F
  case F =>
    intro w mg fa h KX G hmg
    refine' Sq.all_mk KX G hmg ?aS ?x3S ?y8S ?aN ?x3N ?y8N ?aNI ?lNI ?cNI ?kNI ?iNI ?y5 ?y6 ?xLN ?x1N ?x2N ?x4N ?x5N ?x6N ?x7N ?x8N ?x9N ?y2N ?y3N ?y4N ?y7N ?aII ?lII ?cII ?kII ?aR ?pgR ?hdR ?poR ?saR ?mkR ?kcR ?nR_top ?nR_bottom ?q1R ?q2R ?q3R ?aRI ?lRI ?cRI ?kRI ?iRI ?eRI ?w3 ?w4 ?g_gcd ?z_len ?z_abs ?z_int ?z_range ?z_isinstance ?z_bool ?astate ?lstate ?cstate ?kstate ?adraw ?ldraw ?cdraw ?kdraw ?agcd ?lgcd ?cgcd ?kgcd ?alisint ?llisint ?clisint ?klisint ?agreat ?lgreat ?cgreat ?kgreat ?aisnum ?lisnum ?cisnum ?kisnum ?aasr ?lasr ?casr ?kasr ?aeq ?leq ?ceq ?keq ?ieq ?aadd ?ladd ?cadd ?kadd ?iadd ?aradd ?lradd ?cradd ?kradd ?iradd ?asub ?lsub ?csub ?ksub ?isub ?arsub ?lrsub ?crsub ?krsub ?irsub ?amul ?lmul ?cmul ?kmul ?imul ?armul ?lrmul ?crmul ?krmul ?irmul ?aneg ?lneg ?cneg ?kneg ?ineg ?aover ?lover ?cover ?kover ?iover ?adbot ?ldbot ?cdbot ?kdbot ?ais ?lis ?cis ?kis ?azero ?lzero ?czero ?kzero ?ala ?lla ?cla ?kla ?w_int ?nf_int ?w_str ?nf_str ?w_NoneType ?nf_NoneType ?sf0 ?mro1 ?mro2 ?i1add ?i2add ?i3add ?i4add ?i1sub ?i2sub ?i3sub ?i4sub ?i1mul ?i2mul ?i3mul ?i4mul
    (case aS => k_is)
    (case x3S => k_is)
    (case y8S => k_is)
    (case aN => k_is)
    (case x3N => k_is)
    (case y8N => k_is)
    (case aNI => k_is)
    (case lNI => k_is)
    (case cNI => k_is)
    (case kNI => k_is)
    (case iNI => k_is)
    (case y5 => k_is)
    (case y6 => k_is)
    (case xLN => k_is)
    (case x1N => k_is)
    (case x2N => k_is)
    (case x4N => k_is)
    (case x5N => k_is)
    (case x6N => k_is)
    (case x7N => k_is)
    (case x8N => k_is)
    (case x9N => k_is)
    (case y2N => k_is)
    (case y3N => k_is)
    (case y4N => k_is)
    (case y7N => k_is)
    (case aII => k_is)
    (case lII => k_is)
    (case cII => k_is)
    (case kII => k_is)
    (case aR => k_is)
    (case pgR => k_is)
    (case hdR => k_is)
    (case poR => k_is)
    (case saR => k_is)
    (case mkR => k_is)
    (case kcR => k_is)
    (case nR_top => k_is)
    (case nR_bottom => k_is)
    (case q1R => k_is)
    (case q2R => k_is)
    (case q3R => k_is)
    (case aRI => k_is)
    (case lRI => k_is)
    (case cRI => k_is)
    (case kRI => k_is)
    (case iRI => k_is)
    (case eRI => k_is)
    (case w3 => k_is)
    (case w4 => k_is)
    (case g_gcd => k_is)
    (case z_len => k_is)
    (case z_abs => k_is)
    (case z_int => k_is)
    (case z_range => k_is)
    (case z_isinstance => k_is)
    (case z_bool => k_is)
    (case astate => k_is)
    (case lstate => k_is)
    (case cstate => k_is)
    (case kstate => k_is)
    (case adraw => k_is)
    (case ldraw => k_is)
    (case cdraw => k_is)
    (case kdraw => k_is)
    (case agcd => k_is)
    (case lgcd => k_is)
    (case cgcd => k_is)
    (case kgcd => k_is)
    (case alisint => k_is)
    (case llisint => k_is)
    (case clisint => k_is)
    (case klisint => k_is)
    (case agreat => k_is)
    (case lgreat => k_is)
    (case cgreat => k_is)
    (case kgreat => k_is)
    (case aisnum => k_is)
    (case lisnum => k_is)
    (case cisnum => k_is)
    (case kisnum => k_is)
    (case aasr => k_is)
    (case lasr => k_is)
    (case casr => k_is)
    (case kasr => k_is)
    (case aeq => k_is)
    (case leq => k_is)
    (case ceq => k_is)
    (case keq => k_is)
    (case ieq => k_is)
    (case aadd => k_is)
    (case ladd => k_is)
    (case cadd => k_is)
    (case kadd => k_is)
    (case iadd => k_is)
    (case aradd => k_is)
    (case lradd => k_is)
    (case cradd => k_is)
    (case kradd => k_is)
    (case iradd => k_is)
    (case asub => k_is)
    (case lsub => k_is)
    (case csub => k_is)
    (case ksub => k_is)
    (case isub => k_is)
    (case arsub => k_is)
    (case lrsub => k_is)
    (case crsub => k_is)
    (case krsub => k_is)
    (case irsub => k_is)
    (case amul => k_is)
    (case lmul => k_is)
    (case cmul => k_is)
    (case kmul => k_is)
    (case imul => k_is)
    (case armul => k_is)
    (case lrmul => k_is)
    (case crmul => k_is)
    (case krmul => k_is)
    (case irmul => k_is)
    (case aneg => k_is)
    (case lneg => k_is)
    (case cneg => k_is)
    (case kneg => k_is)
    (case ineg => k_is)
    (case aover => k_is)
    (case lover => k_is)
    (case cover => k_is)
    (case kover => k_is)
    (case iover => k_is)
    (case adbot => k_is)
    (case ldbot => k_is)
    (case cdbot => k_is)
    (case kdbot => k_is)
    (case ais => k_is)
    (case lis => k_is)
    (case cis => k_is)
    (case kis => k_is)
    (case azero => k_is)
    (case lzero => k_is)
    (case czero => k_is)
    (case kzero => k_is)
    (case ala => k_is)
    (case lla => k_is)
    (case cla => k_is)
    (case kla => k_is)
    (case w_int => k_is)
    (case nf_int => k_is)
    (case w_str => k_is)
    (case nf_str => k_is)
    (case w_NoneType => k_is)
    (case nf_NoneType => k_is)
    (case sf0 => k_is)
    (case mro1 => k_is)
    (case mro2 => rfl)
    (case i1add => k_is)
    (case i2add => k_is)
    (case i3add => k_is)
    (case i4add => k_is)
    (case i1sub => k_is)
    (case i2sub => k_is)
    (case i3sub => k_is)
    (case i4sub => k_is)
    (case i1mul => k_is)
    (case i2mul => k_is)
    (case i3mul => k_is)
    (case i4mul => k_is)

