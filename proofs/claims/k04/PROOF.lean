import PyProof.Rows.All
import Wide.All
import OpenK.AllK
import Wide.FinOn
import HandS.ForMost
import HandS.ForExc
import HandS.Codes
import HandS.Wide
import HandS.Gcd
import HandS.Flow
import HandS.IsInst
import HandS.ExcInit
import HandS.ExcField
import HandS.ExcIs
import HandS.Defaults
import HandS.MakeKw
import HandS.MakeKwOnly
import HandS.TryOnly
import HandS.EndBits
import KE.KExcIs
import KE.KOpsOwn
import PySem.Challenge.RW_seriessquares_k04_fields
set_option Elab.async false
set_option linter.all false
set_option maxRecDepth 100000
set_option maxHeartbeats 4000000
namespace Sq
open PySem L2
def top (i : Nat) : Stmt := PySem.Challenge.pw_seriessquares_k04_fields.main.body.getD i (.Pass ⟨0, 0, 0, 0⟩)
abbrev s_state : Stmt := top 21
abbrev s_draw : Stmt := top 22
abbrev s_gcd : Stmt := top 23
abbrev s_lisint : Stmt := top 24
abbrev s_great : Stmt := top 25
/-- the heap stands but at p -/
def But (p : Addr) (H H' : Hp) : Prop := ∀ b o, H b = some o → b ≠ p → H' b = some o
theorem But.refl (p : Addr) (H : Hp) : But p H H := fun _ _ h _ => h
theorem But.trans {p : Addr} {H H1 H2 : Hp} (a : But p H H1) (b : But p H1 H2) : But p H H2 := fun c o h n => b c o (a c o h n) n
theorem But.upd {p : Addr} {H H1 : Hp} {o : HO} (a : But p H H1) : But p H (upd H1 p o) := fun c u h n => (upd_ne n).trans (a c u h n)
theorem But.new {p q : Addr} {H H1 : Hp} {o : HO} (a : But p H H1) (n : H1 q = none) : But p H (L2.upd H1 q o) := fun c u h nc => (upd_ne (ne_of_none (a c u h nc) n)).trans (a c u h nc)
theorem Same.but {p : Addr} {H H1 : Hp} (a : Same H H1) : But p H H1 := fun c u h _ => a c u h
/-- the five things of the state, and the script's ints -/
def St5 (H : Hp) (p a : Addr) (ns : List Int) (i l m c : Int) : Prop := H p = some (.lst [.ref a, .int i, .int l, .int m, .int c]) ∧ H a = some (.lst (ns.map V.int)) ∧ a ≠ p ∧ 0 ≤ i ∧ 0 ≤ m ∧ m < 2147483648
def StAt (H : Hp) (p : Addr) : Prop := ∃ a ns i l m c, St5 H p a ns i l m c
def spDraw : Sp := fun vs H Q _ => ∃ (p : Addr) (n : Int), vs = [.ref p, .int n] ∧ 0 < n ∧ n < 1073741824 ∧ StAt H p ∧ ∀ v H', 0 ≤ v → v < n → StAt H' p → But p H H' → Q (.int v) H'
theorem St5.set {H : Hp} {p a : Addr} {ns : List Int} {i l m c : Int} (S : St5 H p a ns i l m c) {i' l' m' c' : Int} (h0 : 0 ≤ i') (h1 : 0 ≤ m') (h2 : m' < 2147483648) :
    St5 (upd H p (.lst [.ref a, .int i', .int l', .int m', .int c'])) p a ns i' l' m' c' := ⟨upd_same, (upd_ne S.2.2.1).trans S.2.1, S.2.2.1, h0, h1, h2⟩
structure DTx (mg : Str → Option Value) : Prop where
  b_len : mg "len" = none
  b_abs : mg "abs" = none
  b_int : mg "int" = none
  b_range : mg "range" = none
section
variable {P : Program} {w : World} {K : PySem.W.Frag} {mg : Str → Option Value} {base : Heap}
theorem sc_draw : FnScope ["_law_state_here", "_law_many", "_law_item", "_law_found", "_law_twice"] ["_law_state_here", "_law_many"] (defScope s_draw) := ⟨rfl, rfl, rfl, by decide +kernel, rfl, by decide +kernel, by decide +kernel⟩
theorem ok_draw {f : Addr} {fd : FuncData} (F : Fun K "_law_draw" "_law_draw" s_draw f fd) (T : DTx mg) : FnOk P w K mg base CX0 1 f fd ["_law_state_here", "_law_many"] spDraw := by
  refine F.ok sc_draw (fun vs H Q E h => ?_) (fun cdv A outer s H vs Q E hr h => ?_)
  · obtain ⟨p, n, rfl, _⟩ := h
    rfl
  · obtain ⟨p, n, rfl, hn0, hn1, ⟨a, ns, i, l, m, c, S⟩, k⟩ := h
    refine ⟨_, (C8.pss_cut (ps_asg (pe_op op_add (pe_ix ix_list (pv 0) pe_int (fun _ _ => rfl)) pe_int) (pg_sub (pv 0) pe_int set_list))
      (C8.pss_cut (ps_if (PW.pt (pw_and (pt_cmpR op_le (pe_ix ix_list (pv 0) pe_int (fun _ _ => rfl)) pe_int (nomark _)) (pw_and1 (pt_cmpR op_lt (pe_ix ix_list (pv 0) pe_int (fun _ _ => rfl)) (pe_callB call_len_seq (by rfl) T.b_len (by decide +kernel) (pa_cons (pe_ix ix_list (pv 0) pe_int (fun _ _ => rfl)) pa_nil)) (nomark _)))))
        (pss_cons (ps_set (i := 2) sc_draw.nd rfl (Or.inl rfl) (pe_ix ix_list (pe_ix ix_list (pv 0) pe_int (fun _ _ => rfl)) (pe_ix ix_list (pv 0) pe_int (fun _ _ => rfl)) (fun _ _ => rfl)))
      (pss_cons (ps_asg (pe_op op_add (pe_ix ix_list (pv 0) pe_int (fun _ _ => rfl)) pe_int) (pg_sub (pv 0) pe_int set_list))
      (pss_one (ps_if (pt_cmpR op_ge (pe_callB call_abs (by rfl) T.b_abs (by decide +kernel) (pa_cons (pv 2) pa_nil)) (pe_op op_pow pe_int pe_int) (nomark _))
        (pss_one (ps_asg (pe_callB call_abs (by rfl) T.b_abs (by decide +kernel) (pa_cons (pv 2) pa_nil)) (pg_sub (pv 0) pe_int set_list)))
        (pss_cons (ps_asg pe_int (pg_sub (pv 0) pe_int set_list))
      (pss_one (ps_asg (pe_op op_mod (pe_callTy call_int1 (by rfl) T.b_int (by decide +kernel) (pa_cons (pe_op op_add (pe_op op_add (pe_op op_mul (pe_ix ix_list (pv 0) pe_int (fun _ _ => rfl)) pe_int) (pv 2)) (pe_op op_mul pe_int (pe_ix ix_list (pv 0) pe_int (fun _ _ => rfl)))) pa_nil)) pe_int) (pg_sub (pv 0) pe_int set_list))))))))
        pss_nil)
      (pss_cons (ps_if (pt_cmpR op_gt (pe_ix ix_list (pv 0) pe_int (fun _ _ => rfl)) pe_int (nomark _))
        (pss_cons (ps_set (i := 3) sc_draw.nd rfl (Or.inl rfl) (pe_op op_mod (pe_callTy call_int1 (by rfl) T.b_int (by decide +kernel) (pa_cons (pe_ix ix_list (pv 0) pe_int (fun _ _ => rfl)) pa_nil)) (pv 1)))
      (pss_cons (ps_asg (pe_op op_fdiv (pe_ix ix_list (pv 0) pe_int (fun _ _ => rfl)) (pv 1)) (pg_sub (pv 0) pe_int set_list))
      (pss_one (ps_ret (pv 3)))))
        pss_nil)
      (pss_cons (ps_asg (pe_op op_mod (pe_callTy call_int1 (by rfl) T.b_int (by decide +kernel) (pa_cons (pe_op op_add (pe_op op_add (pe_op op_mul (pe_ix ix_list (pv 0) pe_int (fun _ _ => rfl)) pe_int) (pe_op op_mul pe_int (pe_ix ix_list (pv 0) pe_int (fun _ _ => rfl)))) pe_int) pa_nil)) pe_int) (pg_sub (pv 0) pe_int set_list))
      (pss_cons (ps_set (i := 4) sc_draw.nd rfl (Or.inl rfl) (pe_op op_mod (pe_callTy call_int1 (by rfl) T.b_int (by decide +kernel) (pa_cons (pe_op op_mul (pe_ix ix_list (pv 0) pe_int (fun _ _ => rfl)) (pe_op op_add (pe_op op_fdiv (pe_ix ix_list (pv 0) pe_int (fun _ _ => rfl)) pe_int) pe_int)) pa_nil)) pe_int))
      (pss_one (ps_ret (pe_op op_mod (pe_op op_fdiv (pv 4) pe_int) (pv 1))))))))), ?_⟩
    obtain ⟨hp, ha, hap, h0, h1, h2⟩ := id S
    -- the count
    refine ⟨fun σ H' => σ = [some (.ref p), some (.int n), none, none, none] ∧ St5 H' p a ns i l m (c + 1) ∧ But p H H', ⟨_, rfl, _, _, _, _, rfl, rfl, SqL.of hp, rfl, _, _, rfl, rfl, _, rfl, _, _, _, _, rfl, rfl, hp, rfl, rfl, S.set h0 h1 h2, (But.refl _ _).upd⟩, ?_⟩
    rintro σ H1 ⟨rfl, S1, B1⟩
    obtain ⟨hp1, ha1, _⟩ := id S1
    -- the next number of the script
    refine ⟨fun σ H' => ∃ v2, σ = [some (.ref p), some (.int n), v2, none, none] ∧ (∃ i l m, St5 H' p a ns i l m (c + 1)) ∧ But p H H', ?_, ?_⟩
    · refine ⟨_, rfl, _, _, _, _, rfl, rfl, SqL.of hp1, rfl, _, _, rfl, rfl, _, rfl, ?_⟩
      refine ite2 (fun c1 => ?_) (fun c1 => iteF ⟨none, rfl, ⟨i, l, m, S1⟩, B1⟩)
      refine ⟨_, rfl, _, _, _, _, rfl, rfl, SqL.of hp1, rfl, _, rfl, _, _, _, _, rfl, rfl, SqL.of hp1, rfl, _, _, rfl, .inl (SqL.of ha1), _, _, rfl, rfl, _, rfl, ?_⟩
      refine ite2 (fun c2 => ?_) (fun c2 => ⟨none, rfl, ⟨i, l, m, S1⟩, B1⟩)
      have c2' : i.toNat < ns.length := by
        have := of_decide_eq_true c2
        rw [List.length_map] at this
        omega
      have hz : (ns.map V.int)[i.toNat]? = some (V.int ns[i.toNat]) := by
        rw [List.getElem?_map, List.getElem?_eq_getElem c2']
        rfl
      refine ⟨_, rfl, _, _, _, _, rfl, rfl, SqL.of hp1, rfl, _, rfl, _, _, _, _, rfl, rfl, SqL.of hp1, rfl, _, _, _, _, rfl, rfl, SqL.of ha1, at_of (j := i.toNat) (by omega) hz, ?_⟩
      generalize ns[i.toNat] = z
      refine ⟨_, rfl, _, _, _, _, rfl, rfl, SqL.of hp1, rfl, _, _, rfl, rfl, _, rfl, _, _, _, _, rfl, rfl, hp1, rfl, ?_⟩
      have S2 := S1.set (i' := i + 1) (l' := l) (m' := m) (c' := c + 1) (by omega) h1 h2
      refine ⟨_, rfl, _, rfl, _, _, rfl, rfl, ⟨by decide, by decide, by decide⟩, _, _, rfl, rfl, _, rfl, ?_⟩
      refine ite2 (fun c3 => ?_) (fun c3 => ?_)
      · refine ⟨_, rfl, _, rfl, _, rfl, _, _, _, _, rfl, rfl, S2.1, rfl, ?_⟩
        exact ⟨_, rfl, ⟨_, _, _, S2.set (by omega) h1 h2⟩, B1.upd.upd⟩
      · refine ⟨_, rfl, _, _, _, _, rfl, rfl, S2.1, rfl, ?_⟩
        have S3 := S2.set (i' := i + 1) (l' := 0) (m' := m) (c' := c + 1) (by omega) h1 h2
        refine ⟨_, rfl, _, _, _, _, rfl, rfl, SqL.of S3.1, rfl, _, _, rfl, rfl, .inr (by decide), _, rfl, _, _, rfl, rfl, _, rfl, _, _, _, _, rfl, rfl, SqL.of S3.1, rfl, _, _, rfl, rfl, .inl (by decide), _, _, rfl, rfl, .inl ⟨_, rfl, ?_⟩⟩
        refine ⟨_, _, rfl, rfl, (by show (0 : Int) < 2147483629; decide), _, rfl, _, _, _, _, rfl, rfl, S3.1, rfl, ?_⟩
        exact ⟨_, rfl, ⟨_, _, _, S3.set (by omega) (Int.emod_nonneg _ (by decide)) (Int.lt_trans (Int.emod_lt_of_pos _ (by decide)) (by decide))⟩, B1.upd.upd.upd⟩
    · rintro σ H2 ⟨v2, rfl, ⟨i, l, m, S2⟩, B2⟩
      obtain ⟨hp2, ha2, hap2, h02, h12, h22⟩ := id S2
      refine ⟨_, rfl, _, _, _, _, rfl, rfl, SqL.of hp2, rfl, _, _, rfl, rfl, _, rfl, ?_⟩
      refine ite2 (fun c1 => ?_) (fun c1 => ?_)
      · refine ⟨_, rfl, _, _, _, _, rfl, rfl, SqL.of hp2, rfl, .inl ⟨_, rfl, _, rfl, _, _, rfl, rfl, hn0, ?_⟩⟩
        refine ⟨_, rfl, _, _, _, _, rfl, rfl, SqL.of hp2, rfl, _, rfl, _, _, rfl, rfl, ⟨hn0, hn1⟩, _, rfl, _, _, _, _, rfl, rfl, hp2, rfl, ?_⟩
        exact ⟨_, rfl, k _ _ (Int.emod_nonneg _ (by omega)) (Int.emod_lt_of_pos _ hn0) ⟨a, ns, _, _, _, _, S2.set h02 h12 h22⟩ B2.upd⟩
      · refine ⟨_, rfl, _, _, _, _, rfl, rfl, SqL.of hp2, rfl, _, _, rfl, rfl, .inr (by decide), _, rfl, _, _, _, _, rfl, rfl, SqL.of hp2, rfl, _, _, rfl, rfl, .inl (by decide), _, _, rfl, rfl, _, _, rfl, rfl, .inl ⟨_, rfl, ?_⟩⟩
        refine ⟨_, _, rfl, rfl, (by show (0 : Int) < 2147483647; decide), _, rfl, _, _, _, _, rfl, rfl, hp2, rfl, ?_⟩
        have m0 : 0 ≤ (m * 48271 + 7919 * (c + 1) + 1) % 2147483647 := Int.emod_nonneg _ (by decide)
        have m1 : (m * 48271 + 7919 * (c + 1) + 1) % 2147483647 < 2147483647 := Int.emod_lt_of_pos _ (by decide)
        have S3 := S2.set (i' := i) (l' := l) (m' := (m * 48271 + 7919 * (c + 1) + 1) % 2147483647) (c' := c + 1) h02 m0 (by omega)
        refine ⟨_, rfl, _, _, _, _, rfl, rfl, SqL.of S3.1, rfl, _, rfl, _, _, _, _, rfl, rfl, SqL.of S3.1, rfl, _, _, rfl, rfl, ⟨by decide, by decide⟩, _, _, rfl, rfl, _, _, rfl, rfl, .inl ⟨Int.lt_of_lt_of_le (by decide) m0, Int.lt_trans m1 (by decide)⟩, .inl ⟨_, rfl, ?_⟩⟩
        refine ⟨_, _, rfl, rfl, (by show (0 : Int) < 2147483399; decide), ?_⟩
        refine ⟨_, rfl, _, _, rfl, rfl, ⟨by decide, by decide⟩, _, rfl, _, _, rfl, rfl, hn0, ?_⟩
        exact k _ _ (Int.emod_nonneg _ (by omega)) (Int.emod_lt_of_pos _ hn0) ⟨a, ns, _, _, _, _, S3⟩ B2.upd
end
end Sq
namespace Sq
open PySem L2
/-- the state is made: the items' list is a new one -/
def spState (K : PySem.W.Frag) : Sp := fun vs H Q _ => ∃ (s : Addr) (ns : List Int), vs = [.ref s] ∧ SqL K H s (ns.map V.int) ∧ ns.length ≤ 63 ∧ ∀ p H', H p = none → StAt H' p → Same H H' → Q (.ref p) H'
theorem same_new {H H1 : Hp} {q : Addr} {o : HO} (a : Same H H1) (n : H1 q = none) : Same H (L2.upd H1 q o) := fun c u h => (upd_ne (ne_of_none (a c u h) n)).trans (a c u h)
theorem same_at {H H1 : Hp} {q : Addr} {o : HO} (a : Same H H1) (n : H q = none) : Same H (L2.upd H1 q o) := fun c u h => (upd_ne (ne_of_none h n)).trans (a c u h)
theorem take_map (ns : List Int) (k : Nat) : cutV (ns.map V.int) none (some ((k : Nat) : Int)) = (ns.take k).map V.int := by
  unfold cutV
  rw [HT.sIx_none, HT.sIx_nat, List.drop_zero, List.length_map, List.map_take]
  rw [Nat.sub_zero]
  by_cases h : k ≤ ns.length
  · rw [Nat.min_eq_left h]
  · rw [Nat.min_eq_right (by omega), List.take_of_length_le (by simp), List.take_of_length_le (by simp; omega)]
theorem map_get {ns : List Int} {i : Nat} {y : V} (hi : (ns.map V.int)[i]? = some y) : ∃ z, ns[i]? = some z ∧ y = V.int z := by
  rw [List.getElem?_map] at hi
  cases e : ns[i]? with
  | none =>
    rw [e] at hi
    cases hi
  | some z =>
    rw [e] at hi
    exact ⟨z, rfl, (Option.some.inj hi).symm⟩
theorem take_more {α : Type} {l : List α} {i : Nat} {x : α} (h : l[i]? = some x) : l.take (i + 1) = l.take i ++ [x] := by
  rw [List.take_add_one, h]
  rfl
theorem seq_at {K : PySem.W.Frag} {H : Hp} {a b : Addr} {xs : List V} {o : HO} (h : SqL K H a xs) (n : b ≠ a) : SqL K (upd H b o) a xs := by
  rcases h with (h | ⟨o, h⟩) | h
  · exact .inl (.inl ((upd_ne n.symm).trans h))
  · exact .inl (.inr ⟨o, (upd_ne n.symm).trans h⟩)
  · exact .inr h
section
variable {P : Program} {w : World} {K : PySem.W.Frag} {mg : Str → Option Value} {base : Heap}
theorem sc_state : FnScope ["_law_script", "_law_items", "_law_item"] ["_law_script"] (defScope s_state) := ⟨rfl, rfl, rfl, by decide +kernel, rfl, by decide +kernel, by decide +kernel⟩
theorem ok_state {f : Addr} {fd : FuncData} (F : Fun K "_law_state" "_law_state" s_state f fd) (T : DTx mg) : FnOk P w K mg base CX0 1 f fd ["_law_script"] (spState K) := by
  refine F.ok sc_state (fun vs H Q E h => ?_) (fun cdv A outer s H vs Q E hr h => ?_)
  · obtain ⟨p, n, rfl, _⟩ := h
    rfl
  · obtain ⟨a, ns, rfl, hS, hl, k⟩ := h
    refine ⟨_, pss_cons (ps_setLc (i := 1) (own := [("_law_item", 2)]) (g := gName 2) (tt := tYes) rfl sc_state.nd rfl rfl (sw_true rfl rfl rfl (by decide +kernel))
        (pi_list (pe_slice sl_list (pv 0) po_none (po_some pe_int))) (blkOk_by (N := ["_law_script", "_law_items", "_law_item"]) (sc := defScope s_state) (by decide +kernel)) (fun _ _ _ _ _ => pg_name (i := 2) sc_state.nd rfl (Or.inl rfl)) (fun _ _ _ _ _ => pts_nil)
        (fun _ _ _ _ _ => pe_callTy call_int1 (by rfl) T.b_int (by decide +kernel) (pa_cons (pv 2) pa_nil)))
      (pss_one (ps_ret (pe_lst (pa_cons (pv 1) (pa_cons pe_int (pa_cons pe_int (pa_cons (pe_op op_add pe_int (pe_callB call_len_seq (by rfl) T.b_len (by decide +kernel) (pa_cons (pv 1) pa_nil))) (pa_cons pe_int pa_nil)))))))), ?_⟩
    refine ⟨_, rfl, _, rfl, _, _, rfl, hS, fun q hq => ?_⟩
    have et : cutV (ns.map V.int) none (some 63) = (ns.take 63).map V.int := take_map ns 63
    have hq1 : SqL K (upd H q (.lst (cutV (ns.map V.int) none (some 63)))) q ((ns.take 63).map V.int) := by
      rw [et]
      exact SqL.of upd_same
    refine ⟨_, rfl, ⟨_, hq1⟩, fun D hD => ?_⟩
    have hDq : D ≠ q := fun e => by
      rw [e, upd_same] at hD
      cases hD
    have hDH : H D = none := by
      rw [upd_ne hDq] at hD
      exact hD
    refine lc_list (K := K) (a := q) (xs := (ns.take 63).map V.int) (fun i H' => H' D = some (.lst ((ns.take i).map V.int)) ∧ Same H H' ∧ SqL K H' q ((ns.take 63).map V.int)) ?_ (fun i H' _ h => h.2.2) ?_ ?_
    · refine ⟨by simpa using upd_same, same_new (same_new (Same.refl H) hq) hD, ?_⟩
      exact Same.seq (same_new (Same.refl _) hD) hq1
    · rintro i y H2 hi ⟨hD2, s2, hq2⟩
      obtain ⟨z, hz, rfl⟩ := map_get hi
      refine ⟨rfl, _, rfl, .inl ⟨_, rfl, ?_⟩⟩
      have hi1 : i < (ns.take 63).length := (List.getElem?_eq_some_iff.mp hz).1
      have hi63 : i < 63 := by
        rw [List.length_take] at hi1
        omega
      have hz' : ns[i]? = some z := by
        rw [List.getElem?_take] at hz
        rw [if_pos hi63] at hz
        exact hz
      refine ⟨_, hD2, small1000 (by rw [List.length_map, List.length_take]; omega), ?_, same_at s2 hDH, ?_⟩
      · rw [take_more hz', List.map_append]
        exact upd_same
      · exact seq_at hq2 hDq
    · rintro H2 ⟨hD2, s2, hq2⟩
      refine ⟨_, rfl, _, rfl, _, _, rfl, .inl (SqL.of hD2), _, _, rfl, rfl, (by show 5 ≤ sizeLine; decide), fun p hp => ?_⟩
      have hpD : D ≠ p := ne_of_none hD2 hp
      refine k p _ (s2.free hp) ⟨D, (ns.take 63).take (ns.take 63).length, 0, 0, _, 0, upd_same, (upd_ne hpD).trans ?_, hpD, by omega, by omega, ?_⟩ (same_new s2 hp)
      · rw [hD2, List.take_take, List.length_map]
        congr 4
        simp
      · rw [List.length_map, List.length_take]
        omega
end
end Sq
namespace Sq
open PySem L2
theorem fmod_lt (x : Int) {y : Int} (h : y ≠ 0) : (x.fmod y).natAbs < y.natAbs := by
  have e := Int.fmod_eq_emod (a := x) (b := y)
  have h1 := Int.emod_nonneg x h
  have h2 := Int.emod_lt x h
  by_cases c : 0 ≤ y ∨ y ∣ x
  · rw [if_pos c] at e
    omega
  · rw [if_neg c] at e
    have h3 : ¬ y ∣ x := fun d => c (.inr d)
    have h4 : x % y ≠ 0 := fun z => h3 (Int.dvd_of_emod_eq_zero z)
    omega
theorem gcd_fmod (x y : Int) : Int.gcd y (x.fmod y) = Int.gcd x y := by
  rw [Int.fmod_def, Int.gcd_sub_mul_left_right, Int.gcd_comm]
def spGcd : Sp := fun vs H Q _ => ∃ a b : Int, vs = [.int a, .int b] ∧ Q (.int ((Int.gcd a b : Nat) : Int)) H
/-- is it an int, no bool: for a value whose type is known -/
def isI : V → Bool
  | .int _ => true
  | _ => false
def IsTy (K : PySem.W.Frag) (H : Hp) (x : V) : Prop := ∃ t b1 b2, TyX K H x t ∧ PySem.W.kitOne K t (.type "int") = some b1 ∧ PySem.W.kitOne K t (.type "bool") = some b2 ∧ (b1 && !b2) = isI x
theorem IsTy.int {K : PySem.W.Frag} {H : Hp} (i : Int) : IsTy K H (.int i) := ⟨.type "int", true, false, .base (.int i), kit_ty (by decide +kernel), kit_ty (by decide +kernel), rfl⟩
theorem IsTy.bl {K : PySem.W.Frag} {H : Hp} (i : Bool) : IsTy K H (.bl i) := ⟨.type "bool", true, true, .base (.bl i), kit_ty (by decide +kernel), kit_ty (by decide +kernel), rfl⟩
theorem IsTy.non {K : PySem.W.Frag} {H : Hp} : IsTy K H .non := ⟨.type "NoneType", false, false, .base .non, kit_ty (by decide +kernel), kit_ty (by decide +kernel), rfl⟩
theorem IsTy.str {K : PySem.W.Frag} {H : Hp} (z : Str) : IsTy K H (.str z) := ⟨.type "str", false, false, .base (.str z), kit_ty (by decide +kernel), kit_ty (by decide +kernel), rfl⟩
theorem IsTy.lst {K : PySem.W.Frag} {H : Hp} {a : Addr} {xs : List V} (e : H a = some (.lst xs)) : IsTy K H (.ref a) := ⟨.type "list", false, false, .base (.lst e), kit_ty (by decide +kernel), kit_ty (by decide +kernel), rfl⟩
theorem IsTy.tup {K : PySem.W.Frag} {H : Hp} {a : Addr} {xs : List V} (e : H a = some (.tup xs)) : IsTy K H (.ref a) := ⟨.type "tuple", false, false, .base (.tup e), kit_ty (by decide +kernel), kit_ty (by decide +kernel), rfl⟩
theorem IsTy.dK {K : PySem.W.Frag} {H : Hp} {a : Addr} {xs : List (Key × V)} (e : H a = some (.dK xs)) : IsTy K H (.ref a) := ⟨.type "dict", false, false, .base (.dK e), kit_ty (by decide +kernel), kit_ty (by decide +kernel), rfl⟩
def spIsInt (K : PySem.W.Frag) : Sp := fun vs H Q _ => ∃ x, vs = [x] ∧ IsTy K H x ∧ Q (.bl (isI x)) H
def spGreat : Sp := fun vs H Q _ => ∃ p, vs = [.ref p] ∧ StAt H p ∧ ∀ v H', v.natAbs < 2 ^ 120 → StAt H' p → But p H H' → Q (.int v) H'
structure ITx (mg : Str → Option Value) : Prop where
  b_isinstance : mg "isinstance" = none
  b_int : mg "int" = none
  b_bool : mg "bool" = none
section
variable {P : Program} {w : World} {K : PySem.W.Frag} {mg : Str → Option Value} {base : Heap}
theorem sc_gcd : FnScope ["_law_one", "_law_other"] ["_law_one", "_law_other"] (defScope s_gcd) := ⟨rfl, rfl, rfl, by decide +kernel, rfl, by decide +kernel, by decide +kernel⟩
theorem ok_gcd {f : Addr} {fd : FuncData} (F : Fun K "_law_gcd" "_law_gcd" s_gcd f fd) (T : DTx mg) : FnOk P w K mg base CX0 1 f fd ["_law_one", "_law_other"] spGcd := by
  refine F.ok sc_gcd (fun vs H Q E h => ?_) (fun cdv A outer s H vs Q E hr h => ?_)
  · obtain ⟨a, b, rfl, _⟩ := h
    rfl
  · obtain ⟨a, b, rfl, k⟩ := h
    refine ⟨_, (pss_cons (ps_while PassesOwn.never (pt_cmpR op_ne (pv 1) pe_int (nomark _)) (pss_one (ps_par (i := 0) (j := 1) (by rfl) sc_gcd.nd rfl rfl (by decide) rfl rfl (pa_cons (pv 1) (pa_cons (pe_op op_modN (pe_callTy call_int1 (by rfl) T.b_int (by decide +kernel) (pa_cons (pv 0) pa_nil)) (pv 1)) pa_nil)) (by rfl))))
      (pss_one (ps_ret (pe_callB call_abs (by rfl) T.b_abs (by decide +kernel) (pa_cons (pv 0) pa_nil))))), ?_⟩
    refine while_by (fun σ H' => ∃ x y : Int, σ = [some (.int x), some (.int y)] ∧ Int.gcd x y = Int.gcd a b ∧ H' = H) (fun σ _ => match σ with | [_, some (.int y)] => y.natAbs | _ => 0) ⟨a, b, rfl, rfl, rfl⟩ ?_ ?_
    · rintro σ H' ⟨x, y, rfl, hg, rfl⟩
      refine ⟨_, rfl, rfl, _, rfl, ?_⟩
      refine ite2 (fun c => ?_) (fun c => ?_)
      · have hy : y ≠ 0 := fun e => by
          rw [e] at c
          exact absurd c (by decide)
        refine ⟨_, rfl, _, rfl, .inl ⟨_, rfl, _, rfl, _, _, rfl, rfl, hy, ?_⟩⟩
        exact ⟨_, _, rfl, ⟨_, _, rfl, (gcd_fmod x y).trans hg, rfl⟩, fmod_lt x hy⟩
      · have hy : y = 0 := by
          by_cases e : y = 0
          · exact e
          · exact absurd (by simp [e]) c
        subst hy
        refine ⟨_, rfl, _, rfl, ?_⟩
        rw [← hg] at k
        rw [Int.gcd_zero] at k
        have e : (if x < 0 then -x else x) = ((x.natAbs : Nat) : Int) := by
          split <;> omega
        rw [e]
        exact k
    · rintro σ H' Q1 Q2 hi ⟨v, e, u, z, e2, c⟩
      exact ⟨v, e, u, z, e2, hi _ _ c⟩
theorem sc_lisint : FnScope ["_law_told"] ["_law_told"] (defScope s_lisint) := ⟨rfl, rfl, rfl, by decide +kernel, rfl, by decide +kernel, by decide +kernel⟩
theorem ok_lisint {f : Addr} {fd : FuncData} (F : Fun K "_law_is_integer" "_law_is_integer" s_lisint f fd) (T : ITx mg) : FnOk P w K mg base CX0 1 f fd ["_law_told"] (spIsInt K) := by
  refine F.ok sc_lisint (fun vs H Q E h => ?_) (fun cdv A outer s H vs Q E hr h => ?_)
  · obtain ⟨x, rfl, _⟩ := h
    rfl
  · obtain ⟨x, rfl, ⟨t, b1, b2, ht, h1, h2, h3⟩, k⟩ := h
    refine ⟨_, pss_one (ps_ret (pe_and (pe_callB call_isi (by rfl) T.b_isinstance (by decide +kernel) (pa_cons (pv 0) (pa_cons (pe_bltn (v := .ty "int") (by rfl) T.b_int (by decide +kernel) rfl) pa_nil)))
      (pe_one (pe_not (pe_callB call_isi (by rfl) T.b_isinstance (by decide +kernel) (pa_cons (pv 0) (pa_cons (pe_bltn (v := .ty "bool") (by rfl) T.b_bool (by decide +kernel) rfl) pa_nil))))))), ?_⟩
    refine ⟨_, rfl, _, _, _, _, b1, rfl, .ty _, ht, h1, _, rfl, ?_⟩
    cases b1 with
    | false =>
      refine iteF ?_
      rw [← h3] at k
      exact k
    | true =>
      refine iteT ?_
      refine ⟨_, rfl, _, _, _, _, b2, rfl, .ty _, ht, h2, _, rfl, ?_⟩
      rw [← h3] at k
      exact k
theorem sc_great : FnScope ["_law_state_here", "_law_found", "_law_k"] ["_law_state_here"] (defScope s_great) := ⟨rfl, rfl, rfl, by decide +kernel, rfl, by decide +kernel, by decide +kernel⟩
theorem ok_great {f fD : Addr} {fd fdD : FuncData} (F : Fun K "_law_great" "_law_great" s_great f fd) (T : DTx mg) (G_draw : FnOk P w K mg base CX0 1 fD fdD ["_law_state_here", "_law_many"] spDraw) (m_draw : mg "_law_draw" = some (.ref fD)) (k_draw : PySem.W.keepIn K (.ref fD) = true)
    (b_draw : Binds K fdD ["_law_state_here", "_law_many"] []) : FnOk P w K mg base CX0 2 f fd ["_law_state_here"] spGreat := by
  refine F.ok sc_great (fun vs H Q E h => ?_) (fun cdv A outer s H vs Q E hr h => ?_)
  · obtain ⟨x, rfl, _⟩ := h
    rfl
  · obtain ⟨p, rfl, S, k⟩ := h
    refine ⟨_, (pss_cons (ps_set (i := 1) sc_great.nd rfl (Or.inl rfl) pe_int)
      (pss_cons (ps_for PassesOwn.never rfl (pi_range1 (by rfl) T.b_range (pa_cons (pe_call G_draw hr rfl m_draw k_draw b_draw .nil pass0 (pa_cons (pv 0) (pa_cons pe_int pa_nil))) pa_nil)) (pg_name (i := 2) sc_great.nd rfl (Or.inl rfl)) (pss_one (ps_set (i := 1) sc_great.nd rfl (Or.inl rfl) (pe_op op_add (pe_op op_mul (pv 1) (pe_op op_pow pe_int pe_int)) (pe_call G_draw hr rfl m_draw k_draw b_draw .nil pass0 (pa_cons (pv 0) (pa_cons (pe_op op_pow pe_int pe_int) pa_nil)))))))
      (pss_cons (ps_set (i := 1) sc_great.nd rfl (Or.inl rfl) (pe_op op_add (pv 1) (pe_call G_draw hr rfl m_draw k_draw b_draw .nil pass0 (pa_cons (pv 0) (pa_cons pe_int pa_nil)))))
      (pss_cons (ps_if (pt_cmpR op_eq (pe_call G_draw hr rfl m_draw k_draw b_draw .nil pass0 (pa_cons (pv 0) (pa_cons pe_int pa_nil))) pe_int (nomark _))
        (pss_one (ps_ret (pe_un un_neg (pv 1))))
        pss_nil)
      (pss_one (ps_ret (pv 1))))))), ?_⟩
    refine ⟨_, rfl, p, 5, rfl, by decide, by decide, S, fun v H1 v0 v5 S1 B1 => ⟨v, rfl, by omega, by omega, ?_⟩⟩
    refine for_range (lo := 0) (n := v.toNat) (fun i σ H' => ∃ (u : Int) (z : Option V), σ = [some (.ref p), some (.int u), z] ∧ 0 ≤ u ∧ u < 1000000000 ^ i ∧ StAt H' p ∧ But p H H') ⟨0, none, rfl, by omega, by decide, S1, B1⟩ ?_ ?_
    · rintro i σ H2 hi ⟨u, z, rfl, u0, u1, S2, B2⟩
      refine ⟨_, rfl, _, _, rfl, rfl, ⟨by decide, by decide, by decide⟩, _, _, rfl, rfl, .inr (by decide), _, rfl, _, _, rfl, rfl, ⟨by decide, by decide, by decide⟩, p, _, rfl, by decide, by decide, S2, fun d H3 d0 d1 S3 B3 => ?_⟩
      refine ⟨_, _, rfl, rfl, _, _, rfl, ?_, ?_, S3, B2.trans B3⟩
      · have e : (10 : Int) ^ (Int.toNat 9) = 1000000000 := by decide
        rw [e]
        omega
      · have e : (10 : Int) ^ (Int.toNat 9) = 1000000000 := by decide
        have d1' : d < 1000000000 := by
          rw [← e]
          exact d1
        rw [e, Int.pow_succ]
        generalize (1000000000 : Int) ^ i = q at *
        omega
    · rintro σ H2 ⟨u, z, rfl, u0, u1, S2, B2⟩
      have hv : v.toNat ≤ 4 := by omega
      have hu : u < 1000000000 ^ 4 := by
        have h5 : v.toNat = 0 ∨ v.toNat = 1 ∨ v.toNat = 2 ∨ v.toNat = 3 ∨ v.toNat = 4 := by omega
        rcases h5 with h | h | h | h | h <;> (rw [h] at u1; exact Int.lt_of_lt_of_le u1 (by decide))
      refine ⟨_, rfl, _, rfl, p, _, rfl, by decide, by decide, S2, fun d H3 d0 d1 S3 B3 => ?_⟩
      refine ⟨_, _, rfl, rfl, _, rfl, p, _, rfl, by decide, by decide, S3, fun d2 H4 d20 d21 S4 B4 => ⟨rfl, _, rfl, ?_⟩⟩
      have e4 : (1000000000 : Int) ^ 4 = 1000000000000000000000000000000000000 := by decide
      have e2 : (2 : Nat) ^ 120 = 1329227995784915872903807060280344576 := by decide
      rw [e4] at hu
      refine ite2 (fun _ => ⟨_, rfl, _, rfl, k _ H4 ?_ S4 ((B2.trans B3).trans B4)⟩) (fun _ => ⟨_, rfl, k _ H4 ?_ S4 ((B2.trans B3).trans B4)⟩)
      · show (-(u + d)).natAbs < 2 ^ 120
        omega
      · show (u + d).natAbs < 2 ^ 120
        omega
end
end Sq

namespace Sq
open PySem L2 PyProof.Rows
abbrev s_noRatioInit : Stmt := inClass (top 4) 0
abbrev s_isint : Stmt := top 8
abbrev s_ratioInit : Stmt := inClass (top 14) 0
/-- // by any number but 0 whose size is below 2 ^ 9000 -/
def CDivZ (_ j : Int) : Prop := j ≠ 0 ∧ j.natAbs < 2 ^ 8000
theorem op_fdivZ {X : Cx} : OpR X (binaryOp .FloorDiv) (rI CDivZ fun i j => .int (i.fdiv j)) := opI fun i j _ _ _ _ _ hc q =>
  floordiv_int hc.1 q (.inl (PyProof.noPylong_of_log2 (Nat.lt_of_lt_of_le (PySem.Flt.log2_lt_of (by decide) hc.2) (by decide))))
/-! ### the fraction in lowest terms -/
structure Low (a b t u : Int) : Prop where
  pos : 1 ≤ u
  cop : Int.gcd t u = 1
  val : t * b = a * u
  lt : t.natAbs ≤ a.natAbs
  lu : u.natAbs ≤ b.natAbs
theorem low_of {a b c : Int} (hb : b ≠ 0) (hc : c = (Int.gcd a b : Int) ∧ 0 < b ∨ c = -(Int.gcd a b : Int) ∧ b < 0) : Low a b (a.fdiv c) (b.fdiv c) := by
  have hg : 0 < Int.gcd a b := Int.gcd_pos_of_ne_zero_right a hb
  have da : c ∣ a := by
    rcases hc with ⟨rfl, _⟩ | ⟨rfl, _⟩
    · exact Int.gcd_dvd_left ..
    · exact Int.neg_dvd.mpr (Int.gcd_dvd_left ..)
  have db : c ∣ b := by
    rcases hc with ⟨rfl, _⟩ | ⟨rfl, _⟩
    · exact Int.gcd_dvd_right ..
    · exact Int.neg_dvd.mpr (Int.gcd_dvd_right ..)
  have c0 : c ≠ 0 := by omega
  obtain ⟨t, ht⟩ := da
  obtain ⟨u, hu⟩ := db
  have et : a.fdiv c = t := by rw [ht]; exact Int.mul_fdiv_cancel_left _ c0
  have eu : b.fdiv c = u := by rw [hu]; exact Int.mul_fdiv_cancel_left _ c0
  rw [et, eu]
  have cn : c.natAbs = Int.gcd a b := by omega
  have c1 : 1 ≤ c.natAbs := by omega
  have gcu : Int.gcd a b = c.natAbs * Int.gcd t u := by
    rw [ht, hu, Int.gcd_mul_left]
  refine ⟨?_, ?_, ?_, ?_, ?_⟩
  · have : 0 < u := by
      rcases hc with ⟨h1, h2⟩ | ⟨h1, h2⟩
      · refine Int.pos_of_mul_pos_right (a := c) ?_ (by omega)
        rw [← hu]
        exact h2
      · refine Int.pos_of_mul_pos_right (a := -c) ?_ (by omega)
        rw [Int.neg_mul, ← hu]
        omega
    omega
  · rw [cn] at gcu
    exact (Nat.eq_of_mul_eq_mul_left hg (by rw [Nat.mul_one]; exact gcu)).symm
  · rw [ht, hu, Int.mul_assoc, Int.mul_left_comm]
  · rw [ht, Int.natAbs_mul]
    exact Nat.le_mul_of_pos_left _ c1
  · rw [hu, Int.natAbs_mul]
    exact Nat.le_mul_of_pos_left _ c1
/-! ### the objects -/
def rfl_ (t u : Int) : List (Str × V) := putF "bottom" (.int u) (putF "top" (.int t) [])
theorem tb : ¬ (("top" : Str) = "bottom") := by decide +kernel
theorem rf_top (t u : Int) : (rfl_ t u).lookup ("top" : Str) = some (.int t) := by
  unfold rfl_
  rw [lookup_putF, if_neg tb, lookup_putF, if_pos rfl]
theorem rf_bottom (t u : Int) : (rfl_ t u).lookup ("bottom" : Str) = some (.int u) := by
  unfold rfl_
  rw [lookup_putF, if_pos rfl]
theorem rf_no (t u : Int) {m : Str} (h1 : ¬ m = "bottom") (h2 : ¬ m = "top") : (rfl_ t u).lookup m = none := by
  unfold rfl_
  rw [lookup_putF, if_neg h1, lookup_putF, if_neg h2]
  rfl
def RatAt (C : Addr) (H : Hp) (x : Addr) (t u : Int) : Prop := ∃ dx, H x = some (.ins C dx (rfl_ t u))
/-- what a NoRatio carries -/
def wordAt (z : Str) : HO := .xd [(("word" : Str), .str z)]
/-- the word that is due, if any -/
def dueW (u v : V) : Option Str := if isI u then (if isI v then (if v = .int 0 then some "zero" else none) else some "bottom") else some "top"
def spRatioInit (K : PySem.W.Frag) (C CN : Addr) : Sp := fun vs H Q E => ∃ (x dx : Addr) (u v : V), vs = [.ref x, u, v] ∧ H x = some (.ins C dx []) ∧ IsTy K H u ∧ IsTy K H v ∧ (∀ b, v = .int b → b.natAbs < 2 ^ 8000) ∧
  (∀ z, dueW u v = some z → ∀ d, H d = none → E (.ref CN) (some d) (upd H d (wordAt z))) ∧
  (∀ a b, u = .int a → v = .int b → b ≠ 0 → ∀ t w H', Low a b t w → RatAt C H' x t w → But x H H' → Q .non H')
def spWordInit (CN : Addr) : Sp := fun vs H Q _ => ∃ (a : Addr) (y : V), vs = [.ref a, y] ∧ H a = some (exo a CN none) ∧ ∀ dx, H dx = none → dx ≠ a → Q .non (upd (upd H dx (exd dx [(("word" : Str), y)])) a (exo a CN (some dx)))
/-- the class of an error with the field word -/
structure NTx (K : PySem.W.Frag) (mg : Str → Option Value) (CN fN : Addr) : Prop where
  oex : OexC K CN
  nw : PySem.W.findIn K (.ref CN) "word" = some none
  iC : PySem.W.findIn K (.ref CN) "__init__" = some (some (.ref fN))
  tI : PySem.W.typeIn K (.ref fN) = some (.type "function")
structure CTx (K : PySem.W.Frag) (C : Addr) : Prop where
  cl : Cls K C
  nT : NoAttr K C "top"
  nB : NoAttr K C "bottom"
section
variable {P : Program} {w : World} {K : PySem.W.Frag} {mg : Str → Option Value} {base : Heap}
theorem sc_noRatioInit : FnScope ["self", "word"] ["self", "word"] (defScope s_noRatioInit) := ⟨rfl, rfl, rfl, by decide +kernel, rfl, by decide +kernel, by decide +kernel⟩
theorem ok_noRatioInit {f CN fN : Addr} {fd : FuncData} (F : Fun K "__init__" "NoRatio.__init__" s_noRatioInit f fd) (T : NTx K mg CN fN) : FnOk P w K mg base CX0 1 f fd ["self", "word"] (spWordInit CN) := by
  refine F.ok sc_noRatioInit (fun vs H Q E h => ?_) (fun cdv A outer s H vs Q E hr h => ?_)
  · obtain ⟨x, y, rfl, _⟩ := h
    rfl
  · obtain ⟨a, y, rfl, ha, k⟩ := h
    refine ⟨_, pss_one (ps_ost (pv 0) (pv 1)), ?_⟩
    exact ⟨_, rfl, _, rfl, a, CN, rfl, T.oex, T.nw, .inl ⟨ha, fun dx h1 h2 => k dx h1 h2⟩⟩
theorem sc_isint : FnScope ["value"] ["value"] (defScope s_isint) := ⟨rfl, rfl, rfl, by decide +kernel, rfl, by decide +kernel, by decide +kernel⟩
theorem ok_isint {f : Addr} {fd : FuncData} (F : Fun K "is_an_integer" "is_an_integer" s_isint f fd) (T : ITx mg) : FnOk P w K mg base CX0 1 f fd ["value"] (spIsInt K) := by
  refine F.ok sc_isint (fun vs H Q E h => ?_) (fun cdv A outer s H vs Q E hr h => ?_)
  · obtain ⟨x, rfl, _⟩ := h
    rfl
  · obtain ⟨x, rfl, ⟨t, b1, b2, ht, h1, h2, h3⟩, k⟩ := h
    refine ⟨_, pss_one (ps_ret (pe_and (pe_callB call_isi (by rfl) T.b_isinstance (by decide +kernel) (pa_cons (pv 0) (pa_cons (pe_bltn (v := .ty "int") (by rfl) T.b_int (by decide +kernel) rfl) pa_nil)))
      (pe_one (pe_not (pe_callB call_isi (by rfl) T.b_isinstance (by decide +kernel) (pa_cons (pv 0) (pa_cons (pe_bltn (v := .ty "bool") (by rfl) T.b_bool (by decide +kernel) rfl) pa_nil))))))), ?_⟩
    refine ⟨_, rfl, _, _, _, _, b1, rfl, .ty _, ht, h1, _, rfl, ?_⟩
    cases b1 with
    | false =>
      refine iteF ?_
      rw [← h3] at k
      exact k
    | true =>
      refine iteT ?_
      refine ⟨_, rfl, _, _, _, _, b2, rfl, .ty _, ht, h2, _, rfl, ?_⟩
      rw [← h3] at k
      exact k
end
end Sq
namespace Sq
open PySem L2 PyProof.Rows
theorem xd_eq {H : Hp} {a d CN : Addr} {y : V} (ha : H a = none) (n : d ≠ a) : upd (L2.del (upd (upd (upd H a (exo a CN none)) d (exd d [(("word" : Str), y)])) a (exo a CN (some d))) a) d (.xd [(("word" : Str), y)]) = upd H d (.xd [(("word" : Str), y)]) := by
  funext b
  by_cases h1 : b = d
  · subst h1
    rw [upd_same, upd_same]
  · rw [upd_ne h1, upd_ne h1]
    by_cases h2 : b = a
    · subst h2
      rw [del_same, ha]
    · rw [del_ne h2, upd_ne h2, upd_ne h1, upd_ne h2]
theorem mkO_read {CN : Addr} {z : Str} {H : Hp} {E : XK} (h : ∀ d, H d = none → E (.ref CN) (some d) (upd H d (wordAt z))) : ∀ a, H a = none → spWordInit CN (.ref a :: ([.str z] ++ [])) (upd H a (exo a CN none))
    (fun v H2 => v = .non ∧ ∃ (d : Addr) (fs : List (Str × V)), H2 a = some (exo a CN (some d)) ∧ H2 d = some (exd d fs) ∧ H d = none ∧ E (.ref CN) (some d) (upd (L2.del H2 a) d (.xd fs))) (fun _ _ _ => False) := fun a ha => by
  refine ⟨a, _, rfl, upd_same, fun dx h1 h2 => ⟨rfl, dx, [(("word" : Str), V.str z)], upd_same, ?_, ?_, ?_⟩⟩
  · exact (upd_ne h2).trans upd_same
  · rw [upd_ne h2] at h1
    exact h1
  · rw [upd_ne h2] at h1
    rw [xd_eq ha h2]
    exact h dx h1
theorem isI_int : ∀ {u : V}, isI u = true → ∃ a, u = .int a
  | .int i, _ => ⟨i, rfl⟩
  | .non, h => by cases h
  | .bl _, h => by cases h
  | .str _, h => by cases h
  | .byt _, h => by cases h
  | .flt _, h => by cases h
  | .ref _, h => by cases h
  | .ty _, h => by cases h
structure GTx (mg : Str → Option Value) (CN : Addr) : Prop where
  g_gcd : mg "gcd" = some (.builtin "math.gcd")
  m_NoRatio : mg "NoRatio" = some (.ref CN)
section
variable {P : Program} {w : World} {K : PySem.W.Frag} {mg : Str → Option Value} {base : Heap}
theorem sc_ratioInit : FnScope ["self", "top", "bottom", "common"] ["self", "top", "bottom"] (defScope s_ratioInit) := ⟨rfl, rfl, rfl, by decide +kernel, rfl, by decide +kernel, by decide +kernel⟩
theorem ok_ratioInit {f C CN fN fI : Addr} {fd fdN fdI : FuncData} (F : FunD K "__init__" "Ratio.__init__" (defArgs s_ratioInit) (defBody s_ratioInit) (defScope s_ratioInit) [.int 1] [] f fd) (T : CTx K C) (N : NTx K mg CN fN) (G : GTx mg CN)
    (G_N : FnOk P w K mg base CX0 1 fN fdN ["self", "word"] (spWordInit CN)) (b_N : Binds K fdN ["self", "word"] [])
    (G_I : FnOk P w K mg base CX0 1 fI fdI ["value"] (spIsInt K)) (m_I : mg "is_an_integer" = some (.ref fI)) (k_I : PySem.W.keepIn K (.ref fI) = true) (b_I : Binds K fdI ["value"] []) :
    FnOk P w K mg base (L2.CX P w) 3 f fd ["self", "top", "bottom"] (spRatioInit K C CN) := by
  refine F.ok sc_ratioInit (fun vs H Q E h => ?_) (fun cdv A outer s H vs Q E hr h => ?_)
  · obtain ⟨x, dx, u, v, rfl, _⟩ := h
    rfl
  · obtain ⟨x, dx, u, v, rfl, hx, tu, tv, hs, kE, kQ⟩ := h
    have hr1 : Room 1 _ := hr.mono (by decide)
    have raise := fun (z : Str) => (mkO_read (CN := CN) (z := z) (H := H) (E := E))
    refine ⟨_, (pss_cons (ps_if (pt_not (pt_val (pe_call G_I hr1 rfl m_I k_I b_I .nil pass0 (pa_cons (pv 1) pa_nil)))) (pss_one (ps_raise rfl (takes_of rfl rfl rfl rfl) (pmk_oex N.oex N.iC N.tI G_N hr b_N .nil pass0 rfl G.m_NoRatio (pa_cons pe_str pa_nil)))) pss_nil)
      (pss_cons (ps_if (pt_not (pt_val (pe_call G_I hr1 rfl m_I k_I b_I .nil pass0 (pa_cons (pv 2) pa_nil)))) (pss_one (ps_raise rfl (takes_of rfl rfl rfl rfl) (pmk_oex N.oex N.iC N.tI G_N hr b_N .nil pass0 rfl G.m_NoRatio (pa_cons pe_str pa_nil)))) pss_nil)
      (pss_cons (ps_if (pt_cmpR op_eq (pv 2) pe_int (nomark _)) (pss_one (ps_raise rfl (takes_of rfl rfl rfl rfl) (pmk_oex N.oex N.iC N.tI G_N hr b_N .nil pass0 rfl G.m_NoRatio (pa_cons pe_str pa_nil)))) pss_nil)
      (pss_cons (ps_set (i := 3) sc_ratioInit.nd rfl (Or.inl rfl) (pe_callBfun cr_gcd rfl G.g_gcd (pa_cons (pv 1) (pa_cons (pv 2) pa_nil))))
      (C8.pss_cut (ps_if (pt_cmpR op_lt (pv 2) pe_int (nomark _)) (pss_one (ps_set (i := 3) sc_ratioInit.nd rfl (Or.inl rfl) (pe_un un_neg (pv 3)))) pss_nil)
      (pss_cons (ps_fld (pv 0) (pe_op op_fdivZ (pv 1) (pv 3)) rfl)
      (pss_one (ps_fld (pv 0) (pe_op op_fdivZ (pv 2) (pv 3)) rfl)))))))), ?_⟩
    refine ⟨_, rfl, u, rfl, tu, _, rfl, ?_⟩
    cases eu : isI u with
    | false =>
      refine iteT ⟨by decide, raise "top" ?_⟩
      exact kE "top" (by unfold dueW; rw [eu]; rfl)
    | true =>
      refine iteF ⟨_, rfl, v, rfl, tv, _, rfl, ?_⟩
      cases ev : isI v with
      | false =>
        refine iteT ⟨by decide, raise "bottom" ?_⟩
        exact kE "bottom" (by unfold dueW; rw [eu, ev]; rfl)
      | true =>
        obtain ⟨a, rfl⟩ : ∃ a, u = .int a := by
          exact isI_int eu
        obtain ⟨b, rfl⟩ : ∃ b, v = .int b := by
          exact isI_int ev
        refine iteF ⟨_, rfl, rfl, _, rfl, ?_⟩
        refine ite2 (fun c => ?_) (fun c => ?_)
        · refine ⟨by decide, raise "zero" ?_⟩
          have e : b = 0 := by simpa using c
          subst e
          exact kE "zero" rfl
        · have hb : b ≠ 0 := fun e => c (by simp [e])
          refine ⟨_, rfl, _, rfl, a, b, rfl, ?_⟩
          refine ⟨fun σ H' => H' = H ∧ ∃ c : Int, σ = [some (.ref x), some (.int a), some (.int b), some (.int c)] ∧ (c = (Int.gcd a b : Int) ∧ 0 < b ∨ c = -(Int.gcd a b : Int) ∧ b < 0), ?_, ?_⟩
          · refine ⟨_, rfl, _, _, rfl, rfl, _, rfl, ?_⟩
            refine ite2 (fun c1 => ?_) (fun c1 => ?_)
            · refine ⟨_, rfl, _, rfl, rfl, _, rfl, .inr ⟨rfl, of_decide_eq_true c1⟩⟩
            · have c2 : ¬ b < 0 := fun e => c1 (decide_eq_true e)
              exact ⟨rfl, _, rfl, .inl ⟨rfl, by omega⟩⟩
          · rintro σ H' ⟨rfl, g, rfl, hg⟩
            have L := low_of hb hg
            have hgb : Int.gcd a b ≤ b.natAbs := Nat.le_of_dvd (by omega) (Int.gcd_dvd_natAbs_right ..)
            have hgp : 0 < Int.gcd a b := Int.gcd_pos_of_ne_zero_right a hb
            have cz : CDivZ a g := ⟨by omega, by have := hs b rfl; omega⟩
            refine ⟨_, rfl, _, rfl, _, _, rfl, rfl, cz, _, rfl, x, C, dx, [], rfl, hx, T.cl, T.nT, (by show 0 < 1000; decide), ?_⟩
            refine ⟨_, rfl, _, rfl, _, _, rfl, rfl, cz, _, rfl, x, C, dx, _, rfl, upd_same, T.cl, T.nB, (by show 1 < 1000; decide), ?_⟩
            exact kQ a b rfl rfl hb _ _ _ L ⟨dx, upd_same⟩ (But.refl x _).upd.upd
end
end Sq

namespace Sq
open PySem L2 PyProof.Rows
/-- C(..) in a try's body: what leaves is wished for at the slots -/
def tMkS (C : Addr) (sp : Sp) (dvs : List V) (W : L2.St → XK) (t : TA) : TE := fun σ H Q => t σ H fun vs H1 => ∀ y dy, H1 y = none → H1 dy = none → dy ≠ y →
  sp (.ref y :: (vs ++ dvs)) (upd (upd H1 dy (.own y)) y (.ins C dy [])) (fun v H2 => v = .non ∧ Q (.ref y) H2) (W σ)
theorem pe_mkS {X : Cx} {CX : CXT} {k : Nat} {f C : Addr} {fd : FuncData} {ps : List Str} {sp : Sp} {dvs : List V} {ds : List Value} {W : L2.St → XK} {x : Str} {p pos : Pos} {e : Expr} {es : List Expr} {t : TA}
    (M : Mk X.K C f) (G : FnOk X.prog X.w X.K X.mg X.base CX k f fd ps sp) (room : Room (k + 1) X.A) (gl : Gl X x) (mx : X.mg x = some (.ref C)) (bi : Binds X.K fd ps ds) (dv : Vals dvs ds) (ok : ∀ σ, PassesAt CX X σ (W σ))
    (ha : PA X (e :: es) t) (nd : (x == ("__debug__" : Str)) = false := by decide) (st : starEach (e :: es) X.env = (false, eval e X.env) :: starEach es X.env := by rfl)
    (pl : (backTo pos (starEach es X.env)).any (·.1) = false := by rfl) : PE X (.Call (.Name x p) (e :: es) [] pos) (tMkS C sp dvs W t) := by
  refine ⟨fun pins s σ H Q I h => wpAny_Call_Name_kw (ld_glob I gl mx (PySem.W.callWith_K (h₀ := X.base) I.ok.mod.kin M.kp (thn (ha.run pos pins s σ H _ I h) fun us s1 hh => ?_) st pl) nd)⟩
  obtain ⟨vs, H1, I1, r, q⟩ := hh
  refine ⟨I1.kIn, ?_⟩
  have n1 : H1 (s1.heap.objs.size + 1) = none := I1.hok.fresh (Nat.le_succ _)
  have n0 : H1 s1.heap.objs.size = none := I1.hok.fresh (Nat.le_refl _)
  have want := q _ _ n1 n0 (Nat.ne_of_lt (Nat.lt_succ_self _))
  have J := Inv.made (C := C) I1
  have rr : Vals (V.ref (s1.heap.objs.size + 1) :: (vs ++ dvs)) (Value.ref (s1.heap.objs.size + 1) :: (us ++ ds)) := Paired.cons rfl (Vals.append r dv)
  have lens : (Value.ref (s1.heap.objs.size + 1) :: us ++ ds).length = ps.length := (rr.length.symm.trans (G.len _ _ _ _ want))
  have run := G.run _ X.stack _ _ ⟨Value.ref (s1.heap.objs.size + 1) :: us, []⟩ (Value.ref (s1.heap.objs.size + 1) :: (us ++ ds)) _ _ (W σ) (room.make C us []) (J.env0.make C us []) (bi _ (Value.ref (s1.heap.objs.size + 1) :: us) J.kIn lens) rr want
  refine wpAny_call (make_map (f := f) I1.kIn M.makes M.init (beq_iff_eq.mp M.fn) (codeAny_mono run fun res s2 out => ?_))
  cases res with
  | error er => exact ok σ pins _ _ er s2 J out
  | ok flow =>
    cases flow with
    | ret val =>
      obtain ⟨v, H3, J3, rv, ev, z⟩ := J.after out
      cases ev
      exact ⟨rv, V.ref (s1.heap.objs.size + 1), H3, J3, rfl, z⟩
    | next => cases out
    | brk => cases out
    | cont => cases out
/-- isinstance(e, c), e the caught error with its own dict -/
structure EIx (K : PySem.W.Frag) (D : Addr) : Prop where
  hcl : (PySem.W.clsIn K D).isSome = true
  hga : PySem.W.findIn K (.ref D) "__getattribute__" = some (some (.builtin "BaseException.__getattribute__"))
  hgt : PySem.W.findIn K (.ref D) "__getattr__" = some none
  hsub : PySem.W.subIn K (.ref D) (.type "BaseException") = some true
  ha : PySem.W.findIn K (.ref D) "__class__" = some (some (.builtin "object.__class__"))
  hn : PySem.W.specialIn K (.builtin "object.__class__") "__get__" = some (some (.builtin "getset_descriptor.__get__"))
  htk : PySem.W.takesIn K (.builtin "object.__class__") = some true
  hm : PySem.W.mroIn K D (.type "object") = some true
def rIsX (K : PySem.W.Frag) (D a : Addr) (cls : Value) (d : Option Addr) : List V → Hp → VK → Prop := fun xs H Q => ∃ (c : V) (cv : Value) (b : Bool) (dd : Addr) (fs : List (Str × V)), xs = [.ref a, c] ∧ ClsV c cv ∧ PySem.W.kitOne K (.ref D) cv = some b ∧
  cls = .ref D ∧ d = some dd ∧ H dd = some (.xd fs) ∧ Q (.bl b) H
theorem call_isX {X : Cx} {a D : Addr} {oe : Obj} {cls : Value} {d : Option Addr} {pn : List (Addr × Obj)} (C : EIx X.K D) (hz : Zc cls d oe) (hf : ∃ vs, oe.data = .fields vs) : CallR (X.suite a ((a, oe) :: pn)) (.builtin "isinstance") (rIsX X.K D a cls d) := by
  intro pins s σ H xs us Q I r h
  obtain ⟨c, cv, b, dd, fs, rfl, hcv, e, ec, ed, hd, q⟩ := h
  obtain ⟨x1, x2, e1, r1, r2⟩ : ∃ x1 x2, us = [x1, x2] ∧ RelV (.ref a) x1 ∧ RelV c x2 := by
    cases r with
    | cons rx rr =>
      cases rr with
      | cons rt rn =>
        cases rn
        exact ⟨_, _, rfl, rx, rt⟩
  subst e1
  have e1 : x1 = Value.ref a := r1
  subst e1
  have e2 := hcv.eq r2
  subst e2
  obtain ⟨hget, _⟩ := I.pin (a, oe) (List.mem_append.mpr (.inl List.mem_cons_self))
  obtain ⟨vs, hv⟩ := hf
  obtain ⟨mA, hns, _⟩ := (show ObjOk X.prog X.w H s.heap dd (.xd fs) from I.hok dd _ hd)
  obtain ⟨od, ho, _⟩ := lookIn_ns hns
  have J : PySem.W.InstAt s.heap a oe D (some od) := ⟨hget, hz.1.trans ec, by unfold PySem.W.notCls; rw [hv], by rw [hz.2, ed]; exact ho⟩
  exact PySem.W.kia_one (PySem.W.kitx_exc C.hcl C.hga C.hgt C.hsub C.ha C.hn C.htk C.hm) I.kIn J e (fun z => nomatch z) fun tk => ⟨.bl b, H, I.kept (t' := tk) fun _ _ z => z, rfl, q⟩
structure ITy (K : PySem.W.Frag) (C : Addr) : Prop where
  ha : PySem.W.findIn K (.ref C) "__class__" = some (some (.builtin "object.__class__"))
  hn : PySem.W.specialIn K (.builtin "object.__class__") "__get__" = some (some (.builtin "getset_descriptor.__get__"))
  htk : PySem.W.takesIn K (.builtin "object.__class__") = some true
  hm : PySem.W.mroIn K C (.type "object") = some true
  kI : PySem.W.kitOne K (.ref C) (.type "int") = some false
  kB : PySem.W.kitOne K (.ref C) (.type "bool") = some false
theorem kit_self {K : PySem.W.Frag} {C : Addr} : PySem.W.kitOne K (.ref C) (.ref C) = some true := by
  unfold PySem.W.kitOne
  rw [if_pos (by simp)]
theorem RatAt.ty {K : PySem.W.Frag} {C : Addr} {H : Hp} {x : Addr} {t u : Int} (T : CTx K C) (Y : ITy K C) (h : RatAt C H x t u) : TyX K H (.ref x) (.ref C) := by
  obtain ⟨dx, h⟩ := h
  exact .base (.ins h T.cl Y.ha Y.hn Y.htk Y.hm)
theorem RatAt.isTy {K : PySem.W.Frag} {C : Addr} {H : Hp} {x : Addr} {t u : Int} (T : CTx K C) (Y : ITy K C) (h : RatAt C H x t u) : IsTy K H (.ref x) := ⟨_, _, _, h.ty T Y, Y.kI, Y.kB, rfl⟩
theorem mul_ok {a b : Int} (ha : a.natAbs < 2 ^ 4000) (hb : b.natAbs < 2 ^ 4000) : CMulW a b := wide_mul ha hb (by decide) (by decide) (by decide)
theorem IsTy.same {K : PySem.W.Frag} {H H' : Hp} {x : V} (s : Same H H') (h : IsTy K H x) : IsTy K H' x := by
  obtain ⟨t, b1, b2, ty, h1, h2, h3⟩ := h
  refine ⟨t, b1, b2, ?_, h1, h2, h3⟩
  cases ty with
  | base b =>
    refine .base ?_
    cases b with
    | non => exact .non
    | bl => exact .bl _
    | int => exact .int _
    | str => exact .str _
    | flt => exact .flt _
    | lst e => exact .lst (s _ _ e)
    | frz e => exact .frz (s _ _ e)
    | tup e => exact .tup (s _ _ e)
    | dK e => exact .dK (s _ _ e)
    | dT e => exact .dT (s _ _ e)
    | ins e c1 c2 c3 c4 c5 => exact .ins (s _ _ e) c1 c2 c3 c4 c5
  | byt => exact .byt _
  | set e => exact .set (s _ _ e)
  | kList e c => exact .kList e c
  | kTuple e c => exact .kTuple e c
  | kDict e c => exact .kDict e c
  | fTuple e => exact .fTuple (s _ _ e)
  | fDict e => exact .fDict (s _ _ e)
theorem same_made {H H1 : Hp} {x dx C : Addr} (nx : H x = none) (nd : H dx = none) (k : But x (upd (upd H dx (.own x)) x (.ins C dx [])) H1) : Same H H1 := fun b o e =>
  k b o (by rw [upd_ne (ne_of_none e nx), upd_ne (ne_of_none e nd)]; exact e) (ne_of_none e nx)
theorem same_pair {H : Hp} {x dx C : Addr} (nx : H x = none) (nd : H dx = none) (ne : dx ≠ x) : Same H (upd (upd H dx (.own x)) x (.ins C dx [])) := same_new (same_new (Same.refl H) nd) ((upd_ne ne.symm).trans nx)
theorem due_none {a b : Int} (hb : b ≠ 0) : dueW (.int a) (.int b) = none := by
  unfold dueW
  have : ¬ (V.int b = V.int 0) := fun e => hb (V.int.inj e)
  simp [isI, this]
theorem due_top {u v : V} (h : isI u = false) : dueW u v = some ("top" : Str) := by
  unfold dueW
  simp [h]
theorem due_bottom {a : Int} {v : V} (h : isI v = false) : dueW (.int a) v = some ("bottom" : Str) := by
  unfold dueW
  rw [if_pos (show isI (.int a) = true from rfl), h, if_neg Bool.false_ne_true]
theorem mk_go {K : PySem.W.Frag} {C CN x dx : Addr} {H : Hp} {a b : Int} {Q : VK} {E : XK} (hb : b ≠ 0) (sb : b.natAbs < 2 ^ 8000) (nx : H x = none) (ndx : H dx = none) (_ne : dx ≠ x) (k : ∀ t u H', Low a b t u → RatAt C H' x t u → Same H H' → Q .non H') :
    spRatioInit K C CN [.ref x, .int a, .int b] (upd (upd H dx (.own x)) x (.ins C dx [])) Q E :=
  ⟨x, dx, _, _, rfl, upd_same, .int _, .int _, fun b' e => (by cases e; exact sb), fun z hz => (by rw [due_none hb] at hz; cases hz), fun a' b' ea eb _ t w H' L R Bt => by
    cases ea
    cases eb
    exact k t w H' L R (same_made nx ndx Bt)⟩
def spLaw (K : PySem.W.Frag) : Sp := fun vs H Q _ => ∃ (a : Addr) (ns : List Int), vs = [.ref a] ∧ SqL K H a (ns.map V.int) ∧ ns.length ≤ 63 ∧ ∀ H', Q (.bl true) H'
end Sq

namespace Sq
open PySem L2 PyProof.Rows
/-- o.m(..) in a try's body: what leaves is wished for at the slots -/
def tMtS (C : Addr) (m : Str) (sp : Sp) (W : L2.St → XK) (to : TE) (t : TA) : TE := fun σ H Q => to σ H fun x H1 => ∃ a dy fs, x = .ref a ∧ H1 a = some (.ins C dy fs) ∧ fs.lookup m = none ∧ t σ H1 fun vs H2 => sp (x :: vs) H2 Q (W σ)
theorem pe_mtS {X : Cx} {CX : CXT} {k : Nat} {f C : Addr} {fd : FuncData} {ps : List Str} {sp : Sp} {W : L2.St → XK} {m : Str} {apos pos : Pos} {o e : Expr} {es : List Expr} {to : TE} {t : TA} {pl : Sem Bool}
    (ho : PE X o to) (cl : Cls X.K C) (me : Meth X.K C m f) (G : FnOk X.prog X.w X.K X.mg X.base CX k f fd ps sp) (room : Room k X.A) (bi : Binds X.K fd ps []) (ok : ∀ σ, PassesAt CX X σ (W σ)) (ha : PA X (e :: es) t)
    (st : starEach (e :: es) X.env = (false, eval e X.env) :: starEach es X.env := by rfl) (np : (backTo pos (starEach es X.env)).any (·.1) = false := by rfl)
    (ev : eval (.Call (.Attribute o m apos) (e :: es) [] pos) X.env = (do let ov ← eval o X.env; standAt apos.atName; let (f, first) ← holding [ov] (getMethod ov m pl); callWith pos f first (backTo pos (starEach (e :: es) X.env)) (backToKw pos (keywordEach [] X.env))) := by rfl) :
    PE X (.Call (.Attribute o m apos) (e :: es) [] pos) (tMtS C m sp W to t) := by
  refine ⟨fun pins s σ H Q I h => PySem.W.methodCall_KW (pl := pl) (thn (ho.run pins s σ H _ I h) fun u s1 hh => ?_) ev⟩
  obtain ⟨x, H1, I1, rx, a, dy, fs, ex, ea, l, q⟩ := hh
  cases ex
  cases rx
  refine getmeth_ok I1 ea cl me l (PySem.W.callWith_K (first := [.ref a]) (h₀ := X.base) I.ok.mod.kin me.kp (thn (ha.run pos pins s1 σ H1 _ I1 q) fun us s2 h2 => ?_) st np)
  obtain ⟨vs, H2, I2, r, q2⟩ := h2
  exact ⟨I2.kIn, run_fnS (us := .ref a :: us) (vs := .ref a :: vs) G room bi (ok σ) I2 (.cons rfl r) q2⟩
/-! ### sizes by powers of two -/
def B (n : Nat) (x : Int) : Prop := x.natAbs < 2 ^ n
theorem B_le {n m : Nat} {x : Int} (h : B n x) (hn : n ≤ m) : B m x := Nat.lt_of_lt_of_le h (Nat.pow_le_pow_right (by decide) hn)
theorem B_mul {n m : Nat} {x y : Int} (h : B n x) (h' : B m y) : B (n + m) (x * y) := wide_lt h h'
theorem B_add {n m : Nat} {x y : Int} (h : B n x) (h' : B m y) : B (max n m + 1) (x + y) := by
  have a := B_le h (Nat.le_max_left n m)
  have b := B_le h' (Nat.le_max_right n m)
  unfold B at *
  rw [Nat.pow_succ]
  omega
theorem B_neg {n : Nat} {x : Int} (h : B n x) : B n (-x) := by
  unfold B at *
  omega
theorem B_sub {n m : Nat} {x y : Int} (h : B n x) (h' : B m y) : B (max n m + 1) (x - y) := by
  have := B_add h (B_neg h')
  rw [← Int.sub_eq_add_neg] at this
  exact this
theorem B_abs {n : Nat} {x y : Int} (h : B n x) (hy : y.natAbs ≤ x.natAbs) : B n y := Nat.lt_of_le_of_lt hy h
theorem mulB {n m : Nat} {x y : Int} (h : B n x) (h' : B m y) (hs : n + m + 2 ≤ 1000000) : CMulW x y := wide_mul (B_le h (Nat.le_succ n)) (B_le h' (Nat.le_succ m)) (Nat.succ_pos _) (Nat.succ_pos _) (by omega)
end Sq

namespace Sq
open PySem L2 PyProof.Rows
theorem cmpBack_of {X : Cx} {pins : List (Addr × Obj)} {σ : L2.St} {Q : VK} {u : Value} {s' : Shared} (h : EP X pins σ Q u s') : PySem.W.CmpBack (EP X pins σ Q) u s' := by
  cases u with
  | notImplemented =>
    obtain ⟨v, _, _, r, _⟩ := h
    cases v with
    | non => cases r
    | bl _ => cases r
    | ref _ => cases r
    | ty _ => cases r
    | int _ => obtain ⟨_, e⟩ := r; cases e
    | str _ => obtain ⟨_, e⟩ := r; cases e
    | byt _ => obtain ⟨_, e⟩ := r; cases e
    | flt _ => obtain ⟨_, e⟩ := r; cases e
  | _ => exact h
/-- an operator of an own class, found by its name -/
structure OwnOp (K : PySem.W.Frag) (C f : Addr) (nm : Str) : Prop where
  at_ : PySem.W.findIn K (.ref C) nm = some (some (.ref f))
  fn : PySem.W.isFn K (.ref f) = true
section
variable {X : Cx} {CX : CXT} {k : Nat} {f C : Addr} {fd : FuncData} {ps : List Str} {sp : Sp} {E : XK}
theorem inst_at {pins : List (Addr × Obj)} {σ : L2.St} {H : Hp} {s : Shared} {a C dx : Addr} {fs : List (Str × V)} (I : Inv X pins σ H s) (h : H a = some (.ins C dx fs)) : ∃ od, PySem.W.InstAt s.heap a (PySem.W.instObj C dx) C (some od) := by
  obtain ⟨mA, J, _⟩ := ins_get I.hok h
  obtain ⟨od, J, _⟩ := J.look
  exact ⟨od, J⟩
/-- a + b, both of the class at C -/
def rOwn2 (C : Addr) (sp : Sp) (E : XK) : R2 := fun x y H Q => ∃ a b dx dy fs gs, x = .ref a ∧ y = .ref b ∧ H a = some (.ins C dx fs) ∧ H b = some (.ins C dy gs) ∧ sp [x, y] H Q E
theorem op_own2 {op : Operator} (hc : PySem.W.selfFirst X.K C = true) (O : OwnOp X.K C f (PySem.dunder op.info.2)) (G : FnOk X.prog X.w X.K X.mg X.base CX k f fd ps sp) (hr : Room k X.A) (hb : Binds X.K fd ps []) (hx : Passes CX X E) :
    OpR X (binaryOp op) (rOwn2 C sp E) := by
  rintro pins s σ H x y v u Q I rx ry ⟨a, b, dx, dy, fs, gs, rfl, rfl, ha, hb', hsp⟩
  cases rx
  cases ry
  obtain ⟨od, J⟩ := inst_at I ha
  obtain ⟨od', J'⟩ := inst_at I hb'
  obtain ⟨m, hF⟩ := I.fr
  refine PySem.W.binop_K hF I.ok.mod.kin J J'.type hc O.at_ O.fn ?_
  exact wpAny_mono (run_fn (us := [.ref a, .ref b]) (vs := [.ref a, .ref b]) G hr hb .nil hx I (.cons rfl (.cons rfl .nil)) hsp) (fun _ _ h => cmpBack_of h) fun _ _ z => z
/-- a + i, a of the class at C, i an int -/
structure IntOp (K : PySem.W.Frag) (C : Addr) (nm : String) : Prop where
  h1 : ∃ fo, PySem.W.findIn K (.type "int") (PySem.dunder nm) = some fo
  h2 : ∃ ro, PySem.W.findIn K (.type "int") (dunderR nm) = some ro
  hsub : PySem.W.subIn K (.type "int") (.ref C) = some false
  hr : ∃ g : Addr, PySem.W.findIn K (.ref C) (dunderR nm) = some (some (.ref g))
def rOwnI (C : Addr) (sp : Sp) (E : XK) : R2 := fun x y H Q => ∃ a i dx fs, x = .ref a ∧ y = .int i ∧ H a = some (.ins C dx fs) ∧ sp [x, y] H Q E
theorem op_ownI {op : Operator} (hc : PySem.W.selfFirst X.K C = true) (O : OwnOp X.K C f (PySem.dunder op.info.2)) (N : IntOp X.K C op.info.2) (G : FnOk X.prog X.w X.K X.mg X.base CX k f fd ps sp) (hr : Room k X.A) (hb : Binds X.K fd ps []) (hx : Passes CX X E) :
    OpR X (binaryOp op) (rOwnI C sp E) := by
  rintro pins s σ H x y v u Q I rx ry ⟨a, i, dx, fs, rfl, rfl, ha, hsp⟩
  cases rx
  obtain ⟨t, rfl⟩ := ry
  obtain ⟨od, J⟩ := inst_at I ha
  obtain ⟨m, hF⟩ := I.fr
  obtain ⟨fo, h1⟩ := N.h1
  obtain ⟨ro, h2⟩ := N.h2
  obtain ⟨g, h3⟩ := N.hr
  refine PySem.W.ksp_binT (T := "int") hF I.ok.mod.kin J rfl hc O.at_ O.fn h3 (.inr ⟨g, rfl⟩) h1 h2 N.hsub ?_
  exact wpAny_mono (run_fn (us := [.ref a, .int i t]) (vs := [.ref a, .int i]) G hr hb .nil hx I (.cons rfl (.cons ⟨t, rfl⟩ .nil)) hsp) (fun _ _ h => cmpBack_of h) fun _ _ z => z
/-- -a -/
def rOwn1 (C : Addr) (sp : Sp) (E : XK) : V → Hp → VK → Prop := fun x H Q => ∃ a dx fs, x = .ref a ∧ H a = some (.ins C dx fs) ∧ sp [x] H Q E
theorem un_own (O : OwnOp X.K C f "__neg__") (G : FnOk X.prog X.w X.K X.mg X.base CX k f fd ps sp) (hr : Room k X.A) (hb : Binds X.K fd ps []) (hx : Passes CX X E) : UnR X (unaryOp .USub) (rOwn1 C sp E) := by
  rintro pins s σ H x v Q I rx ⟨a, dx, fs, rfl, ha, hsp⟩
  cases rx
  obtain ⟨od, J⟩ := inst_at I ha
  obtain ⟨m, hF⟩ := I.fr
  refine PySem.W.ksp_neg hF I.ok.mod.kin J O.at_ O.fn ?_
  exact run_fn (us := [.ref a]) (vs := [.ref a]) G hr hb .nil hx I (.cons rfl .nil) hsp
end
end Sq
namespace Sq
open PySem L2 PyProof.Rows
/-- a built-in operator of ints, upon an object that holds no int: NotImplemented -/
def SNot (a : Addr) : PySem.Spec := fun _ R s => (∃ o, s.heap.get? a = some o ∧ o.data = .plain) ∧ R (.ok (.ret .notImplemented)) s
theorem bin_not {nm : String} {g : Int → Int → Sem Fin} {i : Int} {t : Tok} {a : Addr} : Meets (Builtin.Int.intBinary nm g false ⟨[.int i t, .ref a], []⟩) (SNot a) := by
  rintro prog w A R s ⟨⟨o, ho, hd⟩, q⟩
  unfold Builtin.Int.intBinary
  refine wpAny_bind (wpAny_of_eq (a := ((Value.int i t : Value), [Value.ref a])) (by first | rfl | (simp only [slotArgs]; rfl)) ?_)
  refine wpAny_bind (wpAny_of_eq (a := i) (by rfl) ?_)
  refine wpAny_bind (wpAny_bind (wpAny_load ho ?_))
  rw [hd]
  exact wpAny_pure (wpAny_bind (wpAny_rule (wpAny_pure q)))
section
variable {X : Cx} {CX : CXT} {k : Nat} {f C : Addr} {fd : FuncData} {ps : List Str} {sp : Sp} {E : XK}
/-- i + a, i an int, a of the class at C -/
def rIOwn (C : Addr) (sp : Sp) (E : XK) : R2 := fun x y H Q => ∃ a i dx fs, x = .int i ∧ y = .ref a ∧ H a = some (.ins C dx fs) ∧ sp [y, x] H Q E
theorem bin1_right {M : Model} {A : Around} {E : Value → Shared → Prop} {s : Shared} {K : PySem.W.Frag} {a C f : Addr} {ox : Obj} {od : Option Obj} {nm : String} {i : Int} {t : Tok} {id : String} {Q : Option Value → Shared → Prop}
    (Y : K.In s.heap) (I : PySem.W.InstAt s.heap a ox C od) (hc : PySem.W.selfFirst K C = true) (fT : fillsNumberSlot (.type "int") nm = pure true) (sl : Slot "int" (PySem.dunder nm) id)
    (h0 : PySem.W.findIn K (.ref C) (PySem.dunder nm) = some (some (.ref f))) {g : Addr} (hs : PySem.W.findIn K (.ref C) (dunderR nm) = some (some (.ref g))) (hf : PySem.W.isFn K (.ref g) = true) (hsub : PySem.W.subIn K (.ref C) (.type "int") = some false)
    (hcall : wpAny M A (call (.builtin id) [.int i t, .ref a]) (fun v s' => v = .notImplemented ∧ s' = s) E s)
    (h : wpAny M A (call (.ref g) [.ref a, .int i t]) (PySem.W.CmpBack fun v s' => Q (some v) s') E s) : wpAny M A (binaryOp1 nm (.int i t) (.ref a)) Q E s := by
  obtain ⟨cd, rest, hcd, hm⟩ := PySem.W.ksp_first hc
  have L1 : PySem.W.Looks M s.heap (typeOf (.ref a)) (.ref C) := I.type
  have L2 : PySem.W.Looks M s.heap (fillsNumberSlot (.ref C) nm) true := PySem.W.fills_K Y hcd hm h0
  have L3 : PySem.W.Looks M s.heap (isSubtype (.ref C) (.type "int")) false := PySem.W.looks_subIn Y hsub
  have two : wpAny M A (tryMethod (.ref a) (dunderR nm) (.int i t)) (fun r s' => ∃ v, r = some v ∧ Q (some v) s') E s := PySem.W.ksp_try Y I hs hf h
  simp only [binaryOp1]
  refine wpAny_bind (wpAny_of_eq (a := Value.type "int") rfl (wpAny_bind (L1.here (wpAny_bind (wpAny_of_eq fT ?_)))))
  have ne : (Value.type "int" == Value.ref C) = false := Bool.eq_false_iff.mpr fun q => by cases beq_iff_eq.mp q
  simp only [ne, Bool.false_eq_true, if_false]
  refine wpAny_bind (L2.here ?_)
  simp only [Bool.and_self, if_true]
  refine wpAny_bind (L3.here ?_)
  have hpy : numberSlotInPython (.type "int") nm = pure false := rfl
  simp only [Bool.false_eq_true, if_false, pure_bind, Bool.not_false, Bool.and_self, if_true, hpy]
  refine wpAny_bind (m := tryMethod (.int i t) _ _) ?_
  have hT : s.TypeIs (.int i t) "int" := typeIs_int s i t
  unfold tryMethod
  refine wpAny_bind (wpAny_callSpecial?_slot hT sl (wpAny_mono hcall (fun v s1 h1 => ?_) fun _ _ z => z))
  obtain ⟨rfl, rfl⟩ := h1
  refine wpAny_pure (wpAny_bind (wpAny_mono two (fun r s2 h2 => ?_) fun _ _ z => z))
  obtain ⟨v, rfl, q⟩ := h2
  exact wpAny_bind (wpAny_rule (wpAny_pure q))
end
end Sq
namespace Sq
open PySem L2 PyProof.Rows
/-- what the class must say for i + a -/
structure RevOp (K : PySem.W.Frag) (C f g : Addr) (nm : String) : Prop where
  h0 : PySem.W.findIn K (.ref C) (PySem.dunder nm) = some (some (.ref f))
  hs : PySem.W.findIn K (.ref C) (dunderR nm) = some (some (.ref g))
  hf : PySem.W.isFn K (.ref g) = true
  hsub : PySem.W.subIn K (.ref C) (.type "int") = some false
/-- the built-in side of an operator of ints -/
structure BltOp (op : Operator) : Prop where
  fT : fillsNumberSlot (.type "int") op.info.2 = pure true
  sl : ∃ id B, Slot "int" (PySem.dunder op.info.2) id ∧ entryFor table id = some B ∧ (∀ a b : Value, argsOk id ⟨[a, b], []⟩) ∧ ∃ nm g, ∀ args, B args = Builtin.Int.intBinary nm g false args
theorem blt_add : BltOp .Add := ⟨F.fills_int_add, _, _, F.slot_int_add, F.entry_int_add, F.args_int_add_2, _, _, fun _ => rfl⟩
theorem blt_sub : BltOp .Sub := ⟨F.fills_int_sub, _, _, F.slot_int_sub, F.entry_int_sub, F.args_int_sub_2, _, _, fun _ => rfl⟩
theorem blt_mul : BltOp .Mult := ⟨F.fills_int_mul, _, _, F.slot_int_mul, F.entry_int_mul, F.args_int_mul_2, _, _, fun _ => rfl⟩
section
variable {X : Cx} {CX : CXT} {k : Nat} {f C : Addr} {fd : FuncData} {ps : List Str} {sp : Sp} {E : XK}
theorem bin_of1 {M : Model} {A : Around} {E : Value → Shared → Prop} {s : Shared} {op : Operator} {a b : Value} {Q : Value → Shared → Prop} (h : wpAny M A (binaryOp1 op.info.2 a b) (fun r s' => ∃ v, r = some v ∧ Q v s') E s) : wpAny M A (binaryOp op a b) Q E s := by
  rcases hi : op.info with ⟨sym, nm⟩
  rw [hi] at h
  simp only [binaryOp, hi]
  refine wpAny_holding (wpAny_bind (wpAny_mono h (fun r s' hr => ?_) fun _ _ z => z))
  obtain ⟨v, rfl, q⟩ := hr
  exact wpAny_pure q
theorem op_Iown {op : Operator} {g : Addr} (hc : PySem.W.selfFirst X.K C = true) (B : BltOp op) (R : RevOp X.K C f g op.info.2) (G : FnOk X.prog X.w X.K X.mg X.base CX k g fd ps sp) (hr : Room k X.A) (hb : Binds X.K fd ps []) (hx : Passes CX X E) :
    OpR X (binaryOp op) (rIOwn C sp E) := by
  rintro pins s σ H x y v u Q I rx ry ⟨a, i, dx, fs, rfl, rfl, ha, hsp⟩
  cases ry
  obtain ⟨t, rfl⟩ := rx
  obtain ⟨od, J⟩ := inst_at I ha
  obtain ⟨id, Bf, sl, en, ar, nm, gg, hB⟩ := B.sl
  refine bin_of1 (bin1_right I.kIn J hc B.fT sl R.h0 R.hs R.hf R.hsub ?_ ?_)
  · refine call_meets sl (typeIs_int s i t) en (ar _ _) (S := SNot a) ?_ ⟨⟨_, J.at_, rfl⟩, rfl, rfl⟩
    rw [hB]
    exact bin_not
  · refine wpAny_mono (run_fn (us := [.ref a, .int i t]) (vs := [.ref a, .int i]) G hr hb .nil hx I (.cons rfl (.cons ⟨t, rfl⟩ .nil)) hsp) (fun u s' h => ?_) fun _ _ z => z
    have c := cmpBack_of h
    cases u with
    | notImplemented => exact c.elim
    | _ => exact ⟨_, rfl, c⟩
/-- the class has only itself and object above it -/
structure MroOk (K : PySem.W.Frag) (C : Addr) (cd : ClassData) : Prop where
  hc : PySem.W.clsIn K C = some cd
  hm : cd.mro = [.ref C, .type "object"]
structure NoIn (K : PySem.W.Frag) (C : Addr) (nm : String) : Prop where
  h1 : PySem.W.findIn K (.ref C) (dunderI nm) = some none
  h2 : PySem.W.findIn K (.type "object") (dunderI nm) = some none
theorem no_inplace {K : PySem.W.Frag} {M : Model} {h : Heap} {cd : ClassData} {nm : String} {add : Bool} (Y : K.In h) (O : MroOk K C cd) (N : NoIn K C nm) : PySem.W.Looks M h (fillsInplaceSlot (.ref C) nm add) false := by
  intro A Q E s kk q
  have Lm : PySem.W.Looks M h (mroOf (.ref C)) cd.mro := (PySem.W.looks_clsIn Y O.hc).andThen (f := fun cd => pure cd.mro) .now
  have L1 : PySem.W.Looks M h (typeLookup (.ref C) (dunderI nm)) none := PySem.W.looks_findIn Y N.h1
  have L2 : PySem.W.Looks M h (typeLookup (.type "object") (dunderI nm)) none := PySem.W.looks_findIn Y N.h2
  unfold fillsInplaceSlot
  refine wpAny_bind (Lm A _ E s kk ?_)
  rw [O.hm, List.anyM_cons]
  refine wpAny_bind (wpAny_bind (L1 A _ E s kk (wpAny_pure ?_)))
  rw [if_neg Bool.false_ne_true, List.anyM_cons]
  refine wpAny_bind (wpAny_bind (L2 A _ E s kk (wpAny_pure ?_)))
  rw [if_neg Bool.false_ne_true, List.anyM_nil]
  exact wpAny_pure q
theorem inplace_of1 {M : Model} {A : Around} {E : Value → Shared → Prop} {s : Shared} {K : PySem.W.Frag} {op : Operator} {a : Addr} {b : Value} {ox : Obj} {od : Option Obj} {cd : ClassData} {Q : Value → Shared → Prop} (Y : K.In s.heap) (I : PySem.W.InstAt s.heap a ox C od) (O : MroOk K C cd) (N : NoIn K C op.info.2)
    (h : wpAny M A (binaryOp1 op.info.2 (.ref a) b) (fun r s' => ∃ v, r = some v ∧ Q v s') E s) : wpAny M A (inplaceOp op (.ref a) b) Q E s := by
  have L1 : PySem.W.Looks M s.heap (typeOf (.ref a)) (.ref C) := I.type
  have L2 : PySem.W.Looks M s.heap (fillsInplaceSlot (.ref C) op.info.2 (op == .Add)) false := no_inplace Y O N
  unfold inplaceOp
  refine wpAny_holding (wpAny_bind (L1.here (wpAny_bind (L2.here ?_))))
  simp only [Bool.false_eq_true, if_false]
  refine wpAny_bind (wpAny_mono h (fun r s' hr => ?_) fun _ _ z => z)
  obtain ⟨v, rfl, q⟩ := hr
  exact wpAny_pure q
theorem bin1_two {M : Model} {A : Around} {E : Value → Shared → Prop} {s : Shared} {K : PySem.W.Frag} {a : Addr} {b : Value} {ox : Obj} {od : Option Obj} {nm : String} {Q : Option Value → Shared → Prop} (Y : K.In s.heap) (I : PySem.W.InstAt s.heap a ox C od)
    (hb : PySem.W.Looks M s.heap (typeOf b) (.ref C)) (hc : PySem.W.selfFirst K C = true) (O : OwnOp K C f (PySem.dunder nm)) (h : wpAny M A (call (.ref f) [.ref a, b]) (PySem.W.CmpBack fun v s' => Q (some v) s') E s) : wpAny M A (binaryOp1 nm (.ref a) b) Q E s := by
  obtain ⟨cd, rest, hcd, hm⟩ := PySem.W.ksp_first hc
  have L1 : PySem.W.Looks M s.heap (typeOf (.ref a)) (.ref C) := I.type
  have L2 : PySem.W.Looks M s.heap (fillsNumberSlot (.ref C) nm) true := PySem.W.fills_K Y hcd hm O.at_
  have one : wpAny M A (tryMethod (.ref a) (PySem.dunder nm) b) (fun r s' => ∃ v, r = some v ∧ Q (some v) s') E s := PySem.W.ksp_try Y I O.at_ O.fn h
  simp only [binaryOp1]
  refine wpAny_bind (L1.here (wpAny_bind (hb.here (wpAny_bind (L2.here ?_)))))
  simp only [beq_self_eq_true, if_true]
  refine wpAny_bind (wpAny_pure ?_)
  simp only [Bool.and_false, Bool.false_eq_true, if_false, Bool.false_and, pure_bind, if_true]
  refine wpAny_bind (wpAny_mono one (fun r s' hr => ?_) fun _ _ z => z)
  obtain ⟨v, rfl, q⟩ := hr
  exact wpAny_pure q
theorem bin1_int {M : Model} {A : Around} {E : Value → Shared → Prop} {s : Shared} {K : PySem.W.Frag} {a : Addr} {i : Int} {t : Tok} {ox : Obj} {od : Option Obj} {nm : String} {Q : Option Value → Shared → Prop} (Y : K.In s.heap) (I : PySem.W.InstAt s.heap a ox C od)
    (hc : PySem.W.selfFirst K C = true) (O : OwnOp K C f (PySem.dunder nm)) (N : IntOp K C nm) (h : wpAny M A (call (.ref f) [.ref a, .int i t]) (PySem.W.CmpBack fun v s' => Q (some v) s') E s) : wpAny M A (binaryOp1 nm (.ref a) (.int i t)) Q E s := by
  obtain ⟨cd, rest, hcd, hm⟩ := PySem.W.ksp_first hc
  obtain ⟨fo, h1⟩ := N.h1
  obtain ⟨ro, h2⟩ := N.h2
  obtain ⟨g, h3⟩ := N.hr
  have L1 : PySem.W.Looks M s.heap (typeOf (.ref a)) (.ref C) := I.type
  have L2 : PySem.W.Looks M s.heap (fillsNumberSlot (.ref C) nm) true := PySem.W.fills_K Y hcd hm O.at_
  have L3 : PySem.W.Looks M s.heap (fillsNumberSlot (.type "int") nm) ((fo.isSome && !isSeqSlot fo) || (ro.isSome && !isSeqSlot ro)) := PySem.W.ksp_fillsT Y h1 h2
  have L4 : PySem.W.Looks M s.heap (isSubtype (.type "int") (.ref C)) false := PySem.W.looks_subIn Y N.hsub
  have L5 : PySem.W.Looks M s.heap (numberSlotInPython (.ref C) nm) true := PySem.W.ksp_inPy Y O.at_ h3 (.inr ⟨g, rfl⟩)
  have L6 : PySem.W.Looks M s.heap (typeLookup (.type "int") (dunderR nm)) ro := PySem.W.looks_findIn Y h2
  have one : wpAny M A (tryMethod (.ref a) (PySem.dunder nm) (.int i t)) (fun r s' => ∃ v, r = some v ∧ Q (some v) s') E s := PySem.W.ksp_try Y I O.at_ O.fn h
  have ne : (Value.ref C == Value.type "int") = false := Bool.eq_false_iff.mpr fun q => by cases beq_iff_eq.mp q
  have hpy : numberSlotInPython (.type "int") nm = pure false := rfl
  simp only [binaryOp1]
  refine wpAny_bind (L1.here (wpAny_bind (wpAny_of_eq (a := Value.type "int") rfl (wpAny_bind (L2.here ?_)))))
  simp only [ne, Bool.false_eq_true, if_false]
  refine wpAny_bind (L3.here ?_)
  generalize ((fo.isSome && !isSeqSlot fo) || (ro.isSome && !isSeqSlot ro)) = right
  cases right with
  | false =>
    simp only [Bool.and_false, Bool.false_eq_true, if_false, Bool.false_and, pure_bind, if_true]
    refine wpAny_bind (wpAny_mono one (fun r s' hr => ?_) fun _ _ z => z)
    obtain ⟨v, rfl, q⟩ := hr
    exact wpAny_pure q
  | true =>
    simp only [Bool.and_self, if_true]
    refine wpAny_bind (L4.here ?_)
    simp only [Bool.false_eq_true, if_false, pure_bind, Bool.not_false, Bool.and_self, if_true]
    refine wpAny_bind (L5.here ?_)
    simp only [if_true, hpy, pure_bind, Bool.not_false]
    refine wpAny_bind (L6.here (wpAny_bind (wpAny_mono one (fun r s' hr => ?_) fun _ _ z => z)))
    obtain ⟨v, rfl, q⟩ := hr
    exact wpAny_pure q
theorem back_some {pins : List (Addr × Obj)} {σ : L2.St} {Q : VK} {u : Value} {s' : Shared} (h : EP X pins σ Q u s') : PySem.W.CmpBack (fun v s' => ∃ w, some v = some w ∧ EP X pins σ Q w s') u s' := by
  have c := cmpBack_of h
  cases u with
  | notImplemented => exact c.elim
  | _ => exact ⟨_, rfl, c⟩
theorem ip_own2 {op : Operator} {cd : ClassData} (hc : PySem.W.selfFirst X.K C = true) (M : MroOk X.K C cd) (N : NoIn X.K C op.info.2) (O : OwnOp X.K C f (PySem.dunder op.info.2)) (G : FnOk X.prog X.w X.K X.mg X.base CX k f fd ps sp) (hr : Room k X.A) (hb : Binds X.K fd ps []) (hx : Passes CX X E) :
    OpR X (inplaceOp op) (rOwn2 C sp E) := by
  rintro pins s σ H x y v u Q I rx ry ⟨a, b, dx, dy, fs, gs, rfl, rfl, ha, hb', hsp⟩
  cases rx
  cases ry
  obtain ⟨od, J⟩ := inst_at I ha
  obtain ⟨od', J'⟩ := inst_at I hb'
  exact inplace_of1 I.kIn J M N (bin1_two I.kIn J J'.type hc O (wpAny_mono (run_fn (us := [.ref a, .ref b]) (vs := [.ref a, .ref b]) G hr hb .nil hx I (.cons rfl (.cons rfl .nil)) hsp) (fun _ _ h => back_some h) fun _ _ z => z))
theorem ip_ownI {op : Operator} {cd : ClassData} (hc : PySem.W.selfFirst X.K C = true) (M : MroOk X.K C cd) (N : NoIn X.K C op.info.2) (O : OwnOp X.K C f (PySem.dunder op.info.2)) (NI : IntOp X.K C op.info.2) (G : FnOk X.prog X.w X.K X.mg X.base CX k f fd ps sp) (hr : Room k X.A) (hb : Binds X.K fd ps []) (hx : Passes CX X E) :
    OpR X (inplaceOp op) (rOwnI C sp E) := by
  rintro pins s σ H x y v u Q I rx ry ⟨a, i, dx, fs, rfl, rfl, ha, hsp⟩
  cases rx
  obtain ⟨t, rfl⟩ := ry
  obtain ⟨od, J⟩ := inst_at I ha
  exact inplace_of1 I.kIn J M N (bin1_int I.kIn J hc O NI (wpAny_mono (run_fn (us := [.ref a, .int i t]) (vs := [.ref a, .int i]) G hr hb .nil hx I (.cons rfl (.cons ⟨t, rfl⟩ .nil)) hsp) (fun _ _ h => back_some h) fun _ _ z => z))
/-- a == y by the class's own ==; y is of the class, or of a built-in class -/
def rOwnEq (K : PySem.W.Frag) (C : Addr) (sp : Sp) (E : XK) : R2 := fun x y H Q => ∃ a dx fs t, x = .ref a ∧ H a = some (.ins C dx fs) ∧ TyX K H y t ∧ PySem.W.notFirst K C t = true ∧ sp [x, y] H Q E
theorem op_ownEq (O : OwnOp X.K C f "__eq__") (G : FnOk X.prog X.w X.K X.mg X.base CX k f fd ps sp) (hr : Room k X.A) (hb : Binds X.K fd ps []) (hx : Passes CX X E) : OpR X (compareOp .Eq) (rOwnEq X.K C sp E) := by
  rintro pins s σ H x y v u Q I rx ry ⟨a, dx, fs, t, rfl, ha, hty, hn, hsp⟩
  cases rx
  obtain ⟨od, J⟩ := inst_at I ha
  obtain ⟨m, hF⟩ := I.fr
  obtain ⟨Pt, KX, hp, _⟩ := kit_of I ry hty
  show wpAny (model X.prog X.w) X.A (richCompare .Eq (.ref a) u) (EP X pins σ Q) X.xe s
  refine PySem.W.cmp_K (op := .Eq) (tb := t) hr.units0 hF I.ok.mod.kin J (KX.ty _ _ I.kIn hp) hn O.at_ O.fn ?_
  exact wpAny_mono (run_fn (us := [.ref a, u]) (vs := [.ref a, y]) G hr hb .nil hx I (.cons rfl (.cons ry .nil)) hsp) (fun _ _ h => cmpBack_of h) fun _ _ z => z
end
end Sq

namespace Sq
open PySem L2 PyProof.Rows
/-- one or the other rule -/
theorem op_or {X : Cx} {f : Value → Value → Sem Value} {r1 r2 : R2} (h1 : OpR X f r1) (h2 : OpR X f r2) : OpR X f (fun x y H Q => r1 x y H Q ∨ r2 x y H Q) := by
  rintro pins s σ H x y v u Q I rx ry (h | h)
  · exact h1 pins s σ H x y v u Q I rx ry h
  · exact h2 pins s σ H x y v u Q I rx ry h
/-- X(), X an own error class without an __init__ -/
theorem pmk_own0 {X : Cx} {C : Addr} {bmB : List Value} {B newId initId : String} {x : Str} {p pos : Pos} (F : ExcBaseFacts B newId initId bmB) (q : PySem.W.excIn X.K C bmB newId = true) (gC : X.mg x = some (.ref C)) (kC : PySem.W.keepIn X.K (.ref C) = true)
    (r : Raises X (.ref C)) (hg : Gl X x) (nd : (x == ("__debug__" : Str)) = false := by decide) : PMk X (.Call (.Name x p) [] [] pos) (fun _ H Q => Q (.ref C) none H) := by
  intro pins s σ H Q I h
  refine wpAny_Call_Name_kw (ld_glob I hg gC (PySem.W.callWith_K0 I.kIn kC ?_) nd)
  show wpAny _ _ (call (.ref C) []) _ _ _
  obtain ⟨bm, N, nm, qn, bs, hdct, sn, sub, ab, col, dd, k0, k1, k2, k3, k5, mN, hC, hN, hni, T⟩ := exc_obj I.kIn q
  obtain ⟨hp, g, d, t, os⟩ := s
  exact wpAny_call_exc_subT F T hC hN hni (fun h' e hm => mk_of I hm r h (I.hok.gone hm.new)) (Nat.zero_le _)
/-- what the class must say for a != b by its own == -/
structure NeOp (K : PySem.W.Frag) (C f : Addr) : Prop where
  eq : PySem.W.findIn K (.ref C) "__eq__" = some (some (.ref f))
  fn : PySem.W.isFn K (.ref f) = true
  ne : PySem.W.findIn K (.ref C) "__ne__" = some (some (.builtin "object.__ne__"))
  ob : PySem.W.mroIn K C (.type "object") = some true
section
variable {X : Cx} {CX : CXT} {k : Nat} {f C : Addr} {fd : FuncData} {ps : List Str} {sp : Sp} {E : XK}
theorem if_bound {M : Model} {A : Around} {E : Value → Shared → Prop} {s : Shared} {K : PySem.W.Frag} {x : Addr} {ox : Obj} {od : Option Obj} {name : Str} {id : String} {args : List Value} {Q : Option Value → Shared → Prop} (Y : K.In s.heap) (I : PySem.W.InstAt s.heap x ox C od)
    (hs : PySem.W.findIn K (.ref C) name = some (some (.builtin id))) (hb : ∀ self : Value, bindSpecial (.builtin id) self = pure (Value.builtin id, [self])) (h : wpAny M A (call (.builtin id) (.ref x :: args)) (fun v => Q (some v)) E s) : wpAny M A (callSpecialIfBound? (.ref x) name args) Q E s := by
  simp only [callSpecialIfBound?, bindSpecialIfBound?]
  refine wpAny_holding (wpAny_bind (wpAny_bind (wpAny_bind (I.type.here ((PySem.W.looks_findIn Y hs).here ?_)))))
  have fin : wpAny M A (call (.builtin id) ([.ref x] ++ args) >>= fun v => pure (some v)) Q E s := wpAny_bind (wpAny_mono h (fun v s' h' => wpAny_pure h') fun _ _ h' => h')
  refine wpAny_bind (wpAny_askSetting (wpAny_ite ?_))
  split
  · exact wpAny_bind (wpAny_of_eq (hb _) (wpAny_pure fin))
  · exact wpAny_tryCatch (wpAny_bind (wpAny_of_eq (hb _) (wpAny_pure fin)))
end
end Sq

namespace Sq
open PySem L2 PyProof.Rows
abbrev s_isnum : Stmt := top 12
abbrev s_asratio : Stmt := top 13
abbrev s_req : Stmt := inClass (top 14) 1
abbrev s_radd : Stmt := inClass (top 14) 2
abbrev s_rradd : Stmt := inClass (top 14) 3
abbrev s_rsub : Stmt := inClass (top 14) 4
abbrev s_rrsub : Stmt := inClass (top 14) 5
abbrev s_rmul : Stmt := inClass (top 14) 6
abbrev s_rrmul : Stmt := inClass (top 14) 7
abbrev s_rneg : Stmt := inClass (top 14) 8
abbrev s_rover : Stmt := inClass (top 14) 9
/-! ### mathematics -/
theorem low_int {i T U : Int} (L : Low i 1 T U) : T = i ∧ U = 1 := by
  have v := L.val
  have p := L.pos
  have c := L.cop
  rw [Int.mul_one] at v
  rw [v, Int.gcd_comm] at c
  have d : Int.gcd U (i * U) = U.natAbs := Int.gcd_eq_natAbs_left (Int.dvd_mul_left ..)
  rw [d] at c
  have u1 : U = 1 := by omega
  rw [u1, Int.mul_one] at v
  exact ⟨v, u1⟩
theorem cancel_r {x y z : Int} (hz : z ≠ 0) (h : x * z = y * z) : x = y := Int.eq_of_mul_eq_mul_right hz h
/-- the value of a fraction in lowest terms, over a further fraction's -/
theorem low_add {a b c d t u t' u' T U : Int} (L1 : Low a b t u) (L2 : Low c d t' u') (L : Low (t * u' + t' * u) (u * u') T U) : T * (b * d) = (a * d + c * b) * U := by
  have h1 := L1.val
  have h2 := L2.val
  have h := L.val
  have n : u * u' ≠ 0 := Int.mul_ne_zero (by have := L1.pos; omega) (by have := L2.pos; omega)
  refine cancel_r n ?_
  grind
theorem low_sub {a b c d t u t' u' T U : Int} (L1 : Low a b t u) (L2 : Low c d t' u') (L : Low (t * u' - t' * u) (u * u') T U) : T * (b * d) = (a * d - c * b) * U := by
  have h1 := L1.val
  have h2 := L2.val
  have h := L.val
  have n : u * u' ≠ 0 := Int.mul_ne_zero (by have := L1.pos; omega) (by have := L2.pos; omega)
  refine cancel_r n ?_
  grind
theorem low_mul {a b c d t u t' u' T U : Int} (L1 : Low a b t u) (L2 : Low c d t' u') (L : Low (t * t') (u * u') T U) : T * (b * d) = a * c * U := by
  have h1 := L1.val
  have h2 := L2.val
  have h := L.val
  have n : u * u' ≠ 0 := Int.mul_ne_zero (by have := L1.pos; omega) (by have := L2.pos; omega)
  refine cancel_r n ?_
  grind
theorem low_over {a b c d t u t' u' T U : Int} (L1 : Low a b t u) (L2 : Low c d t' u') (hd : d ≠ 0) (hc : c ≠ 0) (L : Low (t * u') (u * t') T U) : T * (b * c) = a * d * U := by
  have h1 := L1.val
  have h2 := L2.val
  have h := L.val
  have t0 : t' ≠ 0 := fun e => by
    rw [e, Int.zero_mul] at h2
    have := L2.pos
    exact Int.mul_ne_zero hc (by omega) h2.symm
  have n : u * t' ≠ 0 := Int.mul_ne_zero (by have := L1.pos; omega) t0
  refine cancel_r n (cancel_r hd ?_)
  grind
theorem low_neg {a b t u T U : Int} (L1 : Low a b t u) (L : Low (-t) u T U) : T * b = -a * U := by
  have h1 := L1.val
  have h := L.val
  have n : u ≠ 0 := by have := L1.pos; omega
  refine cancel_r n ?_
  grind
theorem low_one : Low t 1 t 1 := ⟨by decide, by simp, by omega, Nat.le_refl _, Nat.le_refl _⟩
theorem low_eq {a b c d t u t' u' : Int} (hb : b ≠ 0) (hd : d ≠ 0) (L1 : Low a b t u) (L2 : Low c d t' u') : (t = t' ∧ u = u') ↔ a * d = c * b := by
  have h1 := L1.val
  have h2 := L2.val
  have p1 := L1.pos
  have p2 := L2.pos
  constructor
  · rintro ⟨rfl, rfl⟩
    refine cancel_r (z := u) (by omega) ?_
    grind
  · intro h
    have n : b * d ≠ 0 := Int.mul_ne_zero hb hd
    have e : t * u' = t' * u := cancel_r n (by grind)
    have e' : t.natAbs * u'.natAbs = t'.natAbs * u.natAbs := by rw [← Int.natAbs_mul, ← Int.natAbs_mul, e]
    have c1 : Nat.Coprime u.natAbs t.natAbs := Nat.Coprime.symm L1.cop
    have c2 : Nat.Coprime u'.natAbs t'.natAbs := Nat.Coprime.symm L2.cop
    have d1 : u.natAbs ∣ u'.natAbs := c1.dvd_of_dvd_mul_left (by rw [e']; exact Nat.dvd_mul_left ..)
    have d2 : u'.natAbs ∣ u.natAbs := c2.dvd_of_dvd_mul_left (by rw [← e']; exact Nat.dvd_mul_left ..)
    have eu : u.natAbs = u'.natAbs := Nat.dvd_antisymm d1 d2
    have eu2 : u = u' := by omega
    subst eu2
    exact ⟨cancel_r (z := u) (by omega) e, rfl⟩
theorem low_eqI {a b t u w : Int} (hb : b ≠ 0) (L1 : Low a b t u) : (u = 1 ∧ t = w) ↔ a = w * b := by
  have h := low_eq hb (by decide) L1 (low_one (t := w))
  rw [Int.mul_one] at h
  rw [← h]
  constructor
  · rintro ⟨a, b⟩
    exact ⟨b, a⟩
  · rintro ⟨a, b⟩
    exact ⟨b, a⟩
/-- of at most 1,500 bits -/
def Fit (t : Int) : Prop := t.natAbs < 2 ^ 1500
theorem up {t : Int} (h : Fit t) : t.natAbs < 2 ^ 4000 := Nat.lt_of_lt_of_le h (Nat.pow_le_pow_right (by decide) (by decide))
theorem fit_up {t : Int} (h : Fit t) : t.natAbs < 2 ^ 8000 := Nat.lt_of_lt_of_le h (Nat.pow_le_pow_right (by decide) (by decide))
theorem big2 {t u : Int} (h : Fit t) (h' : Fit u) : (t * u).natAbs < 2 ^ 8000 := Nat.lt_of_lt_of_le (wide_lt h h') (Nat.pow_le_pow_right (by decide) (by decide))
theorem fit_one : Fit 1 := Nat.lt_of_lt_of_le (show (1 : Int).natAbs < 2 ^ 1 from by decide) (Nat.pow_le_pow_right (by decide) (by decide))
theorem mul_ne {a b : Int} (h : a ≠ 0) (h' : b ≠ 0) : a * b ≠ 0 := Int.mul_ne_zero h h'
/-- y is the number t / u: a Ratio, or an int -/
def NumAt (C : Addr) (H : Hp) (y : V) (t u : Int) : Prop := (∃ r, y = .ref r ∧ RatAt C H r t u) ∨ (y = .int t ∧ u = 1)
theorem RatAt.same {C : Addr} {H H' : Hp} {x : Addr} {t u : Int} (s : Same H H') (h : RatAt C H x t u) : RatAt C H' x t u := by
  obtain ⟨dx, h⟩ := h
  exact ⟨dx, s _ _ h⟩
theorem NumAt.same {C : Addr} {H H' : Hp} {y : V} {t u : Int} (s : Same H H') (h : NumAt C H y t u) : NumAt C H' y t u := by
  rcases h with ⟨r, e, h⟩ | h
  · exact .inl ⟨r, e, h.same s⟩
  · exact .inr h
/-- isinstance(x, Ratio) of other things -/
structure KZx (K : PySem.W.Frag) (C : Addr) : Prop where
  kint : PySem.W.kitOne K (.type "int") (.ref C) = some false
  kstr : PySem.W.kitOne K (.type "str") (.ref C) = some false
  knon : PySem.W.kitOne K (.type "NoneType") (.ref C) = some false
def spIsNum (K : PySem.W.Frag) (C : Addr) : Sp := fun vs H Q _ => ∃ (y : V) (t : Value) (b : Bool), vs = [y] ∧ TyX K H y t ∧ PySem.W.kitOne K t (.ref C) = some b ∧ IsTy K H y ∧ Q (.bl (b || isI y)) H
theorem num_is {K : PySem.W.Frag} {C : Addr} {H : Hp} {y : V} {t u : Int} (T : CTx K C) (Y : ITy K C) (Z : KZx K C) (h : NumAt C H y t u) : ∃ (q : Value) (b : Bool), TyX K H y q ∧ PySem.W.kitOne K q (.ref C) = some b ∧ IsTy K H y ∧ (b || isI y) = true := by
  rcases h with ⟨r, rfl, h⟩ | ⟨rfl, _⟩
  · exact ⟨_, true, h.ty T Y, kit_self, h.isTy T Y, rfl⟩
  · exact ⟨.type "int", false, .base (.int _), Z.kint, .int _, rfl⟩
def spAsRatio (C : Addr) : Sp := fun vs H Q _ => ∃ (y : V) (t u : Int), vs = [y] ∧ NumAt C H y t u ∧ t.natAbs < 2 ^ 8000 ∧ ∀ r H', RatAt C H' r t u → Same H H' → Q (.ref r) H'
section
variable {P : Program} {w : World} {K : PySem.W.Frag} {mg : Str → Option Value} {base : Heap}
theorem sc_isnum : FnScope ["value"] ["value"] (defScope s_isnum) := ⟨rfl, rfl, rfl, by decide +kernel, rfl, by decide +kernel, by decide +kernel⟩
theorem ok_isnum {f C fI : Addr} {fd fdI : FuncData} (F : Fun K "is_number" "is_number" s_isnum f fd) (B : ITx mg) (m_C : mg "Ratio" = some (.ref C))
    (G_I : FnOk P w K mg base CX0 1 fI fdI ["value"] (spIsInt K)) (m_I : mg "is_an_integer" = some (.ref fI)) (k_I : PySem.W.keepIn K (.ref fI) = true) (b_I : Binds K fdI ["value"] []) : FnOk P w K mg base CX0 2 f fd ["value"] (spIsNum K C) := by
  refine F.ok sc_isnum (fun vs H Q E h => ?_) (fun cdv A outer s H vs Q E hr h => ?_)
  · obtain ⟨y, t, b, rfl, _⟩ := h
    rfl
  · obtain ⟨y, t, b, rfl, ty, kb, it, k⟩ := h
    refine ⟨_, pss_one (ps_ret (pe_or (pe_callB call_isi (by rfl) B.b_isinstance (by decide +kernel) (pa_cons (pv 0) (pa_cons (pe_glob (v := .ref C) rfl m_C rfl) pa_nil))) (pe_one (pe_call G_I hr rfl m_I k_I b_I .nil pass0 (pa_cons (pv 0) pa_nil))))), ?_⟩
    refine ⟨_, rfl, _, _, _, _, b, rfl, .own C, ty, kb, _, rfl, ?_⟩
    cases b with
    | true => exact iteT k
    | false => exact iteF ⟨_, rfl, _, rfl, it, k⟩
theorem sc_asratio : FnScope ["number"] ["number"] (defScope s_asratio) := ⟨rfl, rfl, rfl, by decide +kernel, rfl, by decide +kernel, by decide +kernel⟩
theorem ok_asratio {f C CN fR : Addr} {fd fdR : FuncData} {ds1 : List Value} (F : Fun K "as_ratio" "as_ratio" s_asratio f fd) (T : CTx K C) (Y : ITy K C) (Z : KZx K C) (B : ITx mg) (m_C : mg "Ratio" = some (.ref C)) (M : Mk K C fR)
    (G_R : FnOk P w K mg base (L2.CX P w) 3 fR fdR ["self", "top", "bottom"] (spRatioInit K C CN)) (b_R1 : Binds K fdR ["self", "top", "bottom"] ds1) (v_R1 : Vals [.int 1] ds1) : FnOk P w K mg base CX0 5 f fd ["number"] (spAsRatio C) := by
  refine F.ok sc_asratio (fun vs H Q E h => ?_) (fun cdv A outer s H vs Q E hr h => ?_)
  · obtain ⟨y, t, u, rfl, _⟩ := h
    rfl
  · obtain ⟨y, t, u, rfl, hy, st, k⟩ := h
    refine ⟨_, pss_cons (ps_if (pt_val (pe_callB call_isi (by rfl) B.b_isinstance (by decide +kernel) (pa_cons (pv 0) (pa_cons (pe_glob (v := .ref C) rfl m_C rfl) pa_nil)))) (pss_one (ps_ret (pv 0))) pss_nil)
      (pss_one (ps_ret (pe_make M G_R (hr.mono (by decide)) rfl m_C b_R1 v_R1 passL (pa_cons (pv 0) pa_nil)))), ?_⟩
    rcases hy with ⟨r, rfl, hr1⟩ | ⟨rfl, rfl⟩
    · refine ⟨_, rfl, _, _, _, _, true, rfl, .own C, hr1.ty T Y, kit_self, _, rfl, iteT ?_⟩
      exact ⟨_, rfl, k r H hr1 (Same.refl H)⟩
    · refine ⟨_, rfl, _, _, _, _, false, rfl, .own C, .base (.int _), Z.kint, _, rfl, iteF ?_⟩
      refine ⟨_, rfl, fun z dz nz ndz ne => mk_go (by decide) (fit_up fit_one) nz ndz ne fun a b H2 L R s2 => ⟨rfl, ?_⟩⟩
      obtain ⟨e1, e2⟩ := low_int L
      subst e1 e2
      exact k z H2 R s2
def spR_add (C : Addr) : Sp := fun vs H Q _ => ∃ (x : Addr) (y : V) (t u t' u' : Int), vs = [.ref x, y] ∧ RatAt C H x t u ∧ NumAt C H y t' u' ∧ 1 ≤ u ∧ 1 ≤ u' ∧ Fit t ∧ Fit u ∧ Fit t' ∧ Fit u' ∧
  ∀ z T U H', Low (t * u' + t' * u) (u * u') T U → RatAt C H' z T U → Same H H' → Q (.ref z) H'
theorem sc_radd : FnScope ["self", "other", "right"] ["self", "other"] (defScope s_radd) := ⟨rfl, rfl, rfl, by decide +kernel, rfl, by decide +kernel, by decide +kernel⟩
theorem ok_radd {f C CN fR fN fA : Addr} {fd fdR fdN fdA : FuncData} (F : Fun K "__add__" "Ratio.__add__" s_radd f fd) (T : CTx K C) (Y : ITy K C) (Z : KZx K C) (m_C : mg "Ratio" = some (.ref C)) (M : Mk K C fR)
    (G_R : FnOk P w K mg base (L2.CX P w) 3 fR fdR ["self", "top", "bottom"] (spRatioInit K C CN)) (b_R : Binds K fdR ["self", "top", "bottom"] [])
    (G_N : FnOk P w K mg base CX0 2 fN fdN ["value"] (spIsNum K C)) (m_N : mg "is_number" = some (.ref fN)) (k_N : PySem.W.keepIn K (.ref fN) = true) (b_N : Binds K fdN ["value"] [])
    (G_A : FnOk P w K mg base CX0 5 fA fdA ["number"] (spAsRatio C)) (m_A : mg "as_ratio" = some (.ref fA)) (k_A : PySem.W.keepIn K (.ref fA) = true) (b_A : Binds K fdA ["number"] []) :
    FnOk P w K mg base CX0 6 f fd ["self", "other"] (spR_add C) := by
  refine F.ok sc_radd (fun vs H Q E h => ?_) (fun cdv A outer s H vs Q E hr h => ?_)
  · obtain ⟨x, y, t, u, t', u', rfl, _⟩ := h
    rfl
  · obtain ⟨x, y, t, u, t', u', rfl, hx, hy, pu, pu', st, su, st', su', k⟩ := h
    refine ⟨_, (pss_cons (ps_if (pt_not (pt_val (pe_call G_N (hr.mono (by decide)) rfl m_N k_N b_N .nil pass0 (pa_cons (pv 1) pa_nil)))) (pss_one ps_never) pss_nil)
      (pss_cons (ps_set (i := 2) sc_radd.nd rfl (Or.inl rfl) (pe_call G_A hr rfl m_A k_A b_A .nil pass0 (pa_cons (pv 1) pa_nil)))
      (pss_one (ps_ret (pe_make M G_R (hr.mono (by decide)) rfl m_C b_R .nil passL (pa_cons (pe_op op_add (pe_op op_mulW (pe_fld (pv 0) rfl) (pe_fld (pv 2) rfl)) (pe_op op_mulW (pe_fld (pv 2) rfl) (pe_fld (pv 0) rfl))) (pa_cons (pe_op op_mulW (pe_fld (pv 0) rfl) (pe_fld (pv 2) rfl)) pa_nil))))))), ?_⟩
    obtain ⟨q, b, hq, kb, hi, hbi⟩ := num_is T Y Z hy
    refine ⟨_, rfl, y, q, b, rfl, hq, kb, hi, _, rfl, ?_⟩
    rw [hbi]
    refine iteF ?_
    refine ⟨_, rfl, y, t', u', rfl, hy, fit_up st', fun r H1 hr1 s1 => ?_⟩
    obtain ⟨dx, hx0⟩ := hx
    have hx1 := s1 _ _ hx0
    obtain ⟨dr, hr1⟩ := hr1
    refine ⟨_, rfl, x, C, dx, _, _, rfl, hx1, T.cl, T.nT, rf_top _ _, _, rfl, r, C, dr, _, _, rfl, hr1, T.cl, T.nB, rf_bottom _ _, _, _, rfl, rfl, mul_ok (up st) (up su'), ?_⟩
    refine ⟨_, rfl, r, C, dr, _, _, rfl, hr1, T.cl, T.nT, rf_top _ _, _, rfl, x, C, dx, _, _, rfl, hx1, T.cl, T.nB, rf_bottom _ _, _, _, rfl, rfl, mul_ok (up st') (up su), _, _, rfl, rfl, ?_⟩
    refine ⟨_, rfl, x, C, dx, _, _, rfl, hx1, T.cl, T.nB, rf_bottom _ _, _, rfl, r, C, dr, _, _, rfl, hr1, T.cl, T.nB, rf_bottom _ _, _, _, rfl, rfl, mul_ok (up su) (up su'), ?_⟩
    exact fun z dz nz ndz ne => mk_go (mul_ne (by omega) (by omega)) (big2 su su') nz ndz ne fun T U H2 L R s2 => ⟨rfl, k z T U H2 L R (s1.trans s2)⟩
def spR_sub (C : Addr) : Sp := fun vs H Q _ => ∃ (x : Addr) (y : V) (t u t' u' : Int), vs = [.ref x, y] ∧ RatAt C H x t u ∧ NumAt C H y t' u' ∧ 1 ≤ u ∧ 1 ≤ u' ∧ Fit t ∧ Fit u ∧ Fit t' ∧ Fit u' ∧
  ∀ z T U H', Low (t * u' - t' * u) (u * u') T U → RatAt C H' z T U → Same H H' → Q (.ref z) H'
theorem sc_rsub : FnScope ["self", "other", "right"] ["self", "other"] (defScope s_rsub) := ⟨rfl, rfl, rfl, by decide +kernel, rfl, by decide +kernel, by decide +kernel⟩
theorem ok_rsub {f C CN fR fN fA : Addr} {fd fdR fdN fdA : FuncData} (F : Fun K "__sub__" "Ratio.__sub__" s_rsub f fd) (T : CTx K C) (Y : ITy K C) (Z : KZx K C) (m_C : mg "Ratio" = some (.ref C)) (M : Mk K C fR)
    (G_R : FnOk P w K mg base (L2.CX P w) 3 fR fdR ["self", "top", "bottom"] (spRatioInit K C CN)) (b_R : Binds K fdR ["self", "top", "bottom"] [])
    (G_N : FnOk P w K mg base CX0 2 fN fdN ["value"] (spIsNum K C)) (m_N : mg "is_number" = some (.ref fN)) (k_N : PySem.W.keepIn K (.ref fN) = true) (b_N : Binds K fdN ["value"] [])
    (G_A : FnOk P w K mg base CX0 5 fA fdA ["number"] (spAsRatio C)) (m_A : mg "as_ratio" = some (.ref fA)) (k_A : PySem.W.keepIn K (.ref fA) = true) (b_A : Binds K fdA ["number"] []) :
    FnOk P w K mg base CX0 6 f fd ["self", "other"] (spR_sub C) := by
  refine F.ok sc_rsub (fun vs H Q E h => ?_) (fun cdv A outer s H vs Q E hr h => ?_)
  · obtain ⟨x, y, t, u, t', u', rfl, _⟩ := h
    rfl
  · obtain ⟨x, y, t, u, t', u', rfl, hx, hy, pu, pu', st, su, st', su', k⟩ := h
    refine ⟨_, (pss_cons (ps_if (pt_not (pt_val (pe_call G_N (hr.mono (by decide)) rfl m_N k_N b_N .nil pass0 (pa_cons (pv 1) pa_nil)))) (pss_one ps_never) pss_nil)
      (pss_cons (ps_set (i := 2) sc_rsub.nd rfl (Or.inl rfl) (pe_call G_A hr rfl m_A k_A b_A .nil pass0 (pa_cons (pv 1) pa_nil)))
      (pss_one (ps_ret (pe_make M G_R (hr.mono (by decide)) rfl m_C b_R .nil passL (pa_cons (pe_op op_sub (pe_op op_mulW (pe_fld (pv 0) rfl) (pe_fld (pv 2) rfl)) (pe_op op_mulW (pe_fld (pv 2) rfl) (pe_fld (pv 0) rfl))) (pa_cons (pe_op op_mulW (pe_fld (pv 0) rfl) (pe_fld (pv 2) rfl)) pa_nil))))))), ?_⟩
    obtain ⟨q, b, hq, kb, hi, hbi⟩ := num_is T Y Z hy
    refine ⟨_, rfl, y, q, b, rfl, hq, kb, hi, _, rfl, ?_⟩
    rw [hbi]
    refine iteF ?_
    refine ⟨_, rfl, y, t', u', rfl, hy, fit_up st', fun r H1 hr1 s1 => ?_⟩
    obtain ⟨dx, hx0⟩ := hx
    have hx1 := s1 _ _ hx0
    obtain ⟨dr, hr1⟩ := hr1
    refine ⟨_, rfl, x, C, dx, _, _, rfl, hx1, T.cl, T.nT, rf_top _ _, _, rfl, r, C, dr, _, _, rfl, hr1, T.cl, T.nB, rf_bottom _ _, _, _, rfl, rfl, mul_ok (up st) (up su'), ?_⟩
    refine ⟨_, rfl, r, C, dr, _, _, rfl, hr1, T.cl, T.nT, rf_top _ _, _, rfl, x, C, dx, _, _, rfl, hx1, T.cl, T.nB, rf_bottom _ _, _, _, rfl, rfl, mul_ok (up st') (up su), _, _, rfl, rfl, ?_⟩
    refine ⟨_, rfl, x, C, dx, _, _, rfl, hx1, T.cl, T.nB, rf_bottom _ _, _, rfl, r, C, dr, _, _, rfl, hr1, T.cl, T.nB, rf_bottom _ _, _, _, rfl, rfl, mul_ok (up su) (up su'), ?_⟩
    exact fun z dz nz ndz ne => mk_go (mul_ne (by omega) (by omega)) (big2 su su') nz ndz ne fun T U H2 L R s2 => ⟨rfl, k z T U H2 L R (s1.trans s2)⟩
def spR_mul (C : Addr) : Sp := fun vs H Q _ => ∃ (x : Addr) (y : V) (t u t' u' : Int), vs = [.ref x, y] ∧ RatAt C H x t u ∧ NumAt C H y t' u' ∧ 1 ≤ u ∧ 1 ≤ u' ∧ Fit t ∧ Fit u ∧ Fit t' ∧ Fit u' ∧
  ∀ z T U H', Low (t * t') (u * u') T U → RatAt C H' z T U → Same H H' → Q (.ref z) H'
theorem sc_rmul : FnScope ["self", "other", "right"] ["self", "other"] (defScope s_rmul) := ⟨rfl, rfl, rfl, by decide +kernel, rfl, by decide +kernel, by decide +kernel⟩
theorem ok_rmul {f C CN fR fN fA : Addr} {fd fdR fdN fdA : FuncData} (F : Fun K "__mul__" "Ratio.__mul__" s_rmul f fd) (T : CTx K C) (Y : ITy K C) (Z : KZx K C) (m_C : mg "Ratio" = some (.ref C)) (M : Mk K C fR)
    (G_R : FnOk P w K mg base (L2.CX P w) 3 fR fdR ["self", "top", "bottom"] (spRatioInit K C CN)) (b_R : Binds K fdR ["self", "top", "bottom"] [])
    (G_N : FnOk P w K mg base CX0 2 fN fdN ["value"] (spIsNum K C)) (m_N : mg "is_number" = some (.ref fN)) (k_N : PySem.W.keepIn K (.ref fN) = true) (b_N : Binds K fdN ["value"] [])
    (G_A : FnOk P w K mg base CX0 5 fA fdA ["number"] (spAsRatio C)) (m_A : mg "as_ratio" = some (.ref fA)) (k_A : PySem.W.keepIn K (.ref fA) = true) (b_A : Binds K fdA ["number"] []) :
    FnOk P w K mg base CX0 6 f fd ["self", "other"] (spR_mul C) := by
  refine F.ok sc_rmul (fun vs H Q E h => ?_) (fun cdv A outer s H vs Q E hr h => ?_)
  · obtain ⟨x, y, t, u, t', u', rfl, _⟩ := h
    rfl
  · obtain ⟨x, y, t, u, t', u', rfl, hx, hy, pu, pu', st, su, st', su', k⟩ := h
    refine ⟨_, (pss_cons (ps_if (pt_not (pt_val (pe_call G_N (hr.mono (by decide)) rfl m_N k_N b_N .nil pass0 (pa_cons (pv 1) pa_nil)))) (pss_one ps_never) pss_nil)
      (pss_cons (ps_set (i := 2) sc_rmul.nd rfl (Or.inl rfl) (pe_call G_A hr rfl m_A k_A b_A .nil pass0 (pa_cons (pv 1) pa_nil)))
      (pss_one (ps_ret (pe_make M G_R (hr.mono (by decide)) rfl m_C b_R .nil passL (pa_cons (pe_op op_mulW (pe_fld (pv 0) rfl) (pe_fld (pv 2) rfl)) (pa_cons (pe_op op_mulW (pe_fld (pv 0) rfl) (pe_fld (pv 2) rfl)) pa_nil))))))), ?_⟩
    obtain ⟨q, b, hq, kb, hi, hbi⟩ := num_is T Y Z hy
    refine ⟨_, rfl, y, q, b, rfl, hq, kb, hi, _, rfl, ?_⟩
    rw [hbi]
    refine iteF ?_
    refine ⟨_, rfl, y, t', u', rfl, hy, fit_up st', fun r H1 hr1 s1 => ?_⟩
    obtain ⟨dx, hx0⟩ := hx
    have hx1 := s1 _ _ hx0
    obtain ⟨dr, hr1⟩ := hr1
    refine ⟨_, rfl, x, C, dx, _, _, rfl, hx1, T.cl, T.nT, rf_top _ _, _, rfl, r, C, dr, _, _, rfl, hr1, T.cl, T.nT, rf_top _ _, _, _, rfl, rfl, mul_ok (up st) (up st'), ?_⟩
    refine ⟨_, rfl, x, C, dx, _, _, rfl, hx1, T.cl, T.nB, rf_bottom _ _, _, rfl, r, C, dr, _, _, rfl, hr1, T.cl, T.nB, rf_bottom _ _, _, _, rfl, rfl, mul_ok (up su) (up su'), ?_⟩
    exact fun z dz nz ndz ne => mk_go (mul_ne (by omega) (by omega)) (big2 su su') nz ndz ne fun T U H2 L R s2 => ⟨rfl, k z T U H2 L R (s1.trans s2)⟩
end
end Sq

namespace Sq
open PySem L2 PyProof.Rows
section
variable {P : Program} {w : World} {K : PySem.W.Frag} {mg : Str → Option Value} {base : Heap}
def spR_radd (C : Addr) : Sp := fun vs H Q _ => ∃ (x : Addr) (i t u : Int), vs = [.ref x, .int i] ∧ RatAt C H x t u ∧ 1 ≤ u ∧ Fit t ∧ Fit u ∧ Fit i ∧
  ∀ z T U H', Low (t * 1 + i * u) (u * 1) T U → RatAt C H' z T U → Same H H' → Q (.ref z) H'
theorem sc_rradd : FnScope ["self", "other"] ["self", "other"] (defScope s_rradd) := ⟨rfl, rfl, rfl, by decide +kernel, rfl, by decide +kernel, by decide +kernel⟩
theorem ok_rradd {f C fO fN : Addr} {fd fdO fdN : FuncData} (F : Fun K "__radd__" "Ratio.__radd__" s_rradd f fd) (T : CTx K C) (Y : ITy K C) (Z : KZx K C) (hc : PySem.W.selfFirst K C = true)
    (G_N : FnOk P w K mg base CX0 2 fN fdN ["value"] (spIsNum K C)) (m_N : mg "is_number" = some (.ref fN)) (k_N : PySem.W.keepIn K (.ref fN) = true) (b_N : Binds K fdN ["value"] [])
    (O : OwnOp K C fO (PySem.dunder Operator.Add.info.2)) (I : IntOp K C Operator.Add.info.2) (G_O : FnOk P w K mg base CX0 6 fO fdO ["self", "other"] (spR_add C)) (b_O : Binds K fdO ["self", "other"] []) :
    FnOk P w K mg base CX0 7 f fd ["self", "other"] (spR_radd C) := by
  refine F.ok sc_rradd (fun vs H Q E h => ?_) (fun cdv A outer s H vs Q E hr h => ?_)
  · obtain ⟨x, i, t, u, rfl, _⟩ := h
    rfl
  · obtain ⟨x, i, t, u, rfl, hx, pu, st, su, si, k⟩ := h
    refine ⟨_, (pss_cons (ps_if (pt_not (pt_val (pe_call G_N (hr.mono (by decide)) rfl m_N k_N b_N .nil pass0 (pa_cons (pv 1) pa_nil)))) (pss_one ps_never) pss_nil)
      (pss_one (ps_ret (pe_op (op_ownI (op := .Add) hc O I G_O hr b_O pass0) (pv 0) (pv 1))))), ?_⟩
    obtain ⟨q, b, hq, kb, hi, hbi⟩ := num_is (H := H) (y := .int i) (t := i) (u := 1) T Y Z (.inr ⟨rfl, rfl⟩)
    refine ⟨_, rfl, .int i, q, b, rfl, hq, kb, hi, _, rfl, ?_⟩
    rw [hbi]
    refine iteF ?_
    obtain ⟨dx, hx0⟩ := id hx
    exact ⟨_, rfl, _, rfl, x, i, dx, _, rfl, rfl, hx0, x, .int i, t, u, i, 1, rfl, hx, .inr ⟨rfl, rfl⟩, pu, by decide, st, su, si, fit_one, k⟩
def spR_rmul (C : Addr) : Sp := fun vs H Q _ => ∃ (x : Addr) (i t u : Int), vs = [.ref x, .int i] ∧ RatAt C H x t u ∧ 1 ≤ u ∧ Fit t ∧ Fit u ∧ Fit i ∧
  ∀ z T U H', Low (t * i) (u * 1) T U → RatAt C H' z T U → Same H H' → Q (.ref z) H'
theorem sc_rrmul : FnScope ["self", "other"] ["self", "other"] (defScope s_rrmul) := ⟨rfl, rfl, rfl, by decide +kernel, rfl, by decide +kernel, by decide +kernel⟩
theorem ok_rrmul {f C fO fN : Addr} {fd fdO fdN : FuncData} (F : Fun K "__rmul__" "Ratio.__rmul__" s_rrmul f fd) (T : CTx K C) (Y : ITy K C) (Z : KZx K C) (hc : PySem.W.selfFirst K C = true)
    (G_N : FnOk P w K mg base CX0 2 fN fdN ["value"] (spIsNum K C)) (m_N : mg "is_number" = some (.ref fN)) (k_N : PySem.W.keepIn K (.ref fN) = true) (b_N : Binds K fdN ["value"] [])
    (O : OwnOp K C fO (PySem.dunder Operator.Mult.info.2)) (I : IntOp K C Operator.Mult.info.2) (G_O : FnOk P w K mg base CX0 6 fO fdO ["self", "other"] (spR_mul C)) (b_O : Binds K fdO ["self", "other"] []) :
    FnOk P w K mg base CX0 7 f fd ["self", "other"] (spR_rmul C) := by
  refine F.ok sc_rrmul (fun vs H Q E h => ?_) (fun cdv A outer s H vs Q E hr h => ?_)
  · obtain ⟨x, i, t, u, rfl, _⟩ := h
    rfl
  · obtain ⟨x, i, t, u, rfl, hx, pu, st, su, si, k⟩ := h
    refine ⟨_, (pss_cons (ps_if (pt_not (pt_val (pe_call G_N (hr.mono (by decide)) rfl m_N k_N b_N .nil pass0 (pa_cons (pv 1) pa_nil)))) (pss_one ps_never) pss_nil)
      (pss_one (ps_ret (pe_op (op_ownI (op := .Mult) hc O I G_O hr b_O pass0) (pv 0) (pv 1))))), ?_⟩
    obtain ⟨q, b, hq, kb, hi, hbi⟩ := num_is (H := H) (y := .int i) (t := i) (u := 1) T Y Z (.inr ⟨rfl, rfl⟩)
    refine ⟨_, rfl, .int i, q, b, rfl, hq, kb, hi, _, rfl, ?_⟩
    rw [hbi]
    refine iteF ?_
    obtain ⟨dx, hx0⟩ := id hx
    exact ⟨_, rfl, _, rfl, x, i, dx, _, rfl, rfl, hx0, x, .int i, t, u, i, 1, rfl, hx, .inr ⟨rfl, rfl⟩, pu, by decide, st, su, si, fit_one, k⟩
def spR_rsub (C : Addr) : Sp := fun vs H Q _ => ∃ (x : Addr) (i t u : Int), vs = [.ref x, .int i] ∧ RatAt C H x t u ∧ 1 ≤ u ∧ Fit t ∧ Fit u ∧ Fit i ∧
  ∀ z T U H', Low (i * u - t * 1) (1 * u) T U → RatAt C H' z T U → Same H H' → Q (.ref z) H'
theorem sc_rrsub : FnScope ["self", "other"] ["self", "other"] (defScope s_rrsub) := ⟨rfl, rfl, rfl, by decide +kernel, rfl, by decide +kernel, by decide +kernel⟩
theorem ok_rrsub {f C fO fN fA : Addr} {fd fdO fdN fdA : FuncData} (F : Fun K "__rsub__" "Ratio.__rsub__" s_rrsub f fd) (T : CTx K C) (Y : ITy K C) (Z : KZx K C) (hc : PySem.W.selfFirst K C = true)
    (G_N : FnOk P w K mg base CX0 2 fN fdN ["value"] (spIsNum K C)) (m_N : mg "is_number" = some (.ref fN)) (k_N : PySem.W.keepIn K (.ref fN) = true) (b_N : Binds K fdN ["value"] [])
    (G_A : FnOk P w K mg base CX0 5 fA fdA ["number"] (spAsRatio C)) (m_A : mg "as_ratio" = some (.ref fA)) (k_A : PySem.W.keepIn K (.ref fA) = true) (b_A : Binds K fdA ["number"] [])
    (O : OwnOp K C fO (PySem.dunder Operator.Sub.info.2)) (G_O : FnOk P w K mg base CX0 6 fO fdO ["self", "other"] (spR_sub C)) (b_O : Binds K fdO ["self", "other"] []) :
    FnOk P w K mg base CX0 7 f fd ["self", "other"] (spR_rsub C) := by
  refine F.ok sc_rrsub (fun vs H Q E h => ?_) (fun cdv A outer s H vs Q E hr h => ?_)
  · obtain ⟨x, i, t, u, rfl, _⟩ := h
    rfl
  · obtain ⟨x, i, t, u, rfl, hx, pu, st, su, si, k⟩ := h
    refine ⟨_, (pss_cons (ps_if (pt_not (pt_val (pe_call G_N (hr.mono (by decide)) rfl m_N k_N b_N .nil pass0 (pa_cons (pv 1) pa_nil)))) (pss_one ps_never) pss_nil)
      (pss_one (ps_ret (pe_op (op_own2 (op := .Sub) hc O G_O hr b_O pass0) (pe_call G_A (hr.mono (by decide)) rfl m_A k_A b_A .nil pass0 (pa_cons (pv 1) pa_nil)) (pv 0))))), ?_⟩
    obtain ⟨q, b, hq, kb, hi, hbi⟩ := num_is (H := H) (y := .int i) (t := i) (u := 1) T Y Z (.inr ⟨rfl, rfl⟩)
    refine ⟨_, rfl, .int i, q, b, rfl, hq, kb, hi, _, rfl, ?_⟩
    rw [hbi]
    refine iteF ?_
    refine ⟨_, rfl, .int i, i, 1, rfl, .inr ⟨rfl, rfl⟩, fit_up si, fun r H1 hr1 s1 => ?_⟩
    obtain ⟨dx, hx0⟩ := id hx
    obtain ⟨dr, hr0⟩ := id hr1
    exact ⟨_, rfl, r, x, dr, dx, _, _, rfl, rfl, hr0, s1 _ _ hx0, r, .ref x, i, 1, t, u, rfl, hr1, .inl ⟨x, rfl, hx.same s1⟩, by decide, pu, si, fit_one, st, su, fun z T U H' L R s2 => k z T U H' L R (s1.trans s2)⟩
def spR_neg (C : Addr) : Sp := fun vs H Q _ => ∃ (x : Addr) (t u : Int), vs = [.ref x] ∧ RatAt C H x t u ∧ 1 ≤ u ∧ Fit u ∧ ∀ z T U H', Low (-t) u T U → RatAt C H' z T U → Same H H' → Q (.ref z) H'
theorem sc_rneg : FnScope ["self"] ["self"] (defScope s_rneg) := ⟨rfl, rfl, rfl, by decide +kernel, rfl, by decide +kernel, by decide +kernel⟩
theorem ok_rneg {f C CN fR : Addr} {fd fdR : FuncData} (F : Fun K "__neg__" "Ratio.__neg__" s_rneg f fd) (T : CTx K C) (Y : ITy K C) (Z : KZx K C) (m_C : mg "Ratio" = some (.ref C)) (M : Mk K C fR)
    (G_R : FnOk P w K mg base (L2.CX P w) 3 fR fdR ["self", "top", "bottom"] (spRatioInit K C CN)) (b_R : Binds K fdR ["self", "top", "bottom"] []) : FnOk P w K mg base CX0 5 f fd ["self"] (spR_neg C) := by
  refine F.ok sc_rneg (fun vs H Q E h => ?_) (fun cdv A outer s H vs Q E hr h => ?_)
  · obtain ⟨x, t, u, rfl, _⟩ := h
    rfl
  · obtain ⟨x, t, u, rfl, hx, pu, su, k⟩ := h
    refine ⟨_, pss_one (ps_ret (pe_make M G_R (hr.mono (by decide)) rfl m_C b_R .nil passL (pa_cons (pe_un un_neg (pe_fld (pv 0) rfl)) (pa_cons (pe_fld (pv 0) rfl) pa_nil)))), ?_⟩
    obtain ⟨dx, hx0⟩ := id hx
    refine ⟨_, rfl, x, C, dx, _, _, rfl, hx0, T.cl, T.nT, rf_top _ _, _, rfl, _, rfl, x, C, dx, _, _, rfl, hx0, T.cl, T.nB, rf_bottom _ _, ?_⟩
    exact fun z dz nz ndz ne => mk_go (by omega) (fit_up su) nz ndz ne fun T U H2 L R s2 => ⟨rfl, k z T U H2 L R s2⟩
def spR_over (C CN : Addr) : Sp := fun vs H Q E => ∃ (x : Addr) (y : V) (t u t' u' : Int), vs = [.ref x, y] ∧ RatAt C H x t u ∧ NumAt C H y t' u' ∧ 1 ≤ u ∧ 1 ≤ u' ∧ Fit t ∧ Fit u ∧ Fit t' ∧ Fit u' ∧
  (t' = 0 → ∀ H1 d, Same H H1 → H1 d = none → E (.ref CN) (some d) (upd H1 d (wordAt "zero"))) ∧
  (t' ≠ 0 → ∀ z T U H', Low (t * u') (u * t') T U → RatAt C H' z T U → Same H H' → Q (.ref z) H')
theorem sc_rover : FnScope ["self", "other", "right"] ["self", "other"] (defScope s_rover) := ⟨rfl, rfl, rfl, by decide +kernel, rfl, by decide +kernel, by decide +kernel⟩
theorem ok_rover {f C CN fR fA : Addr} {fd fdR fdA : FuncData} (F : Fun K "over" "Ratio.over" s_rover f fd) (T : CTx K C) (Y : ITy K C) (Z : KZx K C) (m_C : mg "Ratio" = some (.ref C)) (M : Mk K C fR)
    (G_R : FnOk P w K mg base (L2.CX P w) 3 fR fdR ["self", "top", "bottom"] (spRatioInit K C CN)) (b_R : Binds K fdR ["self", "top", "bottom"] [])
    (G_A : FnOk P w K mg base CX0 5 fA fdA ["number"] (spAsRatio C)) (m_A : mg "as_ratio" = some (.ref fA)) (k_A : PySem.W.keepIn K (.ref fA) = true) (b_A : Binds K fdA ["number"] []) : FnOk P w K mg base (L2.CX P w) 6 f fd ["self", "other"] (spR_over C CN) := by
  refine F.okX sc_rover (fun vs H Q E h => ?_) (fun cdv A outer s H vs Q E hr h => ?_)
  · obtain ⟨x, y, t, u, t', u', rfl, _⟩ := h
    rfl
  · obtain ⟨x, y, t, u, t', u', rfl, hx, hy, pu, pu', st, su, st', su', kE, k⟩ := h
    refine ⟨_, (pss_cons (ps_set (i := 2) sc_rover.nd rfl (Or.inl rfl) (pe_call G_A hr rfl m_A k_A b_A .nil pass0 (pa_cons (pv 1) pa_nil)))
      (pss_one (ps_ret (pe_make (E := E) M G_R (hr.mono (by decide)) rfl m_C b_R .nil (passes_call (takes_of rfl rfl rfl rfl) fun _ _ _ _ h => h) (pa_cons (pe_op op_mulW (pe_fld (pv 0) rfl) (pe_fld (pv 2) rfl)) (pa_cons (pe_op op_mulW (pe_fld (pv 0) rfl) (pe_fld (pv 2) rfl)) pa_nil)))))), ?_⟩
    refine ⟨_, rfl, y, t', u', rfl, hy, fit_up st', fun r H1 hr1 s1 => ?_⟩
    obtain ⟨dx, hx0⟩ := hx
    have hx1 := s1 _ _ hx0
    obtain ⟨dr, hr1⟩ := hr1
    refine ⟨_, rfl, x, C, dx, _, _, rfl, hx1, T.cl, T.nT, rf_top _ _, _, rfl, r, C, dr, _, _, rfl, hr1, T.cl, T.nB, rf_bottom _ _, _, _, rfl, rfl, mul_ok (up st) (up su'), ?_⟩
    refine ⟨_, rfl, x, C, dx, _, _, rfl, hx1, T.cl, T.nB, rf_bottom _ _, _, rfl, r, C, dr, _, _, rfl, hr1, T.cl, T.nT, rf_top _ _, _, _, rfl, rfl, mul_ok (up su) (up st'), ?_⟩
    intro z dz nz ndz ne
    by_cases h0 : t' = 0
    · have e0 : u * t' = 0 := by rw [h0, Int.mul_zero]
      refine ⟨z, dz, _, _, rfl, upd_same, .int _, .int _, fun b e => (by cases e; exact big2 su st'), fun w hw d hd => ?_, fun a b ea eb hb => (by cases eb; exact absurd e0 hb)⟩
      have hw1 : dueW (.int (t * u')) (.int (u * t')) = some w := hw
      rw [e0] at hw1
      have ew : w = "zero" := by
        have : dueW (.int (t * u')) (.int 0) = some ("zero" : Str) := rfl
        rw [this] at hw1
        exact (Option.some.inj hw1).symm
      subst ew
      exact kE h0 _ d (s1.trans (same_pair nz ndz ne)) hd
    · exact mk_go (mul_ne (by omega) h0) (big2 su st') nz ndz ne fun T U H2 L R s2 => ⟨rfl, k h0 z T U H2 L R (s1.trans s2)⟩
/-- self == other, other a number -/
def spR_eq (K : PySem.W.Frag) (C : Addr) : Sp := fun vs H Q _ => ∃ (x : Addr) (y : V) (t u : Int), vs = [.ref x, y] ∧ RatAt C H x t u ∧
  ((∃ r t' u', y = .ref r ∧ RatAt C H r t' u' ∧ Q (.bl (decide (t = t' ∧ u = u'))) H) ∨ (∃ i, y = .int i ∧ Q (.bl (decide (u = 1 ∧ t = i))) H) ∨
    (∃ q, TyX K H y q ∧ PySem.W.kitOne K q (.ref C) = some false ∧ IsTy K H y ∧ isI y = false ∧ Q (.bl false) H))
theorem sc_req : FnScope ["self", "other"] ["self", "other"] (defScope s_req) := ⟨rfl, rfl, rfl, by decide +kernel, rfl, by decide +kernel, by decide +kernel⟩
theorem dec_int2 (a b : Int) : decide (V.int a = V.int b) = decide (a = b) := by
  by_cases h : a = b
  · rw [h, decide_eq_true rfl, decide_eq_true rfl]
  · rw [decide_eq_false h, decide_eq_false fun e => h (V.int.inj e)]
theorem ok_req {f C fI : Addr} {fd fdI : FuncData} (F : Fun K "__eq__" "Ratio.__eq__" s_req f fd) (T : CTx K C) (Y : ITy K C) (Z : KZx K C) (B : ITx mg) (m_C : mg "Ratio" = some (.ref C))
    (G_I : FnOk P w K mg base CX0 1 fI fdI ["value"] (spIsInt K)) (m_I : mg "is_an_integer" = some (.ref fI)) (k_I : PySem.W.keepIn K (.ref fI) = true) (b_I : Binds K fdI ["value"] []) :
    FnOk P w K mg base CX0 2 f fd ["self", "other"] (spR_eq K C) := by
  refine F.ok sc_req (fun vs H Q E h => ?_) (fun cdv A outer s H vs Q E hr h => ?_)
  · obtain ⟨x, y, t, u, rfl, _⟩ := h
    rfl
  · obtain ⟨x, y, t, u, rfl, hx, h⟩ := h
    refine ⟨_, (pss_cons (ps_if (pt_val (pe_callB call_isi (by rfl) B.b_isinstance (by decide +kernel) (pa_cons (pv 1) (pa_cons (pe_glob (v := .ref C) rfl m_C rfl) pa_nil))))
        (pss_one (ps_ret (pe_and (pe_cmpR op_eq (pe_fld (pv 0) rfl) (pe_fld (pv 1) rfl) (nomark _)) (pe_one (pe_cmpR op_eq (pe_fld (pv 0) rfl) (pe_fld (pv 1) rfl) (nomark _)))))) pss_nil)
      (pss_one (ps_ret (pe_and (pe_call G_I hr rfl m_I k_I b_I .nil pass0 (pa_cons (pv 1) pa_nil)) (pe_and (pe_cmpR op_eq (pe_fld (pv 0) rfl) pe_int (nomark _)) (pe_one (pe_cmpR op_eq (pe_fld (pv 0) rfl) (pv 1) (nomark _)))))))), ?_⟩
    obtain ⟨dx, hx0⟩ := id hx
    rcases h with ⟨r, t', u', rfl, hr1, k⟩ | ⟨i, rfl, k⟩ | ⟨q, ty, kb, it, ni, k⟩
    · obtain ⟨dr, hr0⟩ := id hr1
      refine ⟨_, rfl, _, _, _, _, true, rfl, .own C, hr1.ty T Y, kit_self, _, rfl, iteT ?_⟩
      refine ⟨_, rfl, x, C, dx, _, _, rfl, hx0, T.cl, T.nT, rf_top _ _, _, rfl, r, C, dr, _, _, rfl, hr0, T.cl, T.nT, rf_top _ _, rfl, _, rfl, ?_⟩
      rw [dec_int2]
      by_cases e : t = t'
      · rw [decide_eq_true e]
        refine iteT ⟨_, rfl, x, C, dx, _, _, rfl, hx0, T.cl, T.nB, rf_bottom _ _, _, rfl, r, C, dr, _, _, rfl, hr0, T.cl, T.nB, rf_bottom _ _, rfl, ?_⟩
        show Q (.bl (decide (V.int u = V.int u'))) H
        rw [dec_int2]
        simp only [e, true_and] at k
        exact k
      · rw [decide_eq_false e]
        refine iteF ?_
        simp only [e, false_and, decide_false] at k
        exact k
    · refine ⟨_, rfl, _, _, _, _, false, rfl, .own C, .base (.int _), Z.kint, _, rfl, iteF ?_⟩
      refine ⟨_, rfl, _, rfl, .int i, _, rfl, iteT ?_⟩
      refine ⟨_, rfl, x, C, dx, _, _, rfl, hx0, T.cl, T.nB, rf_bottom _ _, rfl, _, rfl, ?_⟩
      rw [dec_int2]
      by_cases e : u = 1
      · rw [decide_eq_true e]
        refine iteT ⟨_, rfl, x, C, dx, _, _, rfl, hx0, T.cl, T.nT, rf_top _ _, _, rfl, rfl, ?_⟩
        show Q (.bl (decide (V.int t = V.int i))) H
        rw [dec_int2]
        simp only [e, true_and] at k
        exact k
      · rw [decide_eq_false e]
        refine iteF ?_
        simp only [e, false_and, decide_false] at k
        exact k
    · refine ⟨_, rfl, _, _, _, _, false, rfl, .own C, ty, kb, _, rfl, iteF ?_⟩
      refine ⟨_, rfl, y, rfl, it, _, rfl, ?_⟩
      rw [ni]
      exact iteF k
end
end Sq

namespace Sq
open PySem L2 PyProof.Rows
abbrev s_isprime : Stmt := top 17
abbrev s_inverse : Stmt := top 18
/-! ### primes -/
/-- no divisor from 2 on whose square is at most n -/
def isP (n : Nat) : Bool := (List.range 100).all fun d => !(decide (2 ≤ d) && decide (d * d ≤ n) && decide (n % d = 0))
def rt (n : Nat) : Bool := let r := Float64.isqrt n; Nat.ble (r * r) n && Nat.blt n ((r + 1) * (r + 1))
def chk : Nat → Nat → Bool
  | 0, _ => true
  | k + 1, b => rt (b + k) && chk k b
theorem chk_at {n : Nat} : ∀ {k b : Nat}, chk k b = true → b ≤ n → n < b + k → rt n = true
  | 0, b, _, h1, h2 => absurd h2 (by omega)
  | k + 1, b, h, h1, h2 => by
    obtain ⟨ha, hb⟩ := Bool.and_eq_true_iff.mp h
    by_cases e : n = b + k
    · rw [e]
      exact ha
    · exact chk_at hb h1 (by omega)
theorem chk0 : chk 100 0 = true := by decide +kernel
theorem chk1 : chk 100 100 = true := by decide +kernel
theorem chk2 : chk 100 200 = true := by decide +kernel
theorem chk3 : chk 100 300 = true := by decide +kernel
theorem chk4 : chk 100 400 = true := by decide +kernel
theorem chk5 : chk 100 500 = true := by decide +kernel
theorem chk6 : chk 100 600 = true := by decide +kernel
theorem chk7 : chk 100 700 = true := by decide +kernel
theorem chk8 : chk 100 800 = true := by decide +kernel
theorem chk9 : chk 100 900 = true := by decide +kernel
theorem chk10 : chk 100 1000 = true := by decide +kernel
theorem chk11 : chk 100 1100 = true := by decide +kernel
theorem chk12 : chk 100 1200 = true := by decide +kernel
theorem chk13 : chk 100 1300 = true := by decide +kernel
theorem chk14 : chk 100 1400 = true := by decide +kernel
theorem chk15 : chk 100 1500 = true := by decide +kernel
theorem chk16 : chk 100 1600 = true := by decide +kernel
theorem chk17 : chk 100 1700 = true := by decide +kernel
theorem chk18 : chk 100 1800 = true := by decide +kernel
theorem chk19 : chk 100 1900 = true := by decide +kernel
theorem chk20 : chk 100 2000 = true := by decide +kernel
theorem chk21 : chk 100 2100 = true := by decide +kernel
theorem chk22 : chk 100 2200 = true := by decide +kernel
theorem chk23 : chk 100 2300 = true := by decide +kernel
theorem chk24 : chk 100 2400 = true := by decide +kernel
theorem chk25 : chk 100 2500 = true := by decide +kernel
theorem chk26 : chk 100 2600 = true := by decide +kernel
theorem chk27 : chk 100 2700 = true := by decide +kernel
theorem chk28 : chk 100 2800 = true := by decide +kernel
theorem chk29 : chk 100 2900 = true := by decide +kernel
theorem chk30 : chk 100 3000 = true := by decide +kernel
theorem chk31 : chk 100 3100 = true := by decide +kernel
theorem chk32 : chk 100 3200 = true := by decide +kernel
theorem chk33 : chk 100 3300 = true := by decide +kernel
theorem chk34 : chk 100 3400 = true := by decide +kernel
theorem chk35 : chk 100 3500 = true := by decide +kernel
theorem chk36 : chk 100 3600 = true := by decide +kernel
theorem chk37 : chk 100 3700 = true := by decide +kernel
theorem chk38 : chk 100 3800 = true := by decide +kernel
theorem chk39 : chk 100 3900 = true := by decide +kernel
theorem chk40 : chk 100 4000 = true := by decide +kernel
theorem chk41 : chk 100 4100 = true := by decide +kernel
theorem chk42 : chk 100 4200 = true := by decide +kernel
theorem chk43 : chk 100 4300 = true := by decide +kernel
theorem chk44 : chk 100 4400 = true := by decide +kernel
theorem chk45 : chk 100 4500 = true := by decide +kernel
theorem chk46 : chk 100 4600 = true := by decide +kernel
theorem chk47 : chk 100 4700 = true := by decide +kernel
theorem chk48 : chk 100 4800 = true := by decide +kernel
theorem chk49 : chk 100 4900 = true := by decide +kernel
theorem chk50 : chk 100 5000 = true := by decide +kernel
theorem chk51 : chk 100 5100 = true := by decide +kernel
theorem chk52 : chk 100 5200 = true := by decide +kernel
theorem chk53 : chk 100 5300 = true := by decide +kernel
theorem chk54 : chk 100 5400 = true := by decide +kernel
theorem chk55 : chk 100 5500 = true := by decide +kernel
theorem chk56 : chk 100 5600 = true := by decide +kernel
theorem chk57 : chk 100 5700 = true := by decide +kernel
theorem chk58 : chk 100 5800 = true := by decide +kernel
theorem chk59 : chk 100 5900 = true := by decide +kernel
theorem chk60 : chk 100 6000 = true := by decide +kernel
theorem chk61 : chk 100 6100 = true := by decide +kernel
theorem chk62 : chk 100 6200 = true := by decide +kernel
theorem chk63 : chk 100 6300 = true := by decide +kernel
theorem chk64 : chk 100 6400 = true := by decide +kernel
theorem chk65 : chk 100 6500 = true := by decide +kernel
theorem chk66 : chk 100 6600 = true := by decide +kernel
theorem chk67 : chk 100 6700 = true := by decide +kernel
theorem chk68 : chk 100 6800 = true := by decide +kernel
theorem chk69 : chk 100 6900 = true := by decide +kernel
theorem chk70 : chk 100 7000 = true := by decide +kernel
theorem chk71 : chk 100 7100 = true := by decide +kernel
theorem chk72 : chk 100 7200 = true := by decide +kernel
theorem chk73 : chk 100 7300 = true := by decide +kernel
theorem chk74 : chk 100 7400 = true := by decide +kernel
theorem chk75 : chk 100 7500 = true := by decide +kernel
theorem chk76 : chk 100 7600 = true := by decide +kernel
theorem chk77 : chk 100 7700 = true := by decide +kernel
theorem chk78 : chk 100 7800 = true := by decide +kernel
theorem chk79 : chk 100 7900 = true := by decide +kernel
theorem chk80 : chk 100 8000 = true := by decide +kernel
theorem chk81 : chk 100 8100 = true := by decide +kernel
theorem chk82 : chk 100 8200 = true := by decide +kernel
theorem chk83 : chk 100 8300 = true := by decide +kernel
theorem chk84 : chk 100 8400 = true := by decide +kernel
theorem chk85 : chk 100 8500 = true := by decide +kernel
theorem chk86 : chk 100 8600 = true := by decide +kernel
theorem chk87 : chk 100 8700 = true := by decide +kernel
theorem chk88 : chk 100 8800 = true := by decide +kernel
theorem chk89 : chk 100 8900 = true := by decide +kernel
theorem chk90 : chk 100 9000 = true := by decide +kernel
theorem chk91 : chk 100 9100 = true := by decide +kernel
theorem chk92 : chk 100 9200 = true := by decide +kernel
theorem chk93 : chk 100 9300 = true := by decide +kernel
theorem chk94 : chk 100 9400 = true := by decide +kernel
theorem chk95 : chk 100 9500 = true := by decide +kernel
theorem chk96 : chk 100 9600 = true := by decide +kernel
theorem chk97 : chk 100 9700 = true := by decide +kernel
theorem chk98 : chk 100 9800 = true := by decide +kernel
theorem chk99 : chk 100 9900 = true := by decide +kernel
theorem chk_all : ∀ c, c < 100 → chk 100 (c * 100) = true := fun c hc => match c, hc with
  | 0, _ => chk0
  | 1, _ => chk1
  | 2, _ => chk2
  | 3, _ => chk3
  | 4, _ => chk4
  | 5, _ => chk5
  | 6, _ => chk6
  | 7, _ => chk7
  | 8, _ => chk8
  | 9, _ => chk9
  | 10, _ => chk10
  | 11, _ => chk11
  | 12, _ => chk12
  | 13, _ => chk13
  | 14, _ => chk14
  | 15, _ => chk15
  | 16, _ => chk16
  | 17, _ => chk17
  | 18, _ => chk18
  | 19, _ => chk19
  | 20, _ => chk20
  | 21, _ => chk21
  | 22, _ => chk22
  | 23, _ => chk23
  | 24, _ => chk24
  | 25, _ => chk25
  | 26, _ => chk26
  | 27, _ => chk27
  | 28, _ => chk28
  | 29, _ => chk29
  | 30, _ => chk30
  | 31, _ => chk31
  | 32, _ => chk32
  | 33, _ => chk33
  | 34, _ => chk34
  | 35, _ => chk35
  | 36, _ => chk36
  | 37, _ => chk37
  | 38, _ => chk38
  | 39, _ => chk39
  | 40, _ => chk40
  | 41, _ => chk41
  | 42, _ => chk42
  | 43, _ => chk43
  | 44, _ => chk44
  | 45, _ => chk45
  | 46, _ => chk46
  | 47, _ => chk47
  | 48, _ => chk48
  | 49, _ => chk49
  | 50, _ => chk50
  | 51, _ => chk51
  | 52, _ => chk52
  | 53, _ => chk53
  | 54, _ => chk54
  | 55, _ => chk55
  | 56, _ => chk56
  | 57, _ => chk57
  | 58, _ => chk58
  | 59, _ => chk59
  | 60, _ => chk60
  | 61, _ => chk61
  | 62, _ => chk62
  | 63, _ => chk63
  | 64, _ => chk64
  | 65, _ => chk65
  | 66, _ => chk66
  | 67, _ => chk67
  | 68, _ => chk68
  | 69, _ => chk69
  | 70, _ => chk70
  | 71, _ => chk71
  | 72, _ => chk72
  | 73, _ => chk73
  | 74, _ => chk74
  | 75, _ => chk75
  | 76, _ => chk76
  | 77, _ => chk77
  | 78, _ => chk78
  | 79, _ => chk79
  | 80, _ => chk80
  | 81, _ => chk81
  | 82, _ => chk82
  | 83, _ => chk83
  | 84, _ => chk84
  | 85, _ => chk85
  | 86, _ => chk86
  | 87, _ => chk87
  | 88, _ => chk88
  | 89, _ => chk89
  | 90, _ => chk90
  | 91, _ => chk91
  | 92, _ => chk92
  | 93, _ => chk93
  | 94, _ => chk94
  | 95, _ => chk95
  | 96, _ => chk96
  | 97, _ => chk97
  | 98, _ => chk98
  | 99, _ => chk99
  | n + 100, h => absurd h (by omega)
theorem root_ok (n : Nat) (h : n < 9974) : Float64.isqrt n * Float64.isqrt n ≤ n ∧ n < (Float64.isqrt n + 1) * (Float64.isqrt n + 1) := by
  have e : rt n = true := chk_at (chk_all (n / 100) (by omega)) (by omega) (by omega)
  obtain ⟨h1, h2⟩ := Bool.and_eq_true_iff.mp e
  exact ⟨Nat.le_of_ble_eq_true h1, by simpa [Nat.blt_eq] using h2⟩
theorem root_le {n d : Nat} (h : n < 9974) : d ≤ Float64.isqrt n ↔ d * d ≤ n := by
  obtain ⟨h1, h2⟩ := root_ok n h
  constructor
  · intro e
    exact Nat.le_trans (Nat.mul_le_mul e e) h1
  · intro e
    refine Nat.le_of_not_lt fun c => ?_
    have := Nat.mul_le_mul (Nat.succ_le_of_lt c) (Nat.succ_le_of_lt c)
    simp only [Nat.succ_eq_add_one] at this
    omega
theorem sq_lt {n d : Nat} (h : n < 9974) (e : d * d ≤ n) : d < 100 := by
  refine Nat.lt_of_not_le fun c => ?_
  have := Nat.mul_le_mul c c
  omega
theorem isP_no {n d : Nat} (h2 : 2 ≤ d) (hn : n < 9974) (hs : d * d ≤ n) (hm : n % d = 0) : isP n = false := by
  cases e : isP n with
  | false => rfl
  | true =>
    have q := List.all_eq_true.mp e d (List.mem_range.mpr (sq_lt hn hs))
    simp [h2, hs, hm] at q
theorem isP_yes {n : Nat} (h : ∀ d, 2 ≤ d → d * d ≤ n → n % d ≠ 0) : isP n = true := by
  refine List.all_eq_true.mpr fun d _ => ?_
  by_cases h2 : 2 ≤ d
  · by_cases hs : d * d ≤ n
    · simp [h2, hs, h d h2 hs]
    · simp [hs]
  · simp [h2]
theorem isP_at {n d : Nat} (h : isP n = true) (h2 : 2 ≤ d) (hn : n < 9974) (hs : d * d ≤ n) : n % d ≠ 0 := fun e => by
  rw [isP_no h2 hn hs e] at h
  cases h
def rRoot : List V → Hp → VK → Prop := fun vs H Q => ∃ a : Nat, vs = [.int (a : Int)] ∧ a < 2 ^ 64 ∧ Q (.int ((Float64.isqrt a : Nat) : Int)) H
theorem cr_root {X : Cx} : CallR X (.builtin "math.isqrt") rRoot := by
  intro pins s σ H vs us Q I r h
  obtain ⟨a, rfl, ha, q⟩ := h
  cases r with
  | @cons _ u _ _ r1 r2 =>
    cases r2
    obtain ⟨t, rfl⟩ := (show ∃ t, u = Value.int (a : Int) t from r1)
    exact PySem.W.mg_isqrt (by omega) (by omega) ⟨.int ((Float64.isqrt a : Nat) : Int), H, I.tok _, ⟨s.toks, by rw [Int.toNat_natCast]⟩, q⟩
structure RTx (mg : Str → Option Value) : Prop where
  g_isqrt : mg "isqrt" = some (.builtin "math.isqrt")
  b_range : mg "range" = none
def spPrime : Sp := fun vs H Q _ => ∃ n : Nat, vs = [.int (n : Int)] ∧ n < 9974 ∧ Q (.bl (isP n)) H
section
variable {P : Program} {w : World} {K : PySem.W.Frag} {mg : Str → Option Value} {base : Heap}
theorem sc_isprime : FnScope ["count", "divisor"] ["count"] (defScope s_isprime) := ⟨rfl, rfl, rfl, by decide +kernel, rfl, by decide +kernel, by decide +kernel⟩
theorem ok_isprime {f : Addr} {fd : FuncData} (F : Fun K "_is_prime" "_is_prime" s_isprime f fd) (T : RTx mg) : FnOk P w K mg base CX0 1 f fd ["count"] spPrime := by
  refine F.ok sc_isprime (fun vs H Q E h => ?_) (fun cdv A outer s H vs Q E hr h => ?_)
  · obtain ⟨x, rfl, _⟩ := h
    rfl
  · obtain ⟨n, rfl, hn, k⟩ := h
    refine ⟨_, pss_cons (ps_for PassesOwn.never rfl (pi_range2 (by rfl) T.b_range (pa_cons pe_int (pa_cons (pe_op op_add (pe_callBfun cr_root (by rfl) T.g_isqrt (pa_cons (pv 0) pa_nil)) pe_int) pa_nil))) (pg_name (i := 1) sc_isprime.nd rfl (Or.inl rfl)) (pss_one (ps_if (pt_cmpR op_eq (pe_op op_mod (pv 0) (pv 1)) pe_int (nomark _)) (pss_one (ps_ret pe_bl)) pss_nil)))
      (pss_one (ps_ret pe_bl)), ?_⟩
    have r99 : Float64.isqrt n < 100 := sq_lt hn (root_ok n hn).1
    refine ⟨_, rfl, n, rfl, by omega, _, _, rfl, rfl, _, _, rfl, by omega, ?_⟩
    refine for_range (lo := 2) (n := (((Float64.isqrt n : Nat) : Int) + 1 - 2).toNat) (fun i σ H' => ∃ z, σ = [some (.int (n : Int)), z] ∧ H' = H ∧ ∀ d, 2 ≤ d → d < 2 + i → n % d ≠ 0) ⟨none, rfl, rfl, fun d h1 h2 => by omega⟩ ?_ ?_
    · rintro i σ H2 hi ⟨z, rfl, rfl, hd⟩
      have hle : 2 + i ≤ Float64.isqrt n := by omega
      have em : ((n : Int) % ((2 : Int) + (i : Int))) = ((n % (2 + i) : Nat) : Int) := by
        rw [Int.natCast_emod]
        rfl
      refine ⟨_, rfl, _, rfl, _, _, rfl, rfl, by omega, rfl, _, rfl, ite2 (fun c => ?_) (fun c => ?_)⟩
      · have e0 : n % (2 + i) = 0 := by
          have q : ((n : Int) % ((2 : Int) + (i : Int))) = 0 := V.int.inj (of_decide_eq_true c)
          rw [em] at q
          omega
        rw [isP_no (by omega) hn ((root_le hn).mp hle) e0] at k
        exact k
      · refine ⟨_, rfl, rfl, fun d h1 h2 => ?_⟩
        by_cases e : d = 2 + i
        · subst e
          intro q
          refine c (decide_eq_true ?_)
          show V.int ((n : Int) % ((2 : Int) + (i : Int))) = V.int 0
          rw [em, q]
          rfl
        · exact hd d h1 (by omega)
    · rintro σ H2 ⟨z, rfl, rfl, hd⟩
      rw [isP_yes fun d h1 h2 => hd d h1 (by have := (root_le hn).mpr h2; omega)] at k
      exact k
def spInv : Sp := fun vs H Q _ => ∃ a p : Int, vs = [.int a, .int p] ∧ 1 ≤ a ∧ a < p ∧ p < 9974 ∧ Int.gcd p a = 1 ∧ ∀ r, 0 ≤ r → r < p → (∃ k, r * a = 1 + k * p) → ∀ H', Same H H' → Q (.int r) H'
theorem sc_inverse : FnScope ["number", "prime", "high", "low", "high_factor", "low_factor", "times"] ["number", "prime"] (defScope s_inverse) := ⟨rfl, rfl, rfl, by decide +kernel, rfl, by decide +kernel, by decide +kernel⟩
theorem ok_inverse {f : Addr} {fd : FuncData} (F : Fun K "_inverse" "_inverse" s_inverse f fd) : FnOk P w K mg base CX0 1 f fd ["number", "prime"] spInv := by
  refine F.ok sc_inverse (fun vs H Q E h => ?_) (fun cdv A outer s H vs Q E hr h => ?_)
  · obtain ⟨x, y, rfl, _⟩ := h
    rfl
  · obtain ⟨a, p, rfl, ha, hap, hp, hg, k⟩ := h
    refine ⟨_, (pss_cons (ps_par (i := 2) (j := 3) (by rfl) sc_inverse.nd rfl rfl (by decide) rfl rfl (pa_cons (pv 1) (pa_cons (pv 0) pa_nil)) (by rfl))
      (pss_cons (ps_asg (pe_tup (pa_cons pe_int (pa_cons pe_int pa_nil))) (pg_tup rfl (pgs_cons (pg_name (i := 4) sc_inverse.nd rfl (Or.inl rfl)) (pgs_cons (pg_name (i := 5) sc_inverse.nd rfl (Or.inl rfl)) pgs_nil))))
      (pss_cons (ps_while PassesOwn.never (pt_cmpR op_gt (pv 3) pe_int (nomark _)) (pss_cons (ps_set (i := 6) sc_inverse.nd rfl (Or.inl rfl) (pe_op op_fdiv (pv 2) (pv 3)))
      (pss_cons (ps_par (i := 2) (j := 3) (by rfl) sc_inverse.nd rfl rfl (by decide) rfl rfl (pa_cons (pv 3) (pa_cons (pe_op op_sub (pv 2) (pe_op op_mul (pv 6) (pv 3))) pa_nil)) (by rfl))
      (pss_one (ps_par (i := 4) (j := 5) (by rfl) sc_inverse.nd rfl rfl (by decide) rfl rfl (pa_cons (pv 5) (pa_cons (pe_op op_sub (pv 4) (pe_op op_mul (pv 6) (pv 5))) pa_nil)) (by rfl))))))
      (pss_one (ps_ret (pe_op op_mod (pv 5) (pv 1))))))), ?_⟩
    refine ⟨_, rfl, _, rfl, _, _, rfl, (by show 2 ≤ sizeLine; decide), fun q hq => ⟨q, _, rfl, .inl (.inl upd_same), rfl, _, _, rfl, _, _, rfl, rfl, ?_⟩⟩
    have s0 : Same H (upd H q (.tup [.int 0, .int 1])) := same_new (Same.refl _) hq
    refine while_by (fun σ H' => ∃ (x l xf lf : Int) (z : Option V) (s u v : Int), σ = [some (.int a), some (.int p), some (.int x), some (.int l), some (.int xf), some (.int lf), z] ∧ Same H H' ∧ 1 ≤ l ∧ l < x ∧ x ≤ p ∧ Int.gcd x l = 1 ∧ (∃ k, xf * a = x + k * p) ∧ (∃ k, lf * a = l + k * p) ∧
      (s = 1 ∨ s = -1) ∧ 0 ≤ u ∧ 0 ≤ v ∧ xf = -s * u ∧ lf = s * v ∧ x * v + l * u = p) (fun σ _ => match σ with | [_, _, _, some (.int l), _, _, _] => l.natAbs | _ => 0) ⟨p, a, 0, 1, none, 1, 0, 1, rfl, s0, ha, hap, Int.le_refl _, hg, ⟨-1, by omega⟩, ⟨0, by omega⟩, .inl rfl, by decide, by decide, rfl, rfl, by omega⟩ ?_ ?_
    · rintro σ H' ⟨x, l, xf, lf, z, s, u, v, rfl, sH, h1, h2, h3, hg2, ⟨k1, e1⟩, ⟨k2, e2⟩, hs, hu, hv, ex, el, id⟩
      have hvp : v ≤ p := by
        have a1 : 1 * v ≤ x * v := Int.mul_le_mul_of_nonneg_right (by omega) hv
        have a2 : 0 ≤ l * u := Int.mul_nonneg (by omega) hu
        omega
      refine ⟨_, rfl, _, _, rfl, rfl, _, rfl, ?_⟩
      refine ite2 (fun c => ?_) (fun c => ?_)
      · have l1 : 1 < l := of_decide_eq_true c
        have d1 : x / l * l ≤ x := Int.ediv_mul_le x (by omega)
        have t0 : 0 ≤ x / l := Int.ediv_nonneg (by omega) (by omega)
        have tx : x / l ≤ x := Int.ediv_le_self _ (by omega)
        have dm := Int.emod_add_mul_ediv x l
        have m0 := Int.emod_nonneg x (b := l) (by omega)
        have m1 := Int.emod_lt_of_pos x (b := l) (by omega)
        have er : x - x / l * l = x % l := by
          have e := Int.emod_def x l
          rw [Int.mul_comm] at e
          exact e.symm
        have gr : Int.gcd l (x % l) = 1 := by
          rw [← Int.fmod_eq_emod_of_nonneg x (by omega), gcd_fmod]
          exact hg2
        have mn : 1 ≤ x % l := by
          rcases (show x % l = 0 ∨ 1 ≤ x % l from by omega) with e | e
          · rw [e] at gr
            simp at gr
            omega
          · exact e
        have lfb : -(2 ^ 64) < lf ∧ lf < 2 ^ 64 := by rcases hs with rfl | rfl <;> omega
        refine ⟨_, rfl, _, rfl, _, _, rfl, rfl, ⟨by omega, by omega⟩, ?_⟩
        refine ⟨_, rfl, _, rfl, _, rfl, _, rfl, _, _, rfl, rfl, .inl ⟨by omega, by omega⟩, _, _, rfl, rfl, _, _, rfl, ?_⟩
        refine ⟨_, rfl, _, rfl, _, rfl, _, rfl, _, _, rfl, rfl, .inl ⟨by omega, by omega⟩, _, _, rfl, rfl, _, _, rfl, ?_⟩
        refine ⟨⟨l, x - x / l * l, lf, xf - x / l * lf, some (.int (x / l)), -s, v, u + x / l * v, rfl, sH, by omega, by omega, by omega, by rw [er]; exact gr, ⟨k2, e2⟩, ⟨k1 - x / l * k2, ?_⟩, by omega, hv, ?_, ?_, ?_, ?_⟩, ?_⟩
        · generalize x / l = t at *
          grind
        · have := Int.mul_nonneg t0 hv
          omega
        · rw [el]
          grind
        · rw [ex, el]
          generalize x / l = t at *
          grind
        · generalize x / l = t at *
          grind
        · show (x - x / l * l).natAbs < l.natAbs
          omega
      · have l1 : l = 1 := by
          have := of_decide_eq_false (by simpa using c : decide (1 < l) = false)
          omega
        refine ⟨_, rfl, _, rfl, _, _, rfl, rfl, (show 0 < p from by omega), ?_⟩
        refine k (lf % p) (Int.emod_nonneg _ (by omega)) (Int.emod_lt_of_pos _ (by omega)) ?_ H' sH
        have dm := Int.emod_def lf p
        refine ⟨k2 - lf / p * a, ?_⟩
        rw [dm]
        subst l1
        generalize lf / p = t at *
        grind
    · rintro σ H' Q1 Q2 hi c
      obtain ⟨v, e, x, y, e2, z, e3, c⟩ := c
      exact ⟨v, e, x, y, e2, z, e3, c.1, hi _ _ c.2⟩
end
end Sq

namespace Sq
open PySem L2 PyProof.Rows
abbrev s_finit : Stmt := inClass (top 19) 0
abbrev s_feq : Stmt := inClass (top 19) 1
abbrev s_fnum : Stmt := inClass (top 19) 2
abbrev s_fover : Stmt := inClass (top 19) 3
def goodP (p : Int) : Bool := decide (p = 0) || (decide (2 ≤ p) && decide (p ≤ 9973) && isP p.toNat)
theorem goodP_pos {p : Int} (h : goodP p = true) (h0 : p ≠ 0) : 2 ≤ p ∧ p ≤ 9973 ∧ isP p.toNat = true := by
  unfold goodP at h
  simp [h0] at h
  exact ⟨h.1.1, h.1.2, h.2⟩
theorem gcd_prime {p a : Int} (h2 : 2 ≤ p) (hp : p ≤ 9973) (h : isP p.toNat = true) (h1 : 1 ≤ a) (ha : a < p) : Int.gcd p a = 1 := by
  have dp : Int.gcd p a ∣ p.natAbs := Int.gcd_dvd_natAbs_left ..
  have da : Int.gcd p a ∣ a.natAbs := Int.gcd_dvd_natAbs_right ..
  generalize Int.gcd p a = g at *
  have pn : p.toNat = p.natAbs := by omega
  rw [pn] at h
  have ga : g ≤ a.natAbs := Nat.le_of_dvd (by omega) da
  obtain ⟨q, hq⟩ := dp
  have g0 : g ≠ 0 := fun e => by
    rw [e, Nat.zero_mul] at hq
    omega
  have q0 : q ≠ 0 := fun e => by
    rw [e, Nat.mul_zero] at hq
    omega
  have q1 : q ≠ 1 := fun e => by
    rw [e, Nat.mul_one] at hq
    omega
  by_cases g1 : g = 1
  · exact g1
  · exfalso
    rcases Nat.le_total g q with l | l
    · have := Nat.mul_le_mul (Nat.le_refl g) l
      exact isP_at h (d := g) (by omega) (by omega) (by omega) (by rw [hq]; exact Nat.mul_mod_right _ _)
    · have := Nat.mul_le_mul l (Nat.le_refl q)
      exact isP_at h (d := q) (by omega) (by omega) (by omega) (by rw [hq]; exact Nat.mul_mod_left _ _)
def pfl (p : Int) : List (Str × V) := putF "prime" (.int p) []
theorem pf_prime (p : Int) : (pfl p).lookup ("prime" : Str) = some (.int p) := by
  unfold pfl
  rw [lookup_putF, if_pos rfl]
theorem pf_no (p : Int) {m : Str} (h1 : ¬ m = "prime") : (pfl p).lookup m = none := by
  unfold pfl
  rw [lookup_putF, if_neg h1]
  rfl
def FldAt (CF : Addr) (H : Hp) (x : Addr) (p : Int) : Prop := ∃ dx, H x = some (.ins CF dx (pfl p))
theorem FldAt.same {C : Addr} {H H' : Hp} {x : Addr} {p : Int} (s : Same H H') (h : FldAt C H x p) : FldAt C H' x p := by
  obtain ⟨dx, h⟩ := h
  exact ⟨dx, s _ _ h⟩
structure FTx (K : PySem.W.Frag) (CF : Addr) : Prop where
  cl : Cls K CF
  nP : NoAttr K CF "prime"
/-- an own error without an __init__ that is raised -/
structure RNx (K : PySem.W.Frag) (mg : Str → Option Value) (x : Str) (CN : Addr) : Prop where
  q : PySem.W.excIn K CN [.type "ValueError", .type "Exception", .type "BaseException", .type "object"] "ValueError.__new__" = true
  m : mg x = some (.ref CN)
  k : PySem.W.keepIn K (.ref CN) = true
  ex : PySem.W.subIn K (.ref CN) (.type "BaseException") = some true
  ty : PySem.W.typeIn K (.ref CN) = some (.type "type")
theorem itD {c : Prop} [Decidable c] {a b : Prop} (h : c) (x : a) : ite c a b := by
  rw [if_pos h]
  exact x
theorem itDn {c : Prop} [Decidable c] {a b : Prop} (h : ¬ c) (x : b) : ite c a b := by
  rw [if_neg h]
  exact x
def spFieldInit (K : PySem.W.Frag) (CF CNF : Addr) : Sp := fun vs H Q E => ∃ (x dx : Addr) (v : V), vs = [.ref x, v] ∧ H x = some (.ins CF dx []) ∧ IsTy K H v ∧ ((∀ p, v = .int p → goodP p = false) → E (.ref CNF) none H) ∧
  (∀ p, v = .int p → goodP p = true → ∀ H', FldAt CF H' x p → But x H H' → Q .non H')
section
variable {P : Program} {w : World} {K : PySem.W.Frag} {mg : Str → Option Value} {base : Heap}
theorem sc_finit : FnScope ["self", "prime"] ["self", "prime"] (defScope s_finit) := ⟨rfl, rfl, rfl, by decide +kernel, rfl, by decide +kernel, by decide +kernel⟩
theorem ok_finit {f CF CNF fI fP : Addr} {fd fdI fdP : FuncData} {tk : Tok} (F : FunD K "__init__" "Field.__init__" (defArgs s_finit) (defBody s_finit) (defScope s_finit) [.int 0] [] f fd) (TF : FTx K CF) (RN : RNx K mg "NoField" CNF) (GP : mg "GREATEST_PRIME" = some (.int 9973 tk))
    (G_I : FnOk P w K mg base CX0 1 fI fdI ["value"] (spIsInt K)) (m_I : mg "is_an_integer" = some (.ref fI)) (k_I : PySem.W.keepIn K (.ref fI) = true) (b_I : Binds K fdI ["value"] [])
    (G_P : FnOk P w K mg base CX0 1 fP fdP ["count"] spPrime) (m_P : mg "_is_prime" = some (.ref fP)) (k_P : PySem.W.keepIn K (.ref fP) = true) (b_P : Binds K fdP ["count"] []) :
    FnOk P w K mg base (L2.CX P w) 2 f fd ["self", "prime"] (spFieldInit K CF CNF) := by
  refine F.ok sc_finit (fun vs H Q E h => ?_) (fun cdv A outer s H vs Q E hr h => ?_)
  · obtain ⟨x, dx, v, rfl, _⟩ := h
    rfl
  · obtain ⟨x, dx, v, rfl, hx, tv, kE, kQ⟩ := h
    refine ⟨_, (pss_cons (ps_if (pt_not (pt_val (pe_call G_I (hr.mono (by decide)) rfl m_I k_I b_I .nil pass0 (pa_cons (pv 1) pa_nil))))
        (pss_one (ps_raise rfl (takes_of rfl rfl rfl rfl) (pmk_own0 PySem.F.excBase_ValueError RN.q RN.m RN.k (raises_own RN.ex RN.ty) rfl)))
        pss_nil)
      (pss_cons (ps_if (PW.pt (pw_and (pt_cmpR op_ne (pv 1) pe_int (nomark _)) (pw_and1 (pt_not (PW.pt (pw_and (pt_chain op_le op_le pe_int (pv 1) (pe_glob (v := .int 9973) rfl GP ⟨_, rfl⟩)) (pw_and1 (pt_val (pe_call G_P (hr.mono (by decide)) rfl m_P k_P b_P .nil pass0 (pa_cons (pv 1) pa_nil))))))))))
        (pss_one (ps_raise rfl (takes_of rfl rfl rfl rfl) (pmk_own0 PySem.F.excBase_ValueError RN.q RN.m RN.k (raises_own RN.ex RN.ty) rfl)))
        pss_nil)
      (pss_one (ps_fld (pv 0) (pv 1) rfl)))), ?_⟩
    refine ⟨_, rfl, v, rfl, tv, _, rfl, ?_⟩
    cases ev : isI v with
    | false => exact iteT (kE fun p e => by rw [e] at ev; cases ev)
    | true =>
      obtain ⟨p, rfl⟩ := isI_int ev
      refine iteF ⟨_, rfl, rfl, _, rfl, ?_⟩
      have fin : goodP p = true → _ := fun hg => kQ p rfl hg (upd H x (.ins CF dx (pfl p))) ⟨dx, upd_same⟩ (But.refl x _).upd
      have sets : ∀ {Q' : Hp → Prop}, Q' (upd H x (.ins CF dx (pfl p))) → Q' (upd H x (.ins CF dx (putF "prime" (.int p) []))) := fun h => h
      by_cases p0 : p = 0
      · subst p0
        refine itDn (by simp) ?_
        exact ⟨_, rfl, _, rfl, x, CF, dx, [], rfl, hx, TF.cl, TF.nP, (by show 0 < 1000; decide), fin (by decide)⟩
      · refine itD (by simpa using p0) ?_
        refine ⟨_, rfl, _, _, rfl, rfl, _, rfl, ?_⟩
        by_cases c2 : 2 ≤ p
        · refine itD (by simpa using c2) ⟨_, _, rfl, rfl, _, rfl, ?_⟩
          by_cases c3 : p ≤ 9973
          · refine itD (by simpa using c3) ?_
            refine ⟨_, rfl, p.toNat, (by rw [Int.toNat_of_nonneg (by omega)]; rfl), by omega, _, rfl, ?_⟩
            cases hp : isP p.toNat with
            | true =>
              refine itDn (by decide) ?_
              exact ⟨_, rfl, _, rfl, x, CF, dx, [], rfl, hx, TF.cl, TF.nP, (by show 0 < 1000; decide), fin (by unfold goodP; simp [c2, c3, hp])⟩
            | false =>
              refine itD rfl ?_
              exact kE fun p2 e => by cases e; unfold goodP; simp [p0, hp]
          · exact itDn (by simpa using c3) (kE fun p' e => by cases e; unfold goodP; simp [p0, c3])
        · exact itDn (by simpa using c2) ⟨_, rfl, itDn (by decide) (kE fun p' e => by cases e; unfold goodP; simp [p0, c2])⟩
end
end Sq

namespace Sq
open PySem L2 PyProof.Rows
/-- whether y is a number -/
def NmTy (K : PySem.W.Frag) (C : Addr) (H : Hp) (y : V) (r : Bool) : Prop := ∃ (t : Value) (b : Bool), TyX K H y t ∧ PySem.W.kitOne K t (.ref C) = some b ∧ IsTy K H y ∧ (b || isI y) = r
def spNumI (C CF : Addr) : Sp := fun vs H Q _ => ∃ (x : Addr) (v p : Int), vs = [.ref x, .int v] ∧ FldAt CF H x p ∧ goodP p = true ∧ v.natAbs < 2 ^ 8000 ∧ (p = 0 → ∀ z H', RatAt C H' z v 1 → Same H H' → Q (.ref z) H') ∧ (p ≠ 0 → Q (.int (v % p)) H)
def spOverI (CF CNN : Addr) : Sp := fun vs H Q E => ∃ (x : Addr) (a b p : Int), vs = [.ref x, .int a, .int b] ∧ FldAt CF H x p ∧ goodP p = true ∧ p ≠ 0 ∧ a.natAbs < 2 ^ 8000 ∧ b.natAbs < 2 ^ 8000 ∧ (b % p = 0 → E (.ref CNN) none H) ∧
  (b % p ≠ 0 → ∀ r H', 0 ≤ r → r < p → (∃ k, r * b = a + k * p) → Same H H' → Q (.int r) H')
/-- the number of the field p that t / u is, or none -/
def spNum (K : PySem.W.Frag) (C CF CNN : Addr) : Sp := fun vs H Q E => ∃ (x : Addr) (y : V) (p : Int), vs = [.ref x, y] ∧ FldAt CF H x p ∧ goodP p = true ∧
  ((NmTy K C H y false ∧ E (.ref CNN) none H) ∨ ∃ t u, NumAt C H y t u ∧ 1 ≤ u ∧ t.natAbs < 2 ^ 8000 ∧ u.natAbs < 2 ^ 8000 ∧
    (p = 0 → ∀ z H', RatAt C H' z t u → Same H H' → Q (.ref z) H') ∧
    (p ≠ 0 → u % p = 0 → E (.ref CNN) none H) ∧
    (p ≠ 0 → u % p ≠ 0 → ∀ r H', 0 ≤ r → r < p → (∃ k, r * u = t + k * p) → Same H H' → Q (.int r) H'))
section
variable {P : Program} {w : World} {K : PySem.W.Frag} {mg : Str → Option Value} {base : Heap}
theorem sc_fnum : FnScope ["self", "value"] ["self", "value"] (defScope s_fnum) := ⟨rfl, rfl, rfl, by decide +kernel, rfl, by decide +kernel, by decide +kernel⟩
theorem ok_numI {f C CF CNN fN fA : Addr} {fd fdN fdA : FuncData} (F : Fun K "number" "Field.number" s_fnum f fd) (T : CTx K C) (TF : FTx K CF) (Z : KZx K C) (B : ITx mg) (m_C : mg "Ratio" = some (.ref C)) (RN : RNx K mg "NoNumber" CNN)
    (G_N : FnOk P w K mg base CX0 2 fN fdN ["value"] (spIsNum K C)) (m_N : mg "is_number" = some (.ref fN)) (k_N : PySem.W.keepIn K (.ref fN) = true) (b_N : Binds K fdN ["value"] [])
    (G_A : FnOk P w K mg base CX0 5 fA fdA ["number"] (spAsRatio C)) (m_A : mg "as_ratio" = some (.ref fA)) (k_A : PySem.W.keepIn K (.ref fA) = true) (b_A : Binds K fdA ["number"] []) :
    FnOk P w K mg base (L2.CX P w) 6 f fd ["self", "value"] (spNumI C CF) := by
  refine F.okX sc_fnum (fun vs H Q E h => ?_) (fun cdv A outer s H vs Q E hr h => ?_)
  · obtain ⟨x, v, p, rfl, _⟩ := h
    rfl
  · obtain ⟨x, v, p, rfl, hx, hg, sv, k0, kp⟩ := h
    refine ⟨_, (pss_cons (ps_if (pt_not (pt_val (pe_call G_N (hr.mono (by decide)) rfl m_N k_N b_N .nil pass0 (pa_cons (pv 1) pa_nil))))
        (pss_one (ps_raise rfl (takes_of rfl rfl rfl rfl) (pmk_own0 PySem.F.excBase_ValueError RN.q RN.m RN.k (raises_own RN.ex RN.ty) rfl)))
        pss_nil)
      (pss_cons (ps_if (pt_cmpR op_eq (pe_fld (pv 0) rfl) pe_int (nomark _))
        (pss_one (ps_ret (pe_call G_A (hr.mono (by decide)) rfl m_A k_A b_A .nil pass0 (pa_cons (pv 1) pa_nil))))
        pss_nil)
      (pss_cons (ps_if (pt_val (pe_callB call_isi (by rfl) B.b_isinstance (by decide +kernel) (pa_cons (pv 1) (pa_cons (pe_glob (v := .ref C) rfl m_C rfl) pa_nil))))
        (pss_one ps_never)
        pss_nil)
      (pss_one (ps_ret (pe_op op_mod (pv 1) (pe_fld (pv 0) rfl))))))), ?_⟩
    obtain ⟨dx, hx0⟩ := id hx
    refine ⟨_, rfl, .int v, .type "int", false, rfl, .base (.int _), Z.kint, .int _, _, rfl, iteF ?_⟩
    refine ⟨_, rfl, x, CF, dx, _, _, rfl, hx0, TF.cl, TF.nP, pf_prime _, rfl, _, rfl, ?_⟩
    by_cases p0 : p = 0
    · refine itD (by simpa using p0) ?_
      exact ⟨_, rfl, .int v, v, 1, rfl, .inr ⟨rfl, rfl⟩, sv, fun r H1 hr1 s1 => k0 p0 r H1 hr1 s1⟩
    · refine itDn (by simpa using p0) ?_
      refine ⟨_, rfl, _, _, _, _, false, rfl, .own C, .base (.int _), Z.kint, _, rfl, iteF ?_⟩
      obtain ⟨p2, _, _⟩ := goodP_pos hg p0
      exact ⟨_, rfl, _, rfl, x, CF, dx, _, _, rfl, hx0, TF.cl, TF.nP, pf_prime _, _, _, rfl, rfl, (show 0 < p from by omega), kp p0⟩
theorem sc_fover : FnScope ["self", "one", "other", "top", "bottom"] ["self", "one", "other"] (defScope s_fover) := ⟨rfl, rfl, rfl, by decide +kernel, rfl, by decide +kernel, by decide +kernel⟩
theorem ok_overI {f C CF CNN fnum finv : Addr} {fd fdnum fdinv : FuncData} (F : Fun K "over" "Field.over" s_fover f fd) (TF : FTx K CF) (RN : RNx K mg "NoNumber" CNN)
    (Me_num : Meth K CF "number" fnum) (G_num : FnOk P w K mg base (L2.CX P w) 6 fnum fdnum ["self", "value"] (spNumI C CF)) (b_num : Binds K fdnum ["self", "value"] [])
    (G_inv : FnOk P w K mg base CX0 1 finv fdinv ["number", "prime"] spInv) (m_inv : mg "_inverse" = some (.ref finv)) (k_inv : PySem.W.keepIn K (.ref finv) = true) (b_inv : Binds K fdinv ["number", "prime"] []) :
    FnOk P w K mg base (L2.CX P w) 7 f fd ["self", "one", "other"] (spOverI CF CNN) := by
  refine F.okX sc_fover (fun vs H Q E h => ?_) (fun cdv A outer s H vs Q E hr h => ?_)
  · obtain ⟨x, a, b, p, rfl, _⟩ := h
    rfl
  · obtain ⟨x, a, b, p, rfl, hx, hg, p0, sa, sb, kE, k⟩ := h
    refine ⟨_, (pss_cons (ps_set (i := 3) sc_fover.nd rfl (Or.inl rfl) (pe_meth (E := E) (pv 0) TF.cl Me_num G_num (hr.mono (by decide)) b_num .nil (passes_call (takes_of rfl rfl rfl rfl) fun _ _ _ _ h => h) (pa_cons (pv 1) pa_nil)))
      (pss_cons (ps_set (i := 4) sc_fover.nd rfl (Or.inl rfl) (pe_meth (E := E) (pv 0) TF.cl Me_num G_num (hr.mono (by decide)) b_num .nil (passes_call (takes_of rfl rfl rfl rfl) fun _ _ _ _ h => h) (pa_cons (pv 2) pa_nil)))
      (pss_cons (ps_if (pt_cmpR op_eq (pv 4) pe_int (nomark _))
        (pss_one (ps_raise rfl (takes_of rfl rfl rfl rfl) (pmk_own0 PySem.F.excBase_ValueError RN.q RN.m RN.k (raises_own RN.ex RN.ty) rfl)))
        pss_nil)
      (pss_cons (ps_if (pt_cmpR op_eq (pe_fld (pv 0) rfl) pe_int (nomark _))
        (pss_one ps_never)
        pss_nil)
      (pss_one (ps_ret (pe_op op_mod (pe_op op_mul (pv 3) (pe_call G_inv (hr.mono (by decide)) rfl m_inv k_inv b_inv .nil pass0 (pa_cons (pv 4) (pa_cons (pe_fld (pv 0) rfl) pa_nil)))) (pe_fld (pv 0) rfl)))))))), ?_⟩
    obtain ⟨dx, hx0⟩ := id hx
    obtain ⟨p2, p3, hp⟩ := goodP_pos hg p0
    have a0 := Int.emod_nonneg a p0
    have a1 := Int.emod_lt_of_pos a (show 0 < p from by omega)
    have b0 := Int.emod_nonneg b p0
    have b1 := Int.emod_lt_of_pos b (show 0 < p from by omega)
    refine ⟨_, rfl, x, dx, _, rfl, hx0, pf_no _ (by decide +kernel), _, rfl, x, a, p, rfl, hx, hg, sa, fun e => absurd e p0, fun _ => ?_⟩
    refine ⟨_, rfl, x, dx, _, rfl, hx0, pf_no _ (by decide +kernel), _, rfl, x, b, p, rfl, hx, hg, sb, fun e => absurd e p0, fun _ => ?_⟩
    refine ⟨_, rfl, rfl, _, rfl, ?_⟩
    by_cases z : b % p = 0
    · refine itD (by simpa using z) ?_
      exact kE z
    · refine itDn (by simpa using z) ?_
      refine ⟨_, rfl, x, CF, dx, _, _, rfl, hx0, TF.cl, TF.nP, pf_prime _, rfl, _, rfl, itDn (by simpa using p0) ?_⟩
      refine ⟨_, rfl, _, rfl, _, rfl, x, CF, dx, _, _, rfl, hx0, TF.cl, TF.nP, pf_prime _, b % p, p, rfl, by omega, b1, by omega, gcd_prime p2 p3 hp (by omega) b1, fun r r0 r1 ⟨q, hq⟩ H1 s1 => ?_⟩
      refine ⟨_, _, rfl, rfl, .inl ⟨by omega, by omega⟩, _, rfl, x, CF, dx, _, _, rfl, s1 _ _ hx0, TF.cl, TF.nP, pf_prime _, _, _, rfl, rfl, (show 0 < p from by omega), ?_⟩
      refine k z _ H1 (Int.emod_nonneg _ p0) (Int.emod_lt_of_pos _ (by omega)) ?_ s1
      have da := Int.emod_def a p
      have db := Int.emod_def b p
      have dm := Int.emod_def (a % p * r) p
      generalize a % p * r / p = e1 at *
      generalize a / p = e2 at *
      generalize b / p = e3 at *
      generalize a % p = a' at *
      generalize b % p = b' at *
      refine ⟨a' * q + a' * r * e3 - e1 * b - e2, ?_⟩
      rw [dm]
      grind
end
end Sq

namespace Sq
open PySem L2 PyProof.Rows
theorem tyX_same {K : PySem.W.Frag} {H H' : Hp} {x : V} {t : Value} (s : Same H H') (ty : TyX K H x t) : TyX K H' x t := by
  cases ty with
  | base b =>
    refine .base ?_
    cases b with
    | non => exact .non
    | bl => exact .bl _
    | int => exact .int _
    | str => exact .str _
    | flt => exact .flt _
    | lst e => exact .lst (s _ _ e)
    | frz e => exact .frz (s _ _ e)
    | tup e => exact .tup (s _ _ e)
    | dK e => exact .dK (s _ _ e)
    | dT e => exact .dT (s _ _ e)
    | ins e c1 c2 c3 c4 c5 => exact .ins (s _ _ e) c1 c2 c3 c4 c5
  | byt => exact .byt _
  | set e => exact .set (s _ _ e)
  | kList e c => exact .kList e c
  | kTuple e c => exact .kTuple e c
  | kDict e c => exact .kDict e c
  | fTuple e => exact .fTuple (s _ _ e)
  | fDict e => exact .fDict (s _ _ e)
theorem NmTy.same {K : PySem.W.Frag} {C : Addr} {H H' : Hp} {y : V} {r : Bool} (s : Same H H') (h : NmTy K C H y r) : NmTy K C H' y r := by
  obtain ⟨t, b, ty, kb, it, e⟩ := h
  exact ⟨t, b, tyX_same s ty, kb, it.same s, e⟩
def spOver (K : PySem.W.Frag) (C CF CNN : Addr) : Sp := fun vs H Q E => ∃ (x : Addr) (y1 y2 : V) (p : Int), vs = [.ref x, y1, y2] ∧ FldAt CF H x p ∧ goodP p = true ∧
  ((NmTy K C H y1 false ∧ E (.ref CNN) none H) ∨ ∃ t u, NumAt C H y1 t u ∧ 1 ≤ u ∧ Fit t ∧ Fit u ∧
    (p ≠ 0 → u % p = 0 → E (.ref CNN) none H) ∧
    (¬ (p ≠ 0 ∧ u % p = 0) → (NmTy K C H y2 false ∧ ∀ H1, Same H H1 → E (.ref CNN) none H1) ∨ ∃ t' u', NumAt C H y2 t' u' ∧ 1 ≤ u' ∧ Int.gcd t' u' = 1 ∧ Fit t' ∧ Fit u' ∧
      (p = 0 → (t' = 0 → ∀ H1, Same H H1 → E (.ref CNN) none H1) ∧ (t' ≠ 0 → ∀ z T U H', Low (t * u') (u * t') T U → RatAt C H' z T U → Same H H' → Q (.ref z) H')) ∧
      (p ≠ 0 → u' % p = 0 → ∀ H1, Same H H1 → E (.ref CNN) none H1) ∧
      (p ≠ 0 → u' % p ≠ 0 → t' % p = 0 → ∀ H1, Same H H1 → E (.ref CNN) none H1) ∧
      (p ≠ 0 → u' % p ≠ 0 → t' % p ≠ 0 → ∀ r H', 0 ≤ r → r < p → (∃ k, r * (u * t') = t * u' + k * p) → Same H H' → Q (.int r) H')))
theorem zero_mod {p r u t k : Int} (h2 : 2 ≤ p) (hp : p ≤ 9973) (hi : isP p.toNat = true) (hu : u % p ≠ 0) (r0 : 0 ≤ r) (r1 : r < p) (e : r * u = t + k * p) : r = 0 ↔ t % p = 0 := by
  constructor
  · intro z
    rw [z, Int.zero_mul] at e
    have : t = -k * p := by
      rw [Int.neg_mul]
      omega
    rw [this]
    exact Int.mul_emod_left ..
  · intro z
    by_cases c : r = 0
    · exact c
    · exfalso
      have g := gcd_prime h2 hp hi (show 1 ≤ r from by omega) r1
      have d : p ∣ r * u := by
        rw [e]
        exact Int.dvd_add (Int.dvd_of_emod_eq_zero z) (Int.dvd_mul_left ..)
      have dn : p.natAbs ∣ r.natAbs * u.natAbs := by
        rw [← Int.natAbs_mul]
        exact Int.natAbs_dvd_natAbs.mpr d
      have du : p.natAbs ∣ u.natAbs := Nat.Coprime.dvd_of_dvd_mul_left (show Nat.Coprime p.natAbs r.natAbs from g) dn
      exact hu (Int.emod_eq_zero_of_dvd (Int.natAbs_dvd_natAbs.mp du))
section
variable {P : Program} {w : World} {K : PySem.W.Frag} {mg : Str → Option Value} {base : Heap}
theorem ok_num {f C CF CNN fN fA fover : Addr} {fd fdN fdA fdover : FuncData} (F : Fun K "number" "Field.number" s_fnum f fd) (T : CTx K C) (TF : FTx K CF) (Y : ITy K C) (Z : KZx K C) (B : ITx mg) (m_C : mg "Ratio" = some (.ref C)) (RN : RNx K mg "NoNumber" CNN)
    (G_N : FnOk P w K mg base CX0 2 fN fdN ["value"] (spIsNum K C)) (m_N : mg "is_number" = some (.ref fN)) (k_N : PySem.W.keepIn K (.ref fN) = true) (b_N : Binds K fdN ["value"] [])
    (G_A : FnOk P w K mg base CX0 5 fA fdA ["number"] (spAsRatio C)) (m_A : mg "as_ratio" = some (.ref fA)) (k_A : PySem.W.keepIn K (.ref fA) = true) (b_A : Binds K fdA ["number"] [])
    (Me_over : Meth K CF "over" fover) (G_over : FnOk P w K mg base (L2.CX P w) 7 fover fdover ["self", "one", "other"] (spOverI CF CNN)) (b_over : Binds K fdover ["self", "one", "other"] []) :
    FnOk P w K mg base (L2.CX P w) 8 f fd ["self", "value"] (spNum K C CF CNN) := by
  refine F.okX sc_fnum (fun vs H Q E h => ?_) (fun cdv A outer s H vs Q E hr h => ?_)
  · obtain ⟨x, v, p, rfl, _⟩ := h
    rfl
  · obtain ⟨x, y, p, rfl, hx, hg, h⟩ := h
    refine ⟨_, (pss_cons (ps_if (pt_not (pt_val (pe_call G_N (hr.mono (by decide)) rfl m_N k_N b_N .nil pass0 (pa_cons (pv 1) pa_nil))))
        (pss_one (ps_raise rfl (takes_of rfl rfl rfl rfl) (pmk_own0 PySem.F.excBase_ValueError RN.q RN.m RN.k (raises_own RN.ex RN.ty) rfl)))
        pss_nil)
      (pss_cons (ps_if (pt_cmpR op_eq (pe_fld (pv 0) rfl) pe_int (nomark _))
        (pss_one (ps_ret (pe_call G_A (hr.mono (by decide)) rfl m_A k_A b_A .nil pass0 (pa_cons (pv 1) pa_nil))))
        pss_nil)
      (pss_cons (ps_if (pt_val (pe_callB call_isi (by rfl) B.b_isinstance (by decide +kernel) (pa_cons (pv 1) (pa_cons (pe_glob (v := .ref C) rfl m_C rfl) pa_nil))))
        (pss_one (ps_ret (pe_meth (E := E) (pv 0) TF.cl Me_over G_over (hr.mono (by decide)) b_over .nil (passes_call (takes_of rfl rfl rfl rfl) fun _ _ _ _ h => h) (pa_cons (pe_fld (pv 1) rfl) (pa_cons (pe_fld (pv 1) rfl) pa_nil)))))
        pss_nil)
      (pss_one (ps_ret (pe_op op_mod (pv 1) (pe_fld (pv 0) rfl))))))), ?_⟩
    obtain ⟨dx, hx0⟩ := id hx
    rcases h with ⟨⟨t, b, ty, kb, it, e⟩, kE⟩ | ⟨t, u, hy, pu, st, su, k0, kE, kp⟩
    · refine ⟨_, rfl, y, t, b, rfl, ty, kb, it, _, rfl, ?_⟩
      rw [e]
      exact iteT kE
    · obtain ⟨q, b, hq, kb, hi, hbi⟩ := num_is T Y Z hy
      refine ⟨_, rfl, y, q, b, rfl, hq, kb, hi, _, rfl, ?_⟩
      rw [hbi]
      refine iteF ?_
      refine ⟨_, rfl, x, CF, dx, _, _, rfl, hx0, TF.cl, TF.nP, pf_prime _, rfl, _, rfl, ?_⟩
      by_cases p0 : p = 0
      · refine itD (by simpa using p0) ?_
        exact ⟨_, rfl, y, t, u, rfl, hy, st, fun r H1 hr1 s1 => k0 p0 r H1 hr1 s1⟩
      · refine itDn (by simpa using p0) ?_
        rcases hy with ⟨r, rfl, hr1⟩ | ⟨rfl, rfl⟩
        · refine ⟨_, rfl, _, _, _, _, true, rfl, .own C, hr1.ty T Y, kit_self, _, rfl, iteT ?_⟩
          obtain ⟨dr, hr0⟩ := id hr1
          exact ⟨_, rfl, x, dx, _, rfl, hx0, pf_no _ (by decide +kernel), _, rfl, r, C, dr, _, _, rfl, hr0, T.cl, T.nT, rf_top _ _, _, rfl, r, C, dr, _, _, rfl, hr0, T.cl, T.nB, rf_bottom _ _, x, t, u, p, rfl, hx, hg, p0, st, su, kE p0, kp p0⟩
        · refine ⟨_, rfl, _, _, _, _, false, rfl, .own C, .base (.int _), Z.kint, _, rfl, iteF ?_⟩
          obtain ⟨p2, _, _⟩ := goodP_pos hg p0
          refine ⟨_, rfl, _, rfl, x, CF, dx, _, _, rfl, hx0, TF.cl, TF.nP, pf_prime _, _, _, rfl, rfl, (show 0 < p from by omega), ?_⟩
          refine kp p0 ?_ _ H (Int.emod_nonneg _ p0) (Int.emod_lt_of_pos _ (by omega)) ?_ (Same.refl H)
          · rw [Int.emod_eq_of_lt (by decide) (by omega)]
            decide
          · have dm := Int.emod_def t p
            refine ⟨-(t / p), ?_⟩
            rw [dm]
            generalize t / p = e1
            grind
theorem ok_fover {f C CF CN CNN fnum finv frover feq : Addr} {fd fdnum fdinv fdrover fdeq : FuncData} (F : Fun K "over" "Field.over" s_fover f fd) (T : CTx K C) (TF : FTx K CF) (Y : ITy K C) (RN : RNx K mg "NoNumber" CNN)
    (Me_num : Meth K CF "number" fnum) (G_num : FnOk P w K mg base (L2.CX P w) 8 fnum fdnum ["self", "value"] (spNum K C CF CNN)) (b_num : Binds K fdnum ["self", "value"] [])
    (G_inv : FnOk P w K mg base CX0 1 finv fdinv ["number", "prime"] spInv) (m_inv : mg "_inverse" = some (.ref finv)) (k_inv : PySem.W.keepIn K (.ref finv) = true) (b_inv : Binds K fdinv ["number", "prime"] [])
    (Me_rover : Meth K C "over" frover) (G_rover : FnOk P w K mg base (L2.CX P w) 6 frover fdrover ["self", "other"] (spR_over C CN)) (b_rover : Binds K fdrover ["self", "other"] [])
    (O_eq : OwnOp K C feq "__eq__") (nf1 : PySem.W.notFirst K C (.type "int") = true) (G_eq : FnOk P w K mg base CX0 2 feq fdeq ["self", "other"] (spR_eq K C)) (b_eq : Binds K fdeq ["self", "other"] []) :
    FnOk P w K mg base (L2.CX P w) 9 f fd ["self", "one", "other"] (spOver K C CF CNN) := by
  refine F.okX sc_fover (fun vs H Q E h => ?_) (fun cdv A outer s H vs Q E hr h => ?_)
  · obtain ⟨x, a, b, p, rfl, _⟩ := h
    rfl
  · obtain ⟨x, y1, y2, p, rfl, hx, hg, h⟩ := h
    refine ⟨_, (pss_cons (ps_set (i := 3) sc_fover.nd rfl (Or.inl rfl) (pe_meth (E := E) (pv 0) TF.cl Me_num G_num (hr.mono (by decide)) b_num .nil (passes_call (takes_of rfl rfl rfl rfl) fun _ _ _ _ h => h) (pa_cons (pv 1) pa_nil)))
      (pss_cons (ps_set (i := 4) sc_fover.nd rfl (Or.inl rfl) (pe_meth (E := E) (pv 0) TF.cl Me_num G_num (hr.mono (by decide)) b_num .nil (passes_call (takes_of rfl rfl rfl rfl) fun _ _ _ _ h => h) (pa_cons (pv 2) pa_nil)))
      (pss_cons (ps_if (pt_cmpR (op_or op_eq (op_ownEq O_eq G_eq (hr.mono (by decide)) b_eq pass0)) (pv 4) pe_int (nomark _))
        (pss_one (ps_raise rfl (takes_of rfl rfl rfl rfl) (pmk_own0 PySem.F.excBase_ValueError RN.q RN.m RN.k (raises_own RN.ex RN.ty) rfl)))
        pss_nil)
      (pss_cons (ps_if (pt_cmpR op_eq (pe_fld (pv 0) rfl) pe_int (nomark _))
        (pss_one (ps_ret (pe_meth (E := fun _ _ _ => False) (pv 3) T.cl Me_rover G_rover (hr.mono (by decide)) b_rover .nil passL (pa_cons (pv 4) pa_nil))))
        pss_nil)
      (pss_one (ps_ret (pe_op op_mod (pe_op op_mul (pv 3) (pe_call G_inv (hr.mono (by decide)) rfl m_inv k_inv b_inv .nil pass0 (pa_cons (pv 4) (pa_cons (pe_fld (pv 0) rfl) pa_nil)))) (pe_fld (pv 0) rfl)))))))), ?_⟩
    obtain ⟨dx, hx0⟩ := id hx
    have up8 : ∀ {z : Int}, Fit z → z.natAbs < 2 ^ 8000 := fun h => fit_up h
    refine ⟨_, rfl, x, dx, _, rfl, hx0, pf_no _ (by decide +kernel), _, rfl, x, y1, p, rfl, hx, hg, ?_⟩
    rcases h with ⟨b1, kE⟩ | ⟨t, u, hy, pu, st, su, kE, k⟩
    · exact .inl ⟨b1, kE⟩
    · refine .inr ⟨t, u, hy, pu, up8 st, up8 su, fun p0 z H1 hz s1 => ?_, kE, fun p0 up r1 H1 r10 r11 ⟨k1, hk1⟩ s1 => ?_⟩
      · subst p0
        obtain ⟨dz, hz0⟩ := id hz
        refine ⟨_, rfl, x, dx, _, rfl, s1 _ _ hx0, pf_no _ (by decide +kernel), _, rfl, x, y2, 0, rfl, hx.same s1, hg, ?_⟩
        rcases k (fun h => h.1 rfl) with ⟨b2, k2⟩ | ⟨t', u', hy2, pu2, cop, st2, su2, kz, _, _, _⟩
        · exact .inl ⟨b2.same s1, k2 H1 s1⟩
        · refine .inr ⟨t', u', hy2.same s1, pu2, up8 st2, up8 su2, fun _ z2 H2 hz2 s2 => ?_, fun h => absurd rfl h, fun h => absurd rfl h⟩
          obtain ⟨dz2, hz20⟩ := id hz2
          refine ⟨_, rfl, .inr ⟨z2, dz2, _, _, rfl, hz20, .base (.int _), nf1, z2, .int 0, t', u', rfl, hz2, .inr (.inl ⟨0, rfl, _, rfl, ?_⟩)⟩⟩
          by_cases c : t' = 0
          · have u1 : u' = 1 := by
              rw [c] at cop
              simp at cop
              omega
            refine itD (by simp [c, u1]) ?_
            exact (kz rfl).1 c H2 (s1.trans s2)
          · refine itDn (by simp [c]) ?_
            refine ⟨_, rfl, x, CF, dx, _, _, rfl, s2 _ _ (s1 _ _ hx0), TF.cl, TF.nP, pf_prime _, rfl, _, rfl, itD (by simp) ?_⟩
            refine ⟨_, rfl, z, dz, _, rfl, s2 _ _ hz0, rf_no _ _ (by decide +kernel) (by decide +kernel), _, rfl, z, .ref z2, t, u, t', u', rfl, hz.same s2, .inl ⟨z2, rfl, hz2⟩, pu, pu2, st, su, st2, su2, fun h => absurd h c, fun _ z3 T3 U3 H3 L R s3 => ?_⟩
            exact (kz rfl).2 c z3 T3 U3 H3 L R ((s1.trans s2).trans s3)
      · obtain ⟨p2, p3, hp⟩ := goodP_pos hg p0
        refine ⟨_, rfl, x, dx, _, rfl, s1 _ _ hx0, pf_no _ (by decide +kernel), _, rfl, x, y2, p, rfl, hx.same s1, hg, ?_⟩
        rcases k (fun h => up h.2) with ⟨b2, k2⟩ | ⟨t', u', hy2, pu2, cop, st2, su2, _, k3, k4, k5⟩
        · exact .inl ⟨b2.same s1, k2 H1 s1⟩
        · refine .inr ⟨t', u', hy2.same s1, pu2, up8 st2, up8 su2, fun h => absurd h p0, fun _ h => k3 p0 h H1 s1, fun _ up2 r2 H2 r20 r21 ⟨k2, hk2⟩ s2 => ?_⟩
          have zm := zero_mod p2 p3 hp up2 r20 r21 hk2
          refine ⟨_, rfl, .inl ⟨rfl, _, rfl, ?_⟩⟩
          by_cases c : r2 = 0
          · refine itD (by simpa using c) ?_
            exact k4 p0 up2 (zm.mp c) H2 (s1.trans s2)
          · refine itDn (by simpa using c) ?_
            refine ⟨_, rfl, x, CF, dx, _, _, rfl, s2 _ _ (s1 _ _ hx0), TF.cl, TF.nP, pf_prime _, rfl, _, rfl, itDn (by simpa using p0) ?_⟩
            refine ⟨_, rfl, _, rfl, _, rfl, x, CF, dx, _, _, rfl, s2 _ _ (s1 _ _ hx0), TF.cl, TF.nP, pf_prime _, r2, p, rfl, by omega, r21, by omega, gcd_prime p2 p3 hp (by omega) r21, fun r r0 rl ⟨q, hq⟩ H3 s3 => ?_⟩
            refine ⟨_, _, rfl, rfl, .inl ⟨by omega, by omega⟩, _, rfl, x, CF, dx, _, _, rfl, s3 _ _ (s2 _ _ (s1 _ _ hx0)), TF.cl, TF.nP, pf_prime _, _, _, rfl, rfl, (show 0 < p from by omega), ?_⟩
            refine k5 p0 up2 (fun h => c (zm.mpr h)) _ H3 (Int.emod_nonneg _ p0) (Int.emod_lt_of_pos _ (by omega)) ?_ ((s1.trans s2).trans s3)
            have dm := Int.emod_def (r1 * r) p
            generalize r1 * r / p = e1 at *
            refine ⟨r1 * u * q * u' - e1 * u * t' - r1 * r * u * k2 + k1 * u', ?_⟩
            rw [dm]
            grind
end
end Sq

namespace Sq
open PySem L2 PyProof.Rows
abbrev s_lip : Stmt := top 26
abbrev s_lpr : Stmt := top 27
abbrev s_field : Stmt := top 28
abbrev s_called : Stmt := top 29
abbrev s_divided : Stmt := top 30
def spLip : Sp := fun vs H Q _ => ∃ n : Nat, vs = [.int (n : Int)] ∧ 2 ≤ n ∧ n < 9974 ∧ Q (.bl (isP n)) H
def spLpr : Sp := fun vs H Q _ => ∃ p, vs = [.ref p] ∧ StAt H p ∧ ∀ m H', goodP m = true → StAt H' p → But p H H' → Q (.int m) H'
theorem StAt.same {H H' : Hp} {p : Addr} (S : StAt H p) (s : Same H H') : StAt H' p := by
  obtain ⟨a, ns, i, l, m, c, h1, h2, r⟩ := S
  exact ⟨a, ns, i, l, m, c, s _ _ h1, s _ _ h2, r⟩
theorem StAt.ne {H : Hp} {p q : Addr} (S : StAt H p) (hq : H q = none) : q ≠ p := by
  obtain ⟨a, ns, i, l, m, c, h1, _⟩ := S
  exact (ne_of_none h1 hq).symm
theorem good_int {n : Nat} (h2 : 2 ≤ n) (hn : n < 9974) (h : isP n = true) : goodP (n : Int) = true := by
  unfold goodP
  have : ((n : Int)).toNat = n := Int.toNat_natCast n
  rw [this, h]
  simp
  omega
theorem small_prime {v : Int} (h0 : 0 ≤ v) (h6 : v < 6) : ∃ m, atI [V.int 2, V.int 3, V.int 5, V.int 7, V.int 11, V.int 13] v = some (.int m) ∧ goodP m = true := by
  have c : v = 0 ∨ v = 1 ∨ v = 2 ∨ v = 3 ∨ v = 4 ∨ v = 5 := by omega
  rcases c with rfl | rfl | rfl | rfl | rfl | rfl <;> exact ⟨_, rfl, by decide +kernel⟩
def spField (K : PySem.W.Frag) (CF : Addr) : Sp := fun vs H Q _ => ∃ v, vs = [v] ∧ IsTy K H v ∧ ((∀ p, v = .int p → goodP p = false) → ∀ H', Same H H' → Q .non H') ∧ (∀ p, v = .int p → goodP p = true → ∀ x H', FldAt CF H' x p → Same H H' → Q (.ref x) H')
def Refused (H : Hp) (q : Addr) : Prop := H q = some (.tup [.str "refused", .int 0])
/-- told: the number of the field p that t / u is, or none -/
def NumRes (C : Addr) (p t u : Int) (H : Hp) (q : Addr) : Prop := (p ≠ 0 ∧ u % p = 0 ∧ Refused H q) ∨ (p = 0 ∧ ∃ z, H q = some (.tup [.str "made", .ref z]) ∧ RatAt C H z t u) ∨
  (p ≠ 0 ∧ u % p ≠ 0 ∧ ∃ r, H q = some (.tup [.str "made", .int r]) ∧ 0 ≤ r ∧ r < p ∧ ∃ k, r * u = t + k * p)
def spCalled (K : PySem.W.Frag) (C CF : Addr) : Sp := fun vs H Q _ => ∃ (x : Addr) (y : V) (p : Int), vs = [.ref x, y] ∧ FldAt CF H x p ∧ goodP p = true ∧
  ((NmTy K C H y false ∧ ∀ q H', Same H H' → Refused H' q → Q (.ref q) H') ∨ ∃ t u, NumAt C H y t u ∧ 1 ≤ u ∧ Fit t ∧ Fit u ∧ ∀ q H', Same H H' → NumRes C p t u H' q → Q (.ref q) H')
/-- over is refused for them -/
def NoOver (K : PySem.W.Frag) (C : Addr) (H : Hp) (p : Int) (y1 y2 : V) : Prop := NmTy K C H y1 false ∨ ∃ t u, NumAt C H y1 t u ∧ 1 ≤ u ∧ Fit t ∧ Fit u ∧ ((p ≠ 0 ∧ u % p = 0) ∨ NmTy K C H y2 false ∨
  ∃ t' u', NumAt C H y2 t' u' ∧ 1 ≤ u' ∧ Int.gcd t' u' = 1 ∧ Fit t' ∧ Fit u' ∧ (p = 0 → t' = 0) ∧ (p ≠ 0 → u' % p = 0 ∨ t' % p = 0))
def spDivided (K : PySem.W.Frag) (C CF : Addr) : Sp := fun vs H Q _ => ∃ (x : Addr) (y1 y2 : V) (p : Int), vs = [.ref x, y1, y2] ∧ FldAt CF H x p ∧ goodP p = true ∧ NoOver K C H p y1 y2 ∧ ∀ q H', Same H H' → Refused H' q → Q (.ref q) H'
section
variable {P : Program} {w : World} {K : PySem.W.Frag} {mg : Str → Option Value} {base : Heap}
theorem sc_lip : FnScope ["_law_value", "_law_divisor"] ["_law_value"] (defScope s_lip) := ⟨rfl, rfl, rfl, by decide +kernel, rfl, by decide +kernel, by decide +kernel⟩
theorem ok_lip {f : Addr} {fd : FuncData} (F : Fun K "_law_is_prime" "_law_is_prime" s_lip f fd) (T : DTx mg) : FnOk P w K mg base CX0 1 f fd ["_law_value"] spLip := by
  refine F.ok sc_lip (fun vs H Q E h => ?_) (fun cdv A outer s H vs Q E hr h => ?_)
  · obtain ⟨x, rfl, _⟩ := h
    rfl
  · obtain ⟨n, rfl, h2, hn, k⟩ := h
    refine ⟨_, (pss_cons (ps_for PassesOwn.never rfl (pi_range2 (by rfl) T.b_range (pa_cons pe_int (pa_cons pe_int pa_nil))) (pg_name (i := 1) sc_lip.nd rfl (Or.inl rfl)) (pss_one (ps_if (PW.pt (pw_and (pt_cmpR op_le (pe_op op_mul (pv 1) (pv 1)) (pv 0) (nomark _)) (pw_and1 (pt_cmpR op_eq (pe_op op_mod (pe_callTy call_int1 (by rfl) T.b_int (by decide +kernel) (pa_cons (pv 0) pa_nil)) (pv 1)) pe_int (nomark _)))))
        (pss_one (ps_ret pe_bl))
        pss_nil)))
      (pss_one (ps_ret (pe_cmpR op_gt (pv 0) pe_int (nomark _))))), ?_⟩
    refine ⟨_, _, rfl, by omega, ?_⟩
    refine for_range (lo := 2) (n := 98) (fun i σ H' => ∃ z, σ = [some (.int (n : Int)), z] ∧ H' = H ∧ ∀ d, 2 ≤ d → d < 2 + i → d * d ≤ n → n % d ≠ 0) ⟨none, rfl, rfl, fun d h1 h2 => by omega⟩ ?_ ?_
    · rintro i σ H2 hi ⟨z, rfl, rfl, hd⟩
      have em : ((n : Int) % ((2 : Int) + (i : Int))) = ((n % (2 + i) : Nat) : Int) := by
        rw [Int.natCast_emod]
        rfl
      have eq : ((2 : Int) + (i : Int)) * ((2 : Int) + (i : Int)) = (((2 + i) * (2 + i) : Nat) : Int) := by
        push_cast
        rfl
      refine ⟨_, rfl, _, rfl, _, _, rfl, rfl, .inl ⟨by omega, by omega⟩, _, rfl, _, _, rfl, rfl, _, rfl, ?_⟩
      have next : (n % (2 + i) = 0 → ¬ (2 + i) * (2 + i) ≤ n) → ∀ d, 2 ≤ d → d < 2 + (i + 1) → d * d ≤ n → n % d ≠ 0 := fun h d h1 h2 hs => by
        by_cases e : d = 2 + i
        · subst e
          exact fun q => h q hs
        · exact hd d h1 (by omega) hs
      by_cases c : (2 + i) * (2 + i) ≤ n
      · have hle : ((2 : Int) + (i : Int)) * ((2 : Int) + (i : Int)) ≤ (n : Int) := by
          rw [eq]
          exact Int.ofNat_le.mpr c
        refine itD (decide_eq_true hle) ?_
        refine ⟨_, rfl, .inl ⟨_, rfl, _, rfl, _, _, rfl, rfl, by omega, rfl, _, rfl, ?_⟩⟩
        by_cases e0 : n % (2 + i) = 0
        · refine itD (decide_eq_true (by show V.int ((n : Int) % ((2 : Int) + (i : Int))) = V.int 0; rw [em, e0]; rfl)) ?_
          rw [isP_no (by omega) hn c e0] at k
          exact k
        · refine itDn (fun h => e0 (by have q : ((n : Int) % ((2 : Int) + (i : Int))) = 0 := V.int.inj (of_decide_eq_true h); rw [em] at q; omega)) ?_
          exact ⟨_, rfl, rfl, next fun q => absurd q e0⟩
      · have hle : ¬ ((2 : Int) + (i : Int)) * ((2 : Int) + (i : Int)) ≤ (n : Int) := by
          rw [eq]
          exact fun h => c (Int.ofNat_le.mp h)
        refine itDn (fun h => hle (of_decide_eq_true h)) ?_
        exact ⟨_, rfl, rfl, next fun _ => c⟩
    · rintro σ H2 ⟨z, rfl, rfl, hd⟩
      have e : isP n = true := isP_yes fun d h1 hs => hd d h1 (by have := sq_lt hn hs; omega) hs
      rw [e] at k
      refine ⟨_, rfl, _, _, rfl, rfl, ?_⟩
      show Q (.bl (decide ((1 : Int) < (n : Int)))) H2
      rw [decide_eq_true (by omega)]
      exact k
theorem sc_lpr : FnScope ["_law_state_here", "_law_kind", "_law_value", "_law_step"] ["_law_state_here"] (defScope s_lpr) := ⟨rfl, rfl, rfl, by decide +kernel, rfl, by decide +kernel, by decide +kernel⟩
theorem ok_lpr {f fdraw flip : Addr} {fd fddraw fdlip : FuncData} (F : Fun K "_law_prime" "_law_prime" s_lpr f fd) (T : DTx mg) (G_draw : FnOk P w K mg base CX0 1 fdraw fddraw ["_law_state_here", "_law_many"] spDraw) (m_draw : mg "_law_draw" = some (.ref fdraw)) (k_draw : PySem.W.keepIn K (.ref fdraw) = true) (b_draw : Binds K fddraw ["_law_state_here", "_law_many"] []) (G_lip : FnOk P w K mg base CX0 1 flip fdlip ["_law_value"] spLip) (m_lip : mg "_law_is_prime" = some (.ref flip)) (k_lip : PySem.W.keepIn K (.ref flip) = true) (b_lip : Binds K fdlip ["_law_value"] []) : FnOk P w K mg base CX0 2 f fd ["_law_state_here"] spLpr := by
  refine F.ok sc_lpr (fun vs H Q E h => ?_) (fun cdv A outer s H vs Q E hr h => ?_)
  · obtain ⟨x, rfl, _⟩ := h
    rfl
  · obtain ⟨p, rfl, S0, k⟩ := h
    refine ⟨_, (pss_cons (ps_set (i := 1) sc_lpr.nd rfl (Or.inl rfl) (pe_call G_draw (hr.mono (by decide)) rfl m_draw k_draw b_draw .nil pass0 (pa_cons (pv 0) (pa_cons pe_int pa_nil))))
      (pss_cons (ps_if (pt_cmpR op_lt (pv 1) pe_int (nomark _))
        (pss_one (ps_ret pe_int))
        pss_nil)
      (pss_cons (ps_if (pt_cmpR op_lt (pv 1) pe_int (nomark _))
        (pss_one (ps_ret (pe_ix ix_list (pe_lst (pa_cons pe_int (pa_cons pe_int (pa_cons pe_int (pa_cons pe_int (pa_cons pe_int (pa_cons pe_int pa_nil))))))) (pe_call G_draw (hr.mono (by decide)) rfl m_draw k_draw b_draw .nil pass0 (pa_cons (pv 0) (pa_cons pe_int pa_nil))) (fun _ _ => rfl))))
        pss_nil)
      (pss_cons (ps_set (i := 2) sc_lpr.nd rfl (Or.inl rfl) (pe_op op_add pe_int (pe_call G_draw (hr.mono (by decide)) rfl m_draw k_draw b_draw .nil pass0 (pa_cons (pv 0) (pa_cons pe_int pa_nil)))))
      (pss_cons (ps_for PassesOwn.never rfl (pi_range1 (by rfl) T.b_range (pa_cons pe_int pa_nil)) (pg_name (i := 3) sc_lpr.nd rfl (Or.inl rfl)) (pss_cons (ps_if (pt_val (pe_call G_lip (hr.mono (by decide)) rfl m_lip k_lip b_lip .nil pass0 (pa_cons (pv 2) pa_nil)))
        (pss_one (ps_ret (pv 2)))
        pss_nil)
      (pss_one (ps_set (i := 2) sc_lpr.nd rfl (Or.inl rfl) (pe_op op_sub (pv 2) pe_int)))))
      (pss_one (ps_ret pe_int))))))), ?_⟩
    refine ⟨_, rfl, p, 6, rfl, by decide, by decide, S0, fun kd H1 k0 k6 S1 B1 => ?_⟩
    refine ⟨_, rfl, _, _, rfl, rfl, _, rfl, ite2 (fun c => ?_) (fun c => ?_)⟩
    · exact k 0 H1 (by decide) S1 B1
    · refine ⟨_, rfl, _, _, rfl, rfl, _, rfl, ite2 (fun c => ?_) (fun c => ?_)⟩
      · refine ⟨(by show 6 ≤ sizeLine; decide), fun q hq => ⟨_, rfl, p, 6, rfl, by decide, by decide, S1.same (same_new (Same.refl _) hq), fun v H2 v0 v6 S2 B2 => ?_⟩⟩
        obtain ⟨m, hm, gm⟩ := small_prime v0 v6
        exact ⟨q, _, _, _, rfl, rfl, SqL.of (B2 q _ upd_same (S1.ne hq)), hm, k m H2 gm S2 ((B1.new hq).trans B2)⟩
      · refine ⟨_, rfl, p, 9972, rfl, by decide, by decide, S1, fun v H2 v0 v1 S2 B2 => ⟨_, _, rfl, rfl, ?_⟩⟩
        refine ⟨40, rfl, by decide, by decide, ?_⟩
        refine for_range (lo := 0) (n := 40) (fun i σ H' => ∃ (z : Option V) (n : Nat), σ = [some (.ref p), some (.int kd), some (.int (n : Int)), z] ∧ 2 ≤ n ∧ n < 9974 ∧ H' = H2) ⟨none, (2 + v).toNat, by rw [Int.toNat_of_nonneg (by omega)]; rfl, by omega, by omega, rfl⟩ ?_ ?_
        · rintro i σ H3 hi ⟨z, n, rfl, n2, n9, rfl⟩
          refine ⟨_, rfl, n, rfl, n2, n9, _, rfl, ?_⟩
          cases hp : isP n with
          | true => exact iteT ⟨_, rfl, k n _ (good_int n2 n9 hp) S2 (B1.trans B2)⟩
          | false =>
            refine iteF ⟨_, rfl, _, _, rfl, rfl, ⟨some (.int (0 + (i : Int))), n - 1, ?_, ?_, by omega, rfl⟩⟩
            · have e : ((n - 1 : Nat) : Int) = (n : Int) - 1 := by omega
              rw [e]
              rfl
            · by_cases e : n = 2
              · subst e
                exact absurd hp (by decide +kernel)
              · omega
        · rintro σ H3 ⟨z, n, rfl, n2, n9, rfl⟩
          exact k 2 _ (by decide +kernel) S2 (B1.trans B2)
theorem sc_field : FnScope ["_law_value", "_law_made"] ["_law_value"] (defScope s_field) := ⟨rfl, rfl, rfl, by decide +kernel, rfl, by decide +kernel, by decide +kernel⟩
theorem ok_field {f CF CNF fF : Addr} {fd fdF : FuncData} (F : Fun K "_law_field" "_law_field" s_field f fd) (TF : FTx K CF) (m_CF : mg "Field" = some (.ref CF)) (m_NF : mg "NoField" = some (.ref CNF)) (te : PySem.W.exmOne K (.ref CNF) (.ref CNF) = some true) (MF : Mk K CF fF)
    (G_F : FnOk P w K mg base (L2.CX P w) 2 fF fdF ["self", "prime"] (spFieldInit K CF CNF)) (b_F : Binds K fdF ["self", "prime"] []) :
    FnOk P w K mg base (L2.CX P w) 4 f fd ["_law_value"] (spField K CF) := by
  refine F.okX sc_field (fun vs H Q E h => ?_) (fun cdv A outer s H vs Q E hr h => ?_)
  · obtain ⟨v, rfl, _⟩ := h
    rfl
  · obtain ⟨v, rfl, tv, kN, kY⟩ := h
    refine ⟨_, (pss_cons (ps_try_only (tb := fun W => tAsg (tMkS CF (spFieldInit K CF CNF) [] (WE W) (tCons (tVar 0) tNil)) (gName 1)) (Wout := fun _ _ _ _ => False) rfl rfl ⟨rfl, by decide, Or.inl m_NF⟩ takes0
        (fun W pn xe tk _ => pss_one (ps_set (i := 1) sc_field.nd rfl (Or.inl rfl) (pe_mkS MF G_F (hr.mono (by decide)) rfl m_CF b_F .nil (fun σ => passAt tk σ) (pa_cons (pv 0) pa_nil))))
        (fun a oe cls d pn hz hf => pss_one (ps_ret pe_non)))
      (pss_one (ps_ret (pv 1)))), ?_⟩
    refine ⟨_, rfl, fun y dy ny ndy ne => ?_⟩
    have s0 : Same H (upd (upd H dy (.own y)) y (.ins CF dy [])) := same_pair ny ndy ne
    refine ⟨y, dy, v, rfl, upd_same, tv.same s0, fun hb => ?_, fun p e hg H1 hx Bt => ⟨rfl, _, rfl, kY p e hg y H1 hx (same_made ny ndy Bt)⟩⟩
    exact ⟨true, te, fun _ a ha => kN hb _ s0, fun q => Bool.noConfusion q⟩
theorem sc_called : FnScope ["_law_field_here", "_law_value", "_law_found"] ["_law_field_here", "_law_value"] (defScope s_called) := ⟨rfl, rfl, rfl, by decide +kernel, rfl, by decide +kernel, by decide +kernel⟩
theorem ok_called {f C CF CNN fnum : Addr} {fd fdnum : FuncData} (F : Fun K "_law_called" "_law_called" s_called f fd) (TF : FTx K CF) (m_NN : mg "NoNumber" = some (.ref CNN)) (te : PySem.W.exmOne K (.ref CNN) (.ref CNN) = some true)
    (Me_num : Meth K CF "number" fnum) (G_num : FnOk P w K mg base (L2.CX P w) 8 fnum fdnum ["self", "value"] (spNum K C CF CNN)) (b_num : Binds K fdnum ["self", "value"] []) :
    FnOk P w K mg base (L2.CX P w) 9 f fd ["_law_field_here", "_law_value"] (spCalled K C CF) := by
  refine F.okX sc_called (fun vs H Q E h => ?_) (fun cdv A outer s H vs Q E hr h => ?_)
  · obtain ⟨x, y, p, rfl, _⟩ := h
    rfl
  · obtain ⟨x, y, p, rfl, hx, hg, h⟩ := h
    refine ⟨_, (pss_cons (ps_try_only (tb := fun W => tAsg (tMtS CF "number" (spNum K C CF CNN) (WE W) (tVar 0) (tCons (tVar 1) tNil)) (gName 2)) (Wout := fun _ _ _ _ => False) rfl rfl ⟨rfl, by decide, Or.inl m_NN⟩ takes0
        (fun W pn xe tk _ => pss_one (ps_set (i := 2) sc_called.nd rfl (Or.inl rfl) (pe_mtS (pv 0) TF.cl Me_num G_num (hr.mono (by decide)) b_num (fun σ => passAt tk σ) (pa_cons (pv 1) pa_nil))))
        (fun a oe cls d pn hz hf => pss_one (ps_ret (pe_tup (pa_cons pe_str (pa_cons pe_int pa_nil))))))
      (pss_one (ps_ret (pe_tup (pa_cons pe_str (pa_cons (pv 2) pa_nil)))))), ?_⟩
    obtain ⟨dx, hx0⟩ := id hx
    refine ⟨_, rfl, x, dx, _, rfl, hx0, pf_no _ (by decide +kernel), _, rfl, x, y, p, rfl, hx, hg, ?_⟩
    rcases h with ⟨b1, kR⟩ | ⟨t, u, hy, pu, st, su, k⟩
    · exact .inl ⟨b1, true, te, fun _ a ha => ⟨(by show 2 ≤ sizeLine; decide), fun q hq => kR q _ (same_new (Same.refl _) hq) upd_same⟩, fun q => Bool.noConfusion q⟩
    · refine .inr ⟨t, u, hy, pu, fit_up st, fit_up su, fun p0 z H1 hz s1 => ⟨_, rfl, (by show 2 ≤ sizeLine; decide), fun q hq => ?_⟩, fun p0 up => ⟨true, te, fun _ a ha => ⟨(by show 2 ≤ sizeLine; decide), fun q hq => ?_⟩, fun q => Bool.noConfusion q⟩,
        fun p0 up r H1 r0 r1 hk s1 => ⟨_, rfl, (by show 2 ≤ sizeLine; decide), fun q hq => ?_⟩⟩
      · exact k q _ (same_new s1 hq) (.inr (.inl ⟨p0, z, upd_same, hz.same (same_new (Same.refl _) hq)⟩))
      · exact k q _ (same_new (Same.refl _) hq) (.inl ⟨p0, up, upd_same⟩)
      · exact k q _ (same_new s1 hq) (.inr (.inr ⟨p0, up, r, upd_same, r0, r1, hk⟩))
theorem sc_divided : FnScope ["_law_field_here", "_law_one", "_law_other", "_law_found"] ["_law_field_here", "_law_one", "_law_other"] (defScope s_divided) := ⟨rfl, rfl, rfl, by decide +kernel, rfl, by decide +kernel, by decide +kernel⟩
theorem ok_divided {f C CF CNN fover : Addr} {fd fdover : FuncData} (F : Fun K "_law_divided" "_law_divided" s_divided f fd) (TF : FTx K CF) (m_NN : mg "NoNumber" = some (.ref CNN)) (te : PySem.W.exmOne K (.ref CNN) (.ref CNN) = some true)
    (Me_over : Meth K CF "over" fover) (G_over : FnOk P w K mg base (L2.CX P w) 9 fover fdover ["self", "one", "other"] (spOver K C CF CNN)) (b_over : Binds K fdover ["self", "one", "other"] []) :
    FnOk P w K mg base (L2.CX P w) 10 f fd ["_law_field_here", "_law_one", "_law_other"] (spDivided K C CF) := by
  refine F.okX sc_divided (fun vs H Q E h => ?_) (fun cdv A outer s H vs Q E hr h => ?_)
  · obtain ⟨x, y1, y2, p, rfl, _⟩ := h
    rfl
  · obtain ⟨x, y1, y2, p, rfl, hx, hg, h, k⟩ := h
    refine ⟨_, (pss_cons (ps_try_only (tb := fun W => tAsg (tMtS CF "over" (spOver K C CF CNN) (WE W) (tVar 0) (tCons (tVar 1) (tCons (tVar 2) tNil))) (gName 3)) (Wout := fun _ _ _ _ => False) rfl rfl ⟨rfl, by decide, Or.inl m_NN⟩ takes0
        (fun W pn xe tk _ => pss_one (ps_set (i := 3) sc_divided.nd rfl (Or.inl rfl) (pe_mtS (pv 0) TF.cl Me_over G_over (hr.mono (by decide)) b_over (fun σ => passAt tk σ) (pa_cons (pv 1) (pa_cons (pv 2) pa_nil)))))
        (fun a oe cls d pn hz hf => pss_one (ps_ret (pe_tup (pa_cons pe_str (pa_cons pe_int pa_nil))))))
      (pss_one (ps_ret (pe_tup (pa_cons pe_str (pa_cons (pv 3) pa_nil)))))), ?_⟩
    obtain ⟨dx, hx0⟩ := id hx
    refine ⟨_, rfl, x, dx, _, rfl, hx0, pf_no _ (by decide +kernel), _, rfl, _, rfl, x, y1, y2, p, rfl, hx, hg, ?_⟩
    rcases h with b1 | ⟨t, u, hy, pu, st, su, h⟩
    · exact .inl ⟨b1, ⟨true, te, fun _ a ha => ⟨(by show 2 ≤ sizeLine; decide), fun q hq => k q _ (same_new (Same.refl H) hq) upd_same⟩, fun q => Bool.noConfusion q⟩⟩
    · refine .inr ⟨t, u, hy, pu, st, su, fun _ _ => ⟨true, te, fun _ a ha => ⟨(by show 2 ≤ sizeLine; decide), fun q hq => k q _ (same_new (Same.refl H) hq) upd_same⟩, fun q => Bool.noConfusion q⟩, fun hn => ?_⟩
      rcases h with h | b2 | ⟨t', u', hy2, pu2, cop, st2, su2, h0, hp⟩
      · exact absurd h hn
      · exact .inl ⟨b2, (fun H1 s1 => ⟨true, te, fun _ a ha => ⟨(by show 2 ≤ sizeLine; decide), fun q hq => k q _ (same_new s1 hq) upd_same⟩, fun q => Bool.noConfusion q⟩)⟩
      · refine .inr ⟨t', u', hy2, pu2, cop, st2, su2, fun p0 => ⟨fun _ => (fun H1 s1 => ⟨true, te, fun _ a ha => ⟨(by show 2 ≤ sizeLine; decide), fun q hq => k q _ (same_new s1 hq) upd_same⟩, fun q => Bool.noConfusion q⟩), fun h => absurd (h0 p0) h⟩, fun _ _ => (fun H1 s1 => ⟨true, te, fun _ a ha => ⟨(by show 2 ≤ sizeLine; decide), fun q hq => k q _ (same_new s1 hq) upd_same⟩, fun q => Bool.noConfusion q⟩), fun _ _ _ => (fun H1 s1 => ⟨true, te, fun _ a ha => ⟨(by show 2 ≤ sizeLine; decide), fun q hq => k q _ (same_new s1 hq) upd_same⟩, fun q => Bool.noConfusion q⟩), fun p0 a b => ?_⟩
        rcases hp p0 with c | c
        · exact absurd c a
        · exact absurd c b
end
end Sq

namespace Sq
open PySem L2 PyProof.Rows
abbrev s_right : Stmt := top 31
abbrev s_strange : Stmt := top 32
theorem low_sign {a b t u : Int} (hb : b ≠ 0) (L : Low a b t u) : ∃ s : Int, (s = 1 ∨ s = -1) ∧ a.fdiv ((Int.gcd a b : Nat) : Int) = s * t ∧ b.fdiv ((Int.gcd a b : Nat) : Int) = s * u := by
  have hg : 0 < Int.gcd a b := Int.gcd_pos_of_ne_zero_right a hb
  have g0 : ((Int.gcd a b : Nat) : Int) ≠ 0 := by omega
  obtain ⟨a', ha⟩ : ((Int.gcd a b : Nat) : Int) ∣ a := Int.gcd_dvd_left ..
  obtain ⟨b', hb'⟩ : ((Int.gcd a b : Nat) : Int) ∣ b := Int.gcd_dvd_right ..
  have fa : a.fdiv ((Int.gcd a b : Nat) : Int) = a' := by
    conv => lhs; arg 1; rw [ha]
    exact Int.mul_fdiv_cancel_left _ g0
  have fb : b.fdiv ((Int.gcd a b : Nat) : Int) = b' := by
    conv => lhs; arg 1; rw [hb']
    exact Int.mul_fdiv_cancel_left _ g0
  rcases Int.lt_or_gt_of_ne hb with h | h
  · have L2 := low_of (a := a) hb (.inr ⟨rfl, h⟩)
    have na : a.fdiv (-((Int.gcd a b : Nat) : Int)) = -a' := by
      have e : a = -((Int.gcd a b : Nat) : Int) * -a' := by rw [Int.neg_mul_neg]; exact ha
      conv => lhs; arg 1; rw [e]
      exact Int.mul_fdiv_cancel_left _ (by omega)
    have nb : b.fdiv (-((Int.gcd a b : Nat) : Int)) = -b' := by
      have e : b = -((Int.gcd a b : Nat) : Int) * -b' := by rw [Int.neg_mul_neg]; exact hb'
      conv => lhs; arg 1; rw [e]
      exact Int.mul_fdiv_cancel_left _ (by omega)
    rw [na, nb] at L2
    obtain ⟨e1, e2⟩ := (low_eq hb hb L L2).mpr rfl
    exact ⟨-1, .inr rfl, by rw [fa]; omega, by rw [fb]; omega⟩
  · have L2 := low_of (a := a) hb (.inl ⟨rfl, h⟩)
    rw [fa, fb] at L2
    obtain ⟨e1, e2⟩ := (low_eq hb hb L L2).mpr rfl
    exact ⟨1, .inl rfl, by rw [fa]; omega, by rw [fb]; omega⟩
theorem eq_ref {K : PySem.W.Frag} {H : Hp} {p q : Addr} {Q : VK} (hp : Refused H p) (hq : Refused H q) (k : Q (.bl true) H) : rEqD K (.ref p) (.ref q) H Q :=
  ⟨_, _, .tup (SqT.of hp) (.cons (.str _) (.cons (.int _) .nil)), .tup (SqT.of hq) (.cons (.str _) (.cons (.int _) .nil)), by decide +kernel, by decide +kernel, by
    rw [SeqAt.eqv_refl _ (SeqAt.canLay_of_shaped (by decide +kernel))]
    exact k⟩
theorem ne_ref {K : PySem.W.Frag} {H : Hp} {p q : Addr} {Q : VK} (hp : Refused H p) (hq : Refused H q) (k : Q (.bl false) H) : rNeD K (.ref p) (.ref q) H Q :=
  ⟨_, _, .tup (SqT.of hp) (.cons (.str _) (.cons (.int _) .nil)), .tup (SqT.of hq) (.cons (.str _) (.cons (.int _) .nil)), by decide +kernel, by decide +kernel, by
    rw [SeqAt.eqv_refl _ (SeqAt.canLay_of_shaped (by decide +kernel))]
    exact k⟩
def spRight (C : Addr) : Sp := fun vs H Q _ => ∃ (q : Addr) (m a b t u : Int), vs = [.int m, .int a, .int b, .ref q] ∧ goodP m = true ∧ b ≠ 0 ∧ a.natAbs < 2 ^ 4000 ∧ b.natAbs < 2 ^ 4000 ∧ Low a b t u ∧ NumRes C m t u H q ∧ ∀ H', Same H H' → Q (.bl true) H'
def spStrange (CF : Addr) : Sp := fun vs H Q _ => ∃ (x : Addr) (a p : Int), vs = [.ref x, .int a] ∧ FldAt CF H x p ∧ goodP p = true ∧ Fit a ∧ ∀ H', Same H H' → Q (.bl true) H'
/-- isinstance(x, Ratio) of yet other things -/
structure KZ2 (K : PySem.W.Frag) (C : Addr) : Prop where
  kbool : PySem.W.kitOne K (.type "bool") (.ref C) = some false
  klist : PySem.W.kitOne K (.type "list") (.ref C) = some false
  ktup : PySem.W.kitOne K (.type "tuple") (.ref C) = some false
  kdict : PySem.W.kitOne K (.type "dict") (.ref C) = some false
section
variable {P : Program} {w : World} {K : PySem.W.Frag} {mg : Str → Option Value} {base : Heap}
theorem sc_right : FnScope ["_law_modulus", "_law_top", "_law_bottom", "_law_told", "_law_shared"] ["_law_modulus", "_law_top", "_law_bottom", "_law_told"] (defScope s_right) := ⟨rfl, rfl, rfl, by decide +kernel, rfl, by decide +kernel, by decide +kernel⟩
theorem ok_right {f C fG fI : Addr} {fd fdG fdI : FuncData} (F : Fun K "_law_right" "_law_right" s_right f fd) (TD : DTx mg) (T : CTx K C) (Y : ITy K C) (B : ITx mg) (m_C : mg "Ratio" = some (.ref C))
    (G_G : FnOk P w K mg base CX0 1 fG fdG ["_law_one", "_law_other"] spGcd) (m_G : mg "_law_gcd" = some (.ref fG)) (k_G : PySem.W.keepIn K (.ref fG) = true) (b_G : Binds K fdG ["_law_one", "_law_other"] [])
    (G_I : FnOk P w K mg base CX0 1 fI fdI ["_law_told"] (spIsInt K)) (m_I : mg "_law_is_integer" = some (.ref fI)) (k_I : PySem.W.keepIn K (.ref fI) = true) (b_I : Binds K fdI ["_law_told"] []) : FnOk P w K mg base CX0 2 f fd ["_law_modulus", "_law_top", "_law_bottom", "_law_told"] (spRight C) := by
  refine F.ok sc_right (fun vs H Q E h => ?_) (fun cdv A outer s H vs Q E hr h => ?_)
  · obtain ⟨q, m, a, b, t, u, rfl, _⟩ := h
    rfl
  · obtain ⟨q, m, a, b, t, u, rfl, hg, hb, sa, sb, L, h, k⟩ := h
    refine ⟨_, (pss_cons (ps_if (pt_cmpR op_eq (pv 0) pe_int (nomark _))
        (pss_cons (ps_if (PW.pt (pw_or (pt_cmpR op_ne (pe_ix ix_tup (pv 3) pe_int (fun _ _ => rfl)) pe_str (nomark _)) (pw_or1 (pt_not (pt_val (pe_callB call_isi (by rfl) B.b_isinstance (by decide +kernel) (pa_cons (pe_ix ix_tup (pv 3) pe_int (fun _ _ => rfl)) (pa_cons (pe_glob (v := .ref C) rfl m_C rfl) pa_nil))))))))
        (pss_one (ps_ret pe_bl))
        pss_nil)
      (pss_one (ps_ret (pe_and (pe_cmpR op_ge (pe_fld (pe_ix ix_tup (pv 3) pe_int (fun _ _ => rfl)) rfl) pe_int (nomark _)) (pe_one (pe_cmpR op_eq (pe_op op_mulW (pe_fld (pe_ix ix_tup (pv 3) pe_int (fun _ _ => rfl)) rfl) (pv 2)) (pe_op op_mulW (pv 1) (pe_fld (pe_ix ix_tup (pv 3) pe_int (fun _ _ => rfl)) rfl)) (nomark _)))))))
        pss_nil)
      (pss_cons (ps_set (i := 4) sc_right.nd rfl (Or.inl rfl) (pe_call G_G (hr.mono (by decide)) rfl m_G k_G b_G .nil pass0 (pa_cons (pv 1) (pa_cons (pv 2) pa_nil))))
      (pss_cons (ps_par (i := 1) (j := 2) (by rfl) sc_right.nd rfl rfl (by decide) rfl rfl (pa_cons (pe_op op_fdivZ (pv 1) (pv 4)) (pa_cons (pe_op op_fdivZ (pv 2) (pv 4)) pa_nil)) (by rfl))
      (pss_cons (ps_if (pt_cmpR op_eq (pe_op op_mod (pe_callTy call_int1 (by rfl) TD.b_int (by decide +kernel) (pa_cons (pv 2) pa_nil)) (pv 0)) pe_int (nomark _))
        (pss_one (ps_ret (pe_cmpR (op_eqD hr.units) (pv 3) (pe_tup (pa_cons pe_str (pa_cons pe_int pa_nil))) (nomark _))))
        pss_nil)
      (pss_cons (ps_if (PW.pt (pw_or (pt_cmpR op_ne (pe_ix ix_tup (pv 3) pe_int (fun _ _ => rfl)) pe_str (nomark _)) (pw_or (pt_not (pt_val (pe_call G_I (hr.mono (by decide)) rfl m_I k_I b_I .nil pass0 (pa_cons (pe_ix ix_tup (pv 3) pe_int (fun _ _ => rfl)) pa_nil)))) (pw_or1 (pt_not (pt_chain op_le op_lt pe_int (pe_ix ix_tup (pv 3) pe_int (fun _ _ => rfl)) (pv 0)))))))
        (pss_one (ps_ret pe_bl))
        pss_nil)
      (pss_one (ps_ret (pe_cmpR op_eq (pe_op op_mod (pe_callTy call_int1 (by rfl) TD.b_int (by decide +kernel) (pa_cons (pe_op op_sub (pe_op op_mulW (pe_ix ix_tup (pv 3) pe_int (fun _ _ => rfl)) (pv 2)) (pv 1)) pa_nil)) (pv 0)) pe_int (nomark _))))))))), ?_⟩
    refine ⟨_, rfl, rfl, _, rfl, ?_⟩
    have u1 := L.pos
    by_cases m0 : m = 0
    · refine itD (by simpa using m0) ?_
      rcases h with ⟨c, _⟩ | ⟨_, z, hq, R⟩ | ⟨c, _⟩
      · exact absurd m0 c
      · obtain ⟨dz, hz⟩ := id R
        refine ⟨_, rfl, q, _, _, _, rfl, rfl, SqT.of hq, rfl, rfl, _, rfl, itDn (by decide +kernel) ?_⟩
        refine ⟨_, rfl, q, _, _, _, rfl, rfl, SqT.of hq, rfl, _, _, _, _, true, rfl, .own C, R.ty T Y, kit_self, true, rfl, iteF ?_⟩
        refine ⟨_, rfl, q, _, _, _, rfl, rfl, SqT.of hq, rfl, z, C, dz, _, _, rfl, hz, T.cl, T.nB, rf_bottom _ _, _, _, rfl, rfl, _, rfl, itD (by simpa using u1) ?_⟩
        refine ⟨_, rfl, q, _, _, _, rfl, rfl, SqT.of hq, rfl, z, C, dz, _, _, rfl, hz, T.cl, T.nT, rf_top _ _, _, rfl, _, _, rfl, rfl, mul_ok (Nat.lt_of_le_of_lt L.lt sa) sb, ?_⟩
        refine ⟨_, rfl, _, rfl, q, _, _, _, rfl, rfl, SqT.of hq, rfl, z, C, dz, _, _, rfl, hz, T.cl, T.nB, rf_bottom _ _, _, _, rfl, rfl, mul_ok sa (Nat.lt_of_le_of_lt L.lu sb), rfl, ?_⟩
        show Q (.bl (decide (V.int (t * b) = V.int (a * u)))) H
        rw [L.val, decide_eq_true rfl]
        exact k H (Same.refl H)
      · exact absurd m0 c
    · refine itDn (by simpa using m0) ?_
      obtain ⟨m2, m9, _⟩ := goodP_pos hg m0
      obtain ⟨s, hs, ea, eb⟩ := low_sign hb L
      have hgp : 0 < Int.gcd a b := Int.gcd_pos_of_ne_zero_right a hb
      have hgb : Int.gcd a b ≤ b.natAbs := Nat.le_of_dvd (by omega) (Int.gcd_dvd_natAbs_right ..)
      have cz : ∀ x : Int, CDivZ x ((Int.gcd a b : Nat) : Int) := fun x => ⟨by omega, by
        have : (2 : Nat) ^ 4000 ≤ 2 ^ 8000 := Nat.pow_le_pow_right (by decide) (by decide)
        show ((Int.gcd a b : Nat) : Int).natAbs < 2 ^ 8000
        omega⟩
      refine ⟨_, rfl, _, rfl, a, b, rfl, ?_⟩
      refine ⟨_, rfl, _, rfl, _, _, rfl, rfl, cz a, _, rfl, _, rfl, _, _, rfl, rfl, cz b, _, _, rfl, ?_⟩
      refine ⟨_, rfl, .inl ⟨_, rfl, _, rfl, _, _, rfl, rfl, (show 0 < m from by omega), rfl, _, rfl, ?_⟩⟩
      have um : (b.fdiv ((Int.gcd a b : Nat) : Int)) % m = 0 ↔ u % m = 0 := by
        rw [eb]
        rcases hs with rfl | rfl
        · rw [Int.one_mul]
        · rw [Int.neg_mul, Int.one_mul]
          constructor
          · intro h
            exact Int.emod_eq_zero_of_dvd ((Int.dvd_neg).mp (Int.dvd_of_emod_eq_zero h))
          · intro h
            exact Int.emod_eq_zero_of_dvd ((Int.dvd_neg).mpr (Int.dvd_of_emod_eq_zero h))
      by_cases um0 : u % m = 0
      · refine itD (decide_eq_true (by show V.int _ = V.int 0; rw [um.mpr um0])) ?_
        rcases h with ⟨_, _, hq⟩ | ⟨c, _⟩ | ⟨_, c, _⟩
        · refine ⟨_, rfl, (by show 2 ≤ sizeLine; decide), fun q2 hq2 => ?_⟩
          exact eq_ref ((same_new (Same.refl _) hq2) _ _ hq) upd_same (k _ (same_new (Same.refl _) hq2))
        · exact absurd c m0
        · exact absurd um0 c
      · refine itDn (fun h => um0 (um.mp (V.int.inj (of_decide_eq_true h)))) ?_
        rcases h with ⟨_, c, _⟩ | ⟨c, _⟩ | ⟨_, _, r, hq, r0, r1, kk, hk⟩
        · exact absurd c um0
        · exact absurd c m0
        · refine ⟨_, rfl, q, _, _, _, rfl, rfl, SqT.of hq, rfl, rfl, _, rfl, itDn (by decide +kernel) ?_⟩
          refine ⟨_, rfl, q, _, _, _, rfl, rfl, SqT.of hq, rfl, _, rfl, IsTy.int _, _, rfl, iteF ?_⟩
          refine ⟨_, rfl, q, _, _, _, rfl, rfl, SqT.of hq, rfl, _, _, rfl, rfl, _, rfl, itD (by simpa using r0) ⟨_, rfl, _, _, rfl, rfl, _, rfl, itDn (by simpa using r1) ?_⟩⟩
          have sf : (b.fdiv ((Int.gcd a b : Nat) : Int)).natAbs < 2 ^ 4000 := by
            rw [eb, Int.natAbs_mul]
            have : s.natAbs = 1 := by rcases hs with rfl | rfl <;> rfl
            rw [this, Nat.one_mul]
            exact Nat.lt_of_le_of_lt L.lu sb
          have sr : r.natAbs < 2 ^ 4000 := Nat.lt_of_lt_of_le (show r.natAbs < 2 ^ 20 from by omega) (Nat.pow_le_pow_right (by decide) (by decide))
          refine ⟨_, rfl, q, _, _, _, rfl, rfl, SqT.of hq, rfl, _, rfl, _, _, rfl, rfl, mul_ok sr sf, _, rfl, _, _, rfl, rfl, .inl ⟨_, rfl, _, rfl, _, _, rfl, rfl, (show 0 < m from by omega), rfl, ?_⟩⟩
          have e0 : (r * b.fdiv ((Int.gcd a b : Nat) : Int) - a.fdiv ((Int.gcd a b : Nat) : Int)) % m = 0 := by
            rw [ea, eb]
            have : r * (s * u) - s * t = s * kk * m := by grind
            rw [this]
            exact Int.mul_emod_left ..
          show Q (.bl (decide (V.int ((r * b.fdiv ((Int.gcd a b : Nat) : Int) - a.fdiv ((Int.gcd a b : Nat) : Int)) % m) = V.int 0))) H
          rw [e0, decide_eq_true rfl]
          exact k H (Same.refl H)
end
end Sq

namespace Sq
open PySem L2 PyProof.Rows
theorem Refused.same {H H' : Hp} {q : Addr} (s : Same H H') (h : Refused H q) : Refused H' q := s _ _ h
theorem bigF0 : Fit 0 := Nat.lt_of_lt_of_le (show (0 : Int).natAbs < 2 ^ 1 from by decide) (Nat.pow_le_pow_right (by decide) (by decide))
section
variable {P : Program} {w : World} {K : PySem.W.Frag} {mg : Str → Option Value} {base : Heap}
theorem sc_strange : FnScope ["_law_field_here", "_law_good", "_law_thing"] ["_law_field_here", "_law_good"] (defScope s_strange) := ⟨rfl, rfl, rfl, by decide +kernel, rfl, by decide +kernel, by decide +kernel⟩
theorem ok_strange {f C CF fcalled fdivided : Addr} {fd fdcalled fddivided : FuncData} (F : Fun K "_law_strange" "_law_strange" s_strange f fd) (Z : KZx K C) (Z2 : KZ2 K C)
    (G_called : FnOk P w K mg base (L2.CX P w) 9 fcalled fdcalled ["_law_field_here", "_law_value"] (spCalled K C CF)) (m_called : mg "_law_called" = some (.ref fcalled)) (k_called : PySem.W.keepIn K (.ref fcalled) = true) (b_called : Binds K fdcalled ["_law_field_here", "_law_value"] [])
    (G_divided : FnOk P w K mg base (L2.CX P w) 10 fdivided fddivided ["_law_field_here", "_law_one", "_law_other"] (spDivided K C CF)) (m_divided : mg "_law_divided" = some (.ref fdivided)) (k_divided : PySem.W.keepIn K (.ref fdivided) = true) (b_divided : Binds K fddivided ["_law_field_here", "_law_one", "_law_other"] []) : FnOk P w K mg base CX0 11 f fd ["_law_field_here", "_law_good"] (spStrange CF) := by
  refine F.ok sc_strange (fun vs H Q E h => ?_) (fun cdv A outer s H vs Q E hr h => ?_)
  · obtain ⟨x, a, p, rfl, _⟩ := h
    rfl
  · obtain ⟨x, a, p, rfl, hx, hg, fa, k⟩ := h
    refine ⟨_, (pss_cons (ps_for PassesOwn.never rfl (pi_list (pe_lst (pa_cons pe_str (pa_cons pe_bl (pa_cons pe_non (pa_cons (pe_lst (pa_cons pe_int pa_nil)) (pa_cons (pe_tup (pa_cons pe_int (pa_cons pe_int pa_nil))) (pa_cons pe_str (pa_cons pe_bl (pa_cons pe_dnewK pa_nil)))))))))) (pg_name (i := 2) sc_strange.nd rfl (Or.inl rfl)) (pss_cons (ps_if (PW.pt (pw_or (pt_cmpR (op_neD hr.units) (pe_call G_called (hr.mono (by decide)) rfl m_called k_called b_called .nil passL (pa_cons (pv 0) (pa_cons (pv 2) pa_nil))) (pe_tup (pa_cons pe_str (pa_cons pe_int pa_nil))) (nomark _)) (pw_or1 (pt_cmpR (op_neD hr.units) (pe_call G_divided (hr.mono (by decide)) rfl m_divided k_divided b_divided .nil passL (pa_cons (pv 0) (pa_cons (pv 2) (pa_cons (pv 1) pa_nil)))) (pe_tup (pa_cons pe_str (pa_cons pe_int pa_nil))) (nomark _)))))
        (pss_one (ps_ret pe_bl))
        pss_nil)
      (pss_one (ps_if (pt_cmpR (op_neD hr.units) (pe_call G_divided (hr.mono (by decide)) rfl m_divided k_divided b_divided .nil passL (pa_cons (pv 0) (pa_cons (pv 1) (pa_cons (pv 2) pa_nil)))) (pe_tup (pa_cons pe_str (pa_cons pe_int pa_nil))) (nomark _))
        (pss_one (ps_ret pe_bl))
        pss_nil))))
      (pss_one (ps_ret (pe_cmpR (op_eqD hr.units) (pe_call G_divided (hr.mono (by decide)) rfl m_divided k_divided b_divided .nil passL (pa_cons (pv 0) (pa_cons (pv 1) (pa_cons pe_int pa_nil)))) (pe_tup (pa_cons pe_str (pa_cons pe_int pa_nil))) (nomark _))))), ?_⟩
    refine ⟨(by show 1 ≤ sizeLine; decide), fun l hl => ⟨(by show 2 ≤ sizeLine; decide), fun tp htp => fun d hd => ⟨(by show 8 ≤ sizeLine; decide), fun ls hls => ⟨ls, rfl, ⟨_, SqL.of upd_same⟩, ?_⟩⟩⟩⟩
    have sx0 := same_new (o := .lst [.str "1", .bl true, .non, .ref l, .ref tp, .str "", .bl false, .ref d]) (Same.refl _) hls
    have sx1 := same_new (o := .dK []) (Same.refl _) hd
    have sx2 := same_new (o := .tup [.int 1, .int 2]) (Same.refl _) htp
    have sx3 := same_new (o := .lst [.int 1]) (Same.refl _) hl
    have SX := ((sx3.trans sx2).trans sx1).trans sx0
    have e1 := ((sx2.trans sx1).trans sx0) _ _ upd_same
    have e2 := (sx1.trans sx0) _ _ upd_same
    have e3 := sx0 _ _ upd_same
    have eL := upd_same (H := (upd (upd (upd H l (.lst [.int 1])) tp (.tup [.int 1, .int 2])) d (.dK []))) (a := ls) (o := .lst [.str "1", .bl true, .non, .ref l, .ref tp, .str "", .bl false, .ref d])
    generalize upd (upd (upd (upd H l (.lst [.int 1])) tp (.tup [.int 1, .int 2])) d (.dK [])) ls (.lst [.str "1", .bl true, .non, .ref l, .ref tp, .str "", .bl false, .ref d]) = HX at *
    have all : ∀ v ∈ ([.str "1", .bl true, .non, .ref l, .ref tp, .str "", .bl false, .ref d] : List V), NmTy K C HX v false := by
      intro v hv
      simp only [List.mem_cons, List.not_mem_nil, or_false] at hv
      rcases hv with rfl | rfl | rfl | rfl | rfl | rfl | rfl | rfl
      · exact ⟨.type "str", false, .base (.str _), Z.kstr, .str _, rfl⟩
      · exact ⟨.type "bool", false, .base (.bl _), Z2.kbool, .bl _, rfl⟩
      · exact ⟨.type "NoneType", false, .base .non, Z.knon, .non, rfl⟩
      · exact ⟨.type "list", false, .base (.lst e1), Z2.klist, .lst e1, rfl⟩
      · exact ⟨.type "tuple", false, .base (.tup e2), Z2.ktup, .tup e2, rfl⟩
      · exact ⟨.type "str", false, .base (.str _), Z.kstr, .str _, rfl⟩
      · exact ⟨.type "bool", false, .base (.bl _), Z2.kbool, .bl _, rfl⟩
      · exact ⟨.type "dict", false, .base (.dK e3), Z2.kdict, .dK e3, rfl⟩
    refine for_list (xs := [.str "1", .bl true, .non, .ref l, .ref tp, .str "", .bl false, .ref d]) (fun i σ H' => ∃ z, σ = [some (.ref x), some (.int a), z] ∧ Same HX H') ⟨none, rfl, Same.refl _⟩ (fun i σ H' _ h => ?_) ?_ ?_
    · obtain ⟨z, _, s1⟩ := h
      exact SqL.of (s1 _ _ eL)
    · rintro i v σ H1 hi ⟨z, rfl, s1⟩
      have nm := all v (List.mem_of_getElem? hi)
      refine ⟨_, rfl, _, rfl, x, v, p, rfl, hx.same (SX.trans s1), hg, .inl ⟨nm.same s1, fun q2 H2 s2 R2 => ⟨(by show 2 ≤ sizeLine; decide), fun q3 hq3 => ?_⟩⟩⟩
      have t3 := (s1.trans s2).trans (same_new (o := .tup [.str "refused", .int 0]) (Same.refl _) hq3)
      refine ne_ref (R2.same (same_new (Same.refl _) hq3)) upd_same ⟨_, rfl, iteF ?_⟩
      refine ⟨_, rfl, _, rfl, _, rfl, x, v, .int a, p, rfl, hx.same (SX.trans t3), hg, .inl (nm.same t3), fun q4 H4 s4 R4 => ⟨(by show 2 ≤ sizeLine; decide), fun q5 hq5 => ?_⟩⟩
      have t5 := (t3.trans s4).trans (same_new (o := .tup [.str "refused", .int 0]) (Same.refl _) hq5)
      refine ne_ref (R4.same (same_new (Same.refl _) hq5)) upd_same ⟨_, rfl, iteF ?_⟩
      refine ⟨_, rfl, _, rfl, _, rfl, x, .int a, v, p, rfl, hx.same (SX.trans t5), hg, .inr ⟨a, 1, .inr ⟨rfl, rfl⟩, by decide, fa, fit_one, .inr (.inl (nm.same t5))⟩, fun q6 H6 s6 R6 => ⟨(by show 2 ≤ sizeLine; decide), fun q7 hq7 => ?_⟩⟩
      have t7 := (t5.trans s6).trans (same_new (o := .tup [.str "refused", .int 0]) (Same.refl _) hq7)
      refine ne_ref (R6.same (same_new (Same.refl _) hq7)) upd_same ⟨_, rfl, iteF ?_⟩
      exact ⟨_, rfl, t7⟩
    · rintro σ H1 ⟨z, rfl, s1⟩
      refine ⟨_, rfl, _, rfl, x, .int a, .int 0, p, rfl, hx.same (SX.trans s1), hg, .inr ⟨a, 1, .inr ⟨rfl, rfl⟩, by decide, fa, fit_one, .inr (.inr ⟨0, 1, .inr ⟨rfl, rfl⟩, by decide, by decide, bigF0, fit_one, fun _ => rfl, fun _ => .inr (by simp)⟩)⟩, fun q2 H2 s2 R2 => ⟨(by show 2 ≤ sizeLine; decide), fun q3 hq3 => ?_⟩⟩
      exact eq_ref (R2.same (same_new (Same.refl _) hq3)) upd_same (k _ (((SX.trans s1).trans s2).trans (same_new (Same.refl _) hq3)))
end
end Sq

namespace Sq
open PySem L2 PyProof.Rows Builtin
section
variable {X : Cx} {CX : CXT} {k : Nat} {f C : Addr} {fd : FuncData} {ps : List Str} {sp : Sp} {E : XK}
/-- a def run one C level deeper -/
theorem run_in1 {pins : List (Addr × Obj)} {σ : L2.St} {H : Hp} {s : Shared} {us : List Value} {vs : List V} {Q : VK} (G : FnOk X.prog X.w X.K X.mg X.base CX k f fd ps sp) (hr : Room (k + 1) X.A) (hb : Binds X.K fd ps []) (hx : Passes CX X E)
    (I : Inv X pins σ H s) (r : Vals vs us) (h : sp vs H Q E) : wpAny (model X.prog X.w) X.A.in1 (call (.ref f) us) (EP X pins σ Q) X.xe s := by
  have e0 : Env0 X.prog X.w X.K X.mg X.base X.A.in1 X.stack s H := by
    have e := I.env0
    exact ⟨e.frames, e.mod, e.bs, e.bsz, e.funs, e.frf, e.hok, e.bare⟩
  have hl := G.len _ _ _ _ h
  have bd := hb s us I.kIn (by rw [List.append_nil, ← r.length]; exact hl)
  rw [List.append_nil] at bd
  refine wpAny_call (codeAny_mono (G.run X.A.in1 X.stack s H ⟨us, []⟩ us vs Q E hr.in1 e0 bd r h) fun q s' hq => ?_)
  cases q with
  | error e => exact hx pins σ H s e s' I hq
  | ok fl =>
    cases fl with
    | ret w =>
      obtain ⟨z, H', I', rz, ez⟩ := I.after hq
      exact ⟨z, H', I', rz, ez⟩
    | next => exact False.elim hq
    | brk => exact False.elim hq
    | cont => exact False.elim hq
/-- a != b, a's class has its own == and object's != -/
def rOwnNe (K : PySem.W.Frag) (C : Addr) (sp : Sp) (E : XK) : R2 := fun x y H Q => ∃ a dx fs t, x = .ref a ∧ H a = some (.ins C dx fs) ∧ TyX K H y t ∧ PySem.W.notFirst K C t = true ∧ sp [x, y] H (fun v H' => ∃ b, v = .bl b ∧ Q (.bl (!b)) H') E
theorem op_ownNe (O : NeOp X.K C f) (G : FnOk X.prog X.w X.K X.mg X.base CX k f fd ps sp) (hr : Room (k + 1) X.A) (hb : Binds X.K fd ps []) (hx : Passes CX X E) : OpR X (compareOp .NotEq) (rOwnNe X.K C sp E) := by
  rintro pins s σ H x y v u Q I rx ry ⟨a, dx, fs, t, rfl, ha, hty, hn, hsp⟩
  cases rx
  obtain ⟨od, J⟩ := inst_at I ha
  obtain ⟨m, hF⟩ := I.fr
  obtain ⟨Pt, KX, hp, _⟩ := kit_of I ry hty
  have Y := I.kIn
  have tb := KX.ty (model X.prog X.w) _ Y hp
  have sub : PySem.W.Looks (model X.prog X.w) s.heap (isInstance (.ref a) (.type "object")) true := J.type.andThen (PySem.W.looks_mroIn Y O.ob)
  have hcall := run_in1 (us := [.ref a, u]) (vs := [.ref a, y]) G hr hb hx I (.cons rfl (.cons ry .nil)) hsp
  have one : wpAny (model X.prog X.w) X.A (tryCompare (.ref a) (cmpInfo .NotEq).2.1 u) (fun r s' => ∃ v, r = some v ∧ EP X pins σ Q v s') X.xe s := by
    unfold tryCompare
    refine wpAny_bind (if_bound Y J O.ne (fun self => PySem.F.slot_object_ne.bind self) ?_)
    refine wpAny_call (codeAny_call_builtin PySem.F.slot_object_ne.plain F.cmpEntry_ne (@PySem.W.check_slot (model X.prog X.w) _ _ s "object.__ne__" "object" "__ne__" (.ref a) [u] [] _ F.cmpKind_ne F.cmpSplit_ne sub (F.cmpArgs_ne _ _) ?_))
    unfold Builtin.«object.__ne__»
    refine wpAny_bind (wpAny_of_eq (a := ((Value.ref a : Value), [u])) (by first | rfl | (simp only [slotArgs]; rfl)) ?_)
    refine wpAny_bind (wpAny_cRoomFor hr.in1.units0 ?_)
    refine wpAny_bind (PySem.W.ifBound_K Y J O.eq O.fn (wpAny_mono hcall (fun r s' hr' => ?_) fun _ _ e => e))
    obtain ⟨z, H', I', rz, b, rfl, q⟩ := hr'
    cases rz
    refine wpAny_bind (wpAny_truthy_bool ?_)
    refine wpAny_pure ?_
    exact wpAny_pure ⟨_, rfl, .bl (!b), H', I', rfl, q⟩
  show wpAny (model X.prog X.w) X.A (richCompare .NotEq (.ref a) u) (EP X pins σ Q) X.xe s
  unfold richCompare
  simp only [oneThing_ref]
  refine wpAny_holding (wpAny_bind (wpAny_cRoomFor hr.units0 ?_))
  refine wpAny_bind (J.type.here (wpAny_bind (tb.here ?_)))
  split
  · rename_i q
    have e : PySem.W.subIn X.K t (.ref C) = some false := by
      rcases Bool.or_eq_true_iff.mp hn with e | e
      · rw [beq_iff_eq.mp e] at q
        simp at q
      · exact beq_iff_eq.mp e
    refine wpAny_bind ((PySem.W.looks_subIn Y e).here ?_)
    simp only [Bool.false_eq_true, if_false]
    refine wpAny_bind (wpAny_mono one (fun r s' z => ?_) fun _ _ e => e)
    obtain ⟨v, rfl, hq⟩ := z
    exact wpAny_pure hq
  · refine wpAny_bind (wpAny_pure ?_)
    simp only [Bool.false_eq_true, if_false]
    refine wpAny_bind (wpAny_mono one (fun r s' z => ?_) fun _ _ e => e)
    obtain ⟨v, rfl, hq⟩ := z
    exact wpAny_pure hq
end
end Sq
namespace Sq
open PySem L2 PyProof.Rows
/-- isinstance(x, Field) of other things -/
def spF_eq (K : PySem.W.Frag) (CF : Addr) : Sp := fun vs H Q _ => ∃ (x : Addr) (y : V) (p : Int), vs = [.ref x, y] ∧ FldAt CF H x p ∧
  ((∃ r p', y = .ref r ∧ FldAt CF H r p' ∧ Q (.bl (decide (p = p'))) H) ∨ (∃ i, y = .int i ∧ Q (.bl false) H))
/-- what the class Field must say for isinstance -/
structure IFy (K : PySem.W.Frag) (C : Addr) : Prop where
  ha : PySem.W.findIn K (.ref C) "__class__" = some (some (.builtin "object.__class__"))
  hn : PySem.W.specialIn K (.builtin "object.__class__") "__get__" = some (some (.builtin "getset_descriptor.__get__"))
  htk : PySem.W.takesIn K (.builtin "object.__class__") = some true
  hm : PySem.W.mroIn K C (.type "object") = some true
  kint : PySem.W.kitOne K (.type "int") (.ref C) = some false
theorem FldAt.ty {K : PySem.W.Frag} {C : Addr} {H : Hp} {x : Addr} {p : Int} (T : FTx K C) (Y : IFy K C) (h : FldAt C H x p) : TyX K H (.ref x) (.ref C) := by
  obtain ⟨dx, h⟩ := h
  exact .base (.ins h T.cl Y.ha Y.hn Y.htk Y.hm)
section
variable {P : Program} {w : World} {K : PySem.W.Frag} {mg : Str → Option Value} {base : Heap}
theorem sc_feq : FnScope ["self", "other"] ["self", "other"] (defScope s_feq) := ⟨rfl, rfl, rfl, by decide +kernel, rfl, by decide +kernel, by decide +kernel⟩
theorem ok_feq {f CF : Addr} {fd : FuncData} (F : Fun K "__eq__" "Field.__eq__" s_feq f fd) (TF : FTx K CF) (Y : IFy K CF) (B : ITx mg) (m_CF : mg "Field" = some (.ref CF)) : FnOk P w K mg base CX0 1 f fd ["self", "other"] (spF_eq K CF) := by
  refine F.ok sc_feq (fun vs H Q E h => ?_) (fun cdv A outer s H vs Q E hr h => ?_)
  · obtain ⟨x, y, p, rfl, _⟩ := h
    rfl
  · obtain ⟨x, y, p, rfl, hx, h⟩ := h
    refine ⟨_, pss_one (ps_ret (pe_and (pe_callB call_isi (by rfl) B.b_isinstance (by decide +kernel) (pa_cons (pv 1) (pa_cons (pe_glob (v := .ref CF) rfl m_CF rfl) pa_nil))) (pe_one (pe_cmpR op_eq (pe_fld (pv 0) rfl) (pe_fld (pv 1) rfl) (nomark _))))), ?_⟩
    obtain ⟨dx, hx0⟩ := id hx
    rcases h with ⟨r, p', rfl, hr1, k⟩ | ⟨i, rfl, k⟩
    · obtain ⟨dr, hr0⟩ := id hr1
      refine ⟨_, rfl, _, _, _, _, true, rfl, .own CF, hr1.ty TF Y, kit_self, _, rfl, iteT ?_⟩
      refine ⟨_, rfl, x, CF, dx, _, _, rfl, hx0, TF.cl, TF.nP, pf_prime _, _, rfl, r, CF, dr, _, _, rfl, hr0, TF.cl, TF.nP, pf_prime _, rfl, ?_⟩
      show Q (.bl (decide (V.int p = V.int p'))) H
      rw [dec_int2]
      exact k
    · exact ⟨_, rfl, _, _, _, _, false, rfl, .own CF, .base (.int _), Y.kint, _, rfl, iteF k⟩
end
end Sq

namespace Sq
open PySem L2 PyProof.Rows
abbrev s_law : Stmt := top 33
def gP {α : Type} (us ws : List α) : List α := match ws with
  | [x] => us ++ [x]
  | _ => us
theorem FldAt.ne {C : Addr} {H : Hp} {z p : Addr} {m : Int} (h : FldAt C H z m) (S : StAt H p) : z ≠ p := by
  obtain ⟨dx, h⟩ := h
  obtain ⟨a, ns, i, l, m, c, h1, _⟩ := S
  exact fun e => by
    rw [e, h1] at h
    cases h
theorem FldAt.but {C : Addr} {H H' : Hp} {z p : Addr} {m : Int} (B : But p H H') (h : FldAt C H z m) (S : StAt H p) : FldAt C H' z m := by
  have n := h.ne S
  obtain ⟨dx, h⟩ := h
  exact ⟨dx, B _ _ h n⟩
theorem NumRes.same {C : Addr} {p t u : Int} {H H' : Hp} {q : Addr} (s : Same H H') (h : NumRes C p t u H q) : NumRes C p t u H' q := by
  rcases h with ⟨a, b, h⟩ | ⟨a, z, h, R⟩ | ⟨a, b, r, h, c⟩
  · exact .inl ⟨a, b, s _ _ h⟩
  · exact .inr (.inl ⟨a, z, s _ _ h, R.same s⟩)
  · exact .inr (.inr ⟨a, b, r, s _ _ h, c⟩)
theorem mkF_go {K : PySem.W.Frag} {CF CNF z dz : Addr} {H : Hp} {p : Int} {Q : VK} {E : XK} (hg : goodP p = true) (nz : H z = none) (ndz : H dz = none) (_ne : dz ≠ z) (k : ∀ H', FldAt CF H' z p → Same H H' → Q .non H') :
    spFieldInit K CF CNF [.ref z, .int p] (upd (upd H dz (.own z)) z (.ins CF dz [])) Q E :=
  ⟨z, dz, _, rfl, upd_same, .int _, fun h => (by have := h p rfl; rw [hg] at this; cases this), fun p' e _ H' h B => (by cases e; exact k H' h (same_made nz ndz B))⟩
theorem fEq {K : PySem.W.Frag} {CF x y : Addr} {H : Hp} {p p' : Int} {Q : VK} {E : XK} (T : FTx K CF) (Y : IFy K CF) (nf : PySem.W.notFirst K CF (.ref CF) = true) (hx : FldAt CF H x p) (hy : FldAt CF H y p') (k : Q (.bl (decide (p = p'))) H) : rOwnEq K CF (spF_eq K CF) E (.ref x) (.ref y) H Q := by
  obtain ⟨dx, hx0⟩ := id hx
  exact ⟨x, dx, _, .ref CF, rfl, hx0, hy.ty T Y, nf, x, .ref y, p, rfl, hx, .inl ⟨y, p', rfl, hy, k⟩⟩
theorem cancel_m {m x u : Int} (h2 : 2 ≤ m) (h9 : m ≤ 9973) (hp : isP m.toNat = true) (hu : u % m ≠ 0) (d : m ∣ x * u) : m ∣ x := by
  have u0 := Int.emod_nonneg u (show m ≠ 0 from by omega)
  have u1 := Int.emod_lt_of_pos u (show 0 < m from by omega)
  have g := gcd_prime h2 h9 hp (a := u % m) (by omega) u1
  have d2 : m ∣ x * (u % m) := by
    have e : x * (u % m) = x * u - m * (x * (u / m)) := by
      rw [Int.emod_def]
      grind
    rw [e]
    exact Int.dvd_sub d (Int.dvd_mul_right ..)
  have dn : m.natAbs ∣ (u % m).natAbs * x.natAbs := by
    rw [← Int.natAbs_mul, Int.mul_comm]
    exact Int.natAbs_dvd_natAbs.mpr d2
  exact Int.natAbs_dvd_natAbs.mp (Nat.Coprime.dvd_of_dvd_mul_left (show Nat.Coprime m.natAbs (u % m).natAbs from g) dn)
theorem back_mod {m r r1 r2 t u t2 u2 k k1 k2 : Int} (h2 : 2 ≤ m) (h9 : m ≤ 9973) (hp : isP m.toNat = true) (hu : u % m ≠ 0) (hu2 : u2 % m ≠ 0) (e1 : r1 * u = t + k1 * m) (e2 : r2 * u2 = t2 + k2 * m) (e : r * (u * t2) = t * u2 + k * m) (a0 : 0 ≤ r1) (a1 : r1 < m) : (r * r2) % m = r1 := by
  have d : m ∣ ((r * r2 - r1) * u) * u2 := ⟨k + r * u * k2 - k1 * u2, by grind⟩
  have d1 := cancel_m h2 h9 hp hu (cancel_m h2 h9 hp hu2 d)
  obtain ⟨q, hq⟩ := d1
  have e3 : r * r2 = r1 + m * q := by omega
  rw [e3, Int.add_mul_emod_self_left, Int.emod_eq_of_lt a0 a1]
theorem back_q {t u t2 u2 T U T3 U3 : Int} (pu : 1 ≤ u) (cop : Int.gcd t u = 1) (pu2 : 1 ≤ u2) (t20 : t2 ≠ 0) (L : Low (t * u2) (u * t2) T U) (L3 : Low (T * t2) (U * u2) T3 U3) : T3 = t ∧ U3 = u := by
  have h := L.val
  have p := L.pos
  refine (low_eq (mul_ne (by omega) (by omega)) (by omega) L3 (⟨pu, cop, rfl, Nat.le_refl _, Nat.le_refl _⟩ : Low t u t u)).mpr ?_
  grind
section
variable {P : Program} {w : World} {K : PySem.W.Frag} {mg : Str → Option Value} {base : Heap}
theorem sc_law : FnScope ["_law_script", "_law_state_here", "_law_tried", "_law_made", "_law_thing", "_law_modulus", "_law_field_here", "_law_a", "_law_b", "_law_c", "_law_d", "_law_first", "_law_second", "_law_ratio"] ["_law_script"] (defScope s_law) := ⟨rfl, rfl, rfl, by decide +kernel, rfl, by decide +kernel, by decide +kernel⟩
theorem ok_law {f C CF CN CNF CNN fstate fdraw fgreat flip flpr ffield fcalled fdivided fright fstrange fnum fover fF fR fmul feq ffeq : Addr} {fd fdstate fddraw fdgreat fdlip fdlpr fdfield fdcalled fddivided fdright fdstrange fdnum fdover fdF fdR fdmul fdeq fdfeq : FuncData} {dsF dsR : List Value} {gF : List Value → List Value → List Value} (F : Fun K "law" "law" s_law f fd) (T0 : CTx K C) (Y : ITy K C) (TF : FTx K CF) (YF : IFy K CF) (BI : ITx mg) (m_C : mg "Ratio" = some (.ref C)) (m_CF : mg "Field" = some (.ref CF))
    (G_state : FnOk P w K mg base CX0 1 fstate fdstate ["_law_script"] (spState K)) (m_state : mg "_law_state" = some (.ref fstate)) (k_state : PySem.W.keepIn K (.ref fstate) = true) (b_state : Binds K fdstate ["_law_script"] [])
    (G_draw : FnOk P w K mg base CX0 1 fdraw fddraw ["_law_state_here", "_law_many"] spDraw) (m_draw : mg "_law_draw" = some (.ref fdraw)) (k_draw : PySem.W.keepIn K (.ref fdraw) = true) (b_draw : Binds K fddraw ["_law_state_here", "_law_many"] [])
    (G_great : FnOk P w K mg base CX0 2 fgreat fdgreat ["_law_state_here"] spGreat) (m_great : mg "_law_great" = some (.ref fgreat)) (k_great : PySem.W.keepIn K (.ref fgreat) = true) (b_great : Binds K fdgreat ["_law_state_here"] [])
    (G_lip : FnOk P w K mg base CX0 1 flip fdlip ["_law_value"] spLip) (m_lip : mg "_law_is_prime" = some (.ref flip)) (k_lip : PySem.W.keepIn K (.ref flip) = true) (b_lip : Binds K fdlip ["_law_value"] [])
    (G_lpr : FnOk P w K mg base CX0 2 flpr fdlpr ["_law_state_here"] spLpr) (m_lpr : mg "_law_prime" = some (.ref flpr)) (k_lpr : PySem.W.keepIn K (.ref flpr) = true) (b_lpr : Binds K fdlpr ["_law_state_here"] [])
    (G_field : FnOk P w K mg base (L2.CX P w) 4 ffield fdfield ["_law_value"] (spField K CF)) (m_field : mg "_law_field" = some (.ref ffield)) (k_field : PySem.W.keepIn K (.ref ffield) = true) (b_field : Binds K fdfield ["_law_value"] [])
    (G_called : FnOk P w K mg base (L2.CX P w) 9 fcalled fdcalled ["_law_field_here", "_law_value"] (spCalled K C CF)) (m_called : mg "_law_called" = some (.ref fcalled)) (k_called : PySem.W.keepIn K (.ref fcalled) = true) (b_called : Binds K fdcalled ["_law_field_here", "_law_value"] [])
    (G_divided : FnOk P w K mg base (L2.CX P w) 10 fdivided fddivided ["_law_field_here", "_law_one", "_law_other"] (spDivided K C CF)) (m_divided : mg "_law_divided" = some (.ref fdivided)) (k_divided : PySem.W.keepIn K (.ref fdivided) = true) (b_divided : Binds K fddivided ["_law_field_here", "_law_one", "_law_other"] [])
    (G_right : FnOk P w K mg base CX0 2 fright fdright ["_law_modulus", "_law_top", "_law_bottom", "_law_told"] (spRight C)) (m_right : mg "_law_right" = some (.ref fright)) (k_right : PySem.W.keepIn K (.ref fright) = true) (b_right : Binds K fdright ["_law_modulus", "_law_top", "_law_bottom", "_law_told"] [])
    (G_strange : FnOk P w K mg base CX0 11 fstrange fdstrange ["_law_field_here", "_law_good"] (spStrange CF)) (m_strange : mg "_law_strange" = some (.ref fstrange)) (k_strange : PySem.W.keepIn K (.ref fstrange) = true) (b_strange : Binds K fdstrange ["_law_field_here", "_law_good"] [])
    (Me_num : Meth K CF "number" fnum) (G_num : FnOk P w K mg base (L2.CX P w) 8 fnum fdnum ["self", "value"] (spNum K C CF CNN)) (b_num : Binds K fdnum ["self", "value"] [])
    (Me_over : Meth K CF "over" fover) (G_over : FnOk P w K mg base (L2.CX P w) 9 fover fdover ["self", "one", "other"] (spOver K C CF CNN)) (b_over : Binds K fdover ["self", "one", "other"] [])
    (MF : Mk K CF fF) (G_F : FnOk P w K mg base (L2.CX P w) 2 fF fdF ["self", "prime"] (spFieldInit K CF CNF)) (b_F : Binds K fdF ["self", "prime"] []) (b_F0 : Binds K fdF ["self", "prime"] dsF) (v_F0 : Vals [.int 0] dsF) (b_FK : KBn K fdF ["self", "prime"] 1 ["prime"] gF gP)
    (M : Mk K C fR) (G_R : FnOk P w K mg base (L2.CX P w) 3 fR fdR ["self", "top", "bottom"] (spRatioInit K C CN)) (b_R : Binds K fdR ["self", "top", "bottom"] []) (b_R1 : Binds K fdR ["self", "top", "bottom"] dsR) (v_R1 : Vals [.int 1] dsR)
    (hc : PySem.W.selfFirst K C = true) (O_mul : OwnOp K C fmul (PySem.dunder Operator.Mult.info.2)) (G_mul : FnOk P w K mg base CX0 6 fmul fdmul ["self", "other"] (spR_mul C)) (b_mul : Binds K fdmul ["self", "other"] [])
    (NE_eq : NeOp K C feq) (G_eq : FnOk P w K mg base CX0 2 feq fdeq ["self", "other"] (spR_eq K C)) (b_eq : Binds K fdeq ["self", "other"] []) (nfC : PySem.W.notFirst K C (.ref C) = true) (nf1 : PySem.W.notFirst K C (.type "int") = true)
    (O_feq : OwnOp K CF ffeq "__eq__") (G_feq : FnOk P w K mg base CX0 1 ffeq fdfeq ["self", "other"] (spF_eq K CF)) (b_feq : Binds K fdfeq ["self", "other"] []) (nfF : PySem.W.notFirst K CF (.ref CF) = true) (nfF1 : PySem.W.notFirst K CF (.type "int") = true) : FnOk P w K mg base CX0 12 f fd ["_law_script"] (spLaw K) := by
  refine F.ok sc_law (fun vs H Q E h => ?_) (fun cdv A outer s H vs Q E hr h => ?_)
  · obtain ⟨a, ns, rfl, _⟩ := h
    rfl
  · obtain ⟨sc, ns, rfl, hS, hl, k⟩ := h
    refine ⟨_, (pss_cons (ps_set (i := 1) sc_law.nd rfl (Or.inl rfl) (pe_call G_state (hr.mono (by decide)) rfl m_state k_state b_state .nil pass0 (pa_cons (pv 0) pa_nil)))
      (pss_cons (ps_set (i := 2) sc_law.nd rfl (Or.inl rfl) (pe_op op_sub (pe_call G_draw (hr.mono (by decide)) rfl m_draw k_draw b_draw .nil pass0 (pa_cons (pv 1) (pa_cons pe_int pa_nil))) pe_int))
      (C8.pss_cut (ps_set (i := 3) sc_law.nd rfl (Or.inl rfl) (pe_call G_field (hr.mono (by decide)) rfl m_field k_field b_field .nil passL (pa_cons (pv 2) pa_nil)))
      (C8.pss_cut (ps_if (PW.pt (pw_or (pt_cmpR op_eq (pv 2) pe_int (nomark _)) (pw_or1 (PW.pt (pw_and (pt_chain op_le op_le pe_int (pv 2) pe_int) (pw_and1 (pt_val (pe_call G_lip (hr.mono (by decide)) rfl m_lip k_lip b_lip .nil pass0 (pa_cons (pv 2) pa_nil)))))))))
        (pss_one (ps_if (PW.pt (pw_or (pt_cmpR op_isN (pv 3) pe_non (nomark _)) (pw_or (pt_cmpR op_ne (pe_fld (pv 3) rfl) (pv 2) (nomark _)) (pw_or1 (pt_not (pt_cmpR (op_ownEq O_feq G_feq (hr.mono (by decide)) b_feq pass0) (pv 3) (pe_make MF G_F (hr.mono (by decide)) rfl m_CF b_F .nil passL (pa_cons (pv 2) pa_nil)) (nomark _)))))))
        (pss_one (ps_ret pe_bl))
        pss_nil))
        (pss_one (ps_if (pt_cmpR op_notN (pv 3) pe_non (nomark _))
        (pss_one (ps_ret pe_bl))
        pss_nil)))
      (pss_cons (ps_for PassesOwn.never rfl (pi_list (pe_lst (pa_cons pe_str (pa_cons pe_bl (pa_cons pe_bl (pa_cons pe_non (pa_cons (pe_lst (pa_cons pe_int pa_nil)) (pa_cons (pe_make M G_R (hr.mono (by decide)) rfl m_C b_R1 v_R1 passL (pa_cons pe_int pa_nil)) pa_nil)))))))) (pg_name (i := 4) sc_law.nd rfl (Or.inl rfl)) (pss_one (ps_if (pt_cmpR op_notN (pe_call G_field (hr.mono (by decide)) rfl m_field k_field b_field .nil passL (pa_cons (pv 4) pa_nil)) pe_non (nomark _))
        (pss_one (ps_ret pe_bl))
        pss_nil)))
      (pss_cons (ps_set (i := 5) sc_law.nd rfl (Or.inl rfl) (pe_call G_lpr (hr.mono (by decide)) rfl m_lpr k_lpr b_lpr .nil pass0 (pa_cons (pv 1) pa_nil)))
      (pss_cons (ps_set (i := 6) sc_law.nd rfl (Or.inl rfl) (pe_make MF G_F (hr.mono (by decide)) rfl m_CF b_F .nil passL (pa_cons (pv 5) pa_nil)))
      (pss_cons (ps_par (i := 7) (j := 8) (by rfl) sc_law.nd rfl rfl (by decide) rfl rfl (pa_cons (pe_call G_great (hr.mono (by decide)) rfl m_great k_great b_great .nil pass0 (pa_cons (pv 1) pa_nil)) (pa_cons (pe_call G_great (hr.mono (by decide)) rfl m_great k_great b_great .nil pass0 (pa_cons (pv 1) pa_nil)) pa_nil)) (by rfl))
      (pss_cons (ps_par (i := 9) (j := 10) (by rfl) sc_law.nd rfl rfl (by decide) rfl rfl (pa_cons (pe_call G_great (hr.mono (by decide)) rfl m_great k_great b_great .nil pass0 (pa_cons (pv 1) pa_nil)) (pa_cons (pe_call G_great (hr.mono (by decide)) rfl m_great k_great b_great .nil pass0 (pa_cons (pv 1) pa_nil)) pa_nil)) (by rfl))
      (C8.pss_cut (ps_if (pt_cmpR op_eq (pv 8) pe_int (nomark _))
        (pss_one (ps_set (i := 8) sc_law.nd rfl (Or.inl rfl) pe_int))
        pss_nil)
      (C8.pss_cut (ps_if (pt_cmpR op_eq (pv 10) pe_int (nomark _))
        (pss_one (ps_set (i := 10) sc_law.nd rfl (Or.inl rfl) pe_int))
        pss_nil)
      (pss_cons (ps_set (i := 11) sc_law.nd rfl (Or.inl rfl) (pe_call G_called (hr.mono (by decide)) rfl m_called k_called b_called .nil passL (pa_cons (pv 6) (pa_cons (pe_make M G_R (hr.mono (by decide)) rfl m_C b_R .nil passL (pa_cons (pv 7) (pa_cons (pv 8) pa_nil))) pa_nil))))
      (pss_cons (ps_set (i := 12) sc_law.nd rfl (Or.inl rfl) (pe_call G_called (hr.mono (by decide)) rfl m_called k_called b_called .nil passL (pa_cons (pv 6) (pa_cons (pe_make M G_R (hr.mono (by decide)) rfl m_C b_R .nil passL (pa_cons (pv 9) (pa_cons (pv 10) pa_nil))) pa_nil))))
      (pss_cons (ps_if (PW.pt (pw_or (pt_not (pt_val (pe_call G_right (hr.mono (by decide)) rfl m_right k_right b_right .nil pass0 (pa_cons (pv 5) (pa_cons (pv 7) (pa_cons (pv 8) (pa_cons (pv 11) pa_nil))))))) (pw_or1 (pt_not (pt_val (pe_call G_right (hr.mono (by decide)) rfl m_right k_right b_right .nil pass0 (pa_cons (pv 5) (pa_cons (pv 9) (pa_cons (pv 10) (pa_cons (pv 12) pa_nil))))))))))
        (pss_one (ps_ret pe_bl))
        pss_nil)
      (pss_cons (ps_if (PW.pt (pw_or (pt_not (pt_val (pe_call G_right (hr.mono (by decide)) rfl m_right k_right b_right .nil pass0 (pa_cons (pv 5) (pa_cons (pv 7) (pa_cons pe_int (pa_cons (pe_call G_called (hr.mono (by decide)) rfl m_called k_called b_called .nil passL (pa_cons (pv 6) (pa_cons (pv 7) pa_nil))) pa_nil))))))) (pw_or1 (pt_not (pt_val (pe_call G_strange (hr.mono (by decide)) rfl m_strange k_strange b_strange .nil pass0 (pa_cons (pv 6) (pa_cons (pv 7) pa_nil))))))))
        (pss_one (ps_ret pe_bl))
        pss_nil)
      (C8.pss_cut (ps_if (PW.pt (pw_and (pt_cmpR op_eq (pe_ix ix_tup (pv 11) pe_int (fun _ _ => rfl)) pe_str (nomark _)) (pw_and (pt_cmpR op_eq (pe_ix ix_tup (pv 12) pe_int (fun _ _ => rfl)) pe_str (nomark _)) (pw_and1 (pt_cmpR (op_or op_ne (op_ownNe NE_eq G_eq (hr.mono (by decide)) b_eq pass0)) (pe_ix ix_tup (pv 12) pe_int (fun _ _ => rfl)) pe_int (nomark _))))))
        (pss_cons (ps_set (i := 13) sc_law.nd rfl (Or.inl rfl) (pe_meth (pv 6) TF.cl Me_over G_over (hr.mono (by decide)) b_over .nil passL (pa_cons (pe_make M G_R (hr.mono (by decide)) rfl m_C b_R .nil passL (pa_cons (pv 7) (pa_cons (pv 8) pa_nil))) (pa_cons (pe_make M G_R (hr.mono (by decide)) rfl m_C b_R .nil passL (pa_cons (pv 9) (pa_cons (pv 10) pa_nil))) pa_nil))))
      (pss_one (ps_if (PW.pt (pw_or (pt_cmpR (op_or op_ne (op_ownNe NE_eq G_eq (hr.mono (by decide)) b_eq pass0)) (pe_meth (pv 6) TF.cl Me_num G_num (hr.mono (by decide)) b_num .nil passL (pa_cons (pe_op (op_or op_mul (op_own2 (op := .Mult) hc O_mul G_mul (hr.mono (by decide)) b_mul pass0)) (pv 13) (pe_ix ix_tup (pv 12) pe_int (fun _ _ => rfl))) pa_nil)) (pe_ix ix_tup (pv 11) pe_int (fun _ _ => rfl)) (nomark _)) (pw_or1 (pt_cmpR (op_or op_ne (op_ownNe NE_eq G_eq (hr.mono (by decide)) b_eq pass0)) (pe_meth (pv 6) TF.cl Me_num G_num (hr.mono (by decide)) b_num .nil passL (pa_cons (pv 13) pa_nil)) (pv 13) (nomark _)))))
        (pss_one (ps_ret pe_bl))
        pss_nil)))
        (pss_one (ps_if (pt_cmpR (op_neD hr.units) (pe_call G_divided (hr.mono (by decide)) rfl m_divided k_divided b_divided .nil passL (pa_cons (pv 6) (pa_cons (pe_make M G_R (hr.mono (by decide)) rfl m_C b_R .nil passL (pa_cons (pv 7) (pa_cons (pv 8) pa_nil))) (pa_cons (pe_make M G_R (hr.mono (by decide)) rfl m_C b_R .nil passL (pa_cons (pv 9) (pa_cons (pv 10) pa_nil))) pa_nil)))) (pe_tup (pa_cons pe_str (pa_cons pe_int pa_nil))) (nomark _))
        (pss_one (ps_ret pe_bl))
        pss_nil)))
      (pss_cons (ps_if (PW.pt (pw_or (pt_cmpR op_ne (pe_fld (pe_make0 MF G_F (hr.mono (by decide)) rfl m_CF b_F0 v_F0 passL) rfl) pe_int (nomark _)) (pw_or (pt_not (pt_cmpR (op_ownEq O_feq G_feq (hr.mono (by decide)) b_feq pass0) (pe_make0 MF G_F (hr.mono (by decide)) rfl m_CF b_F0 v_F0 passL) (pe_make MF G_F (hr.mono (by decide)) rfl m_CF b_F .nil passL (pa_cons pe_int pa_nil)) (nomark _))) (pw_or1 (pt_not (pt_cmpR (op_ownEq O_feq G_feq (hr.mono (by decide)) b_feq pass0) (pe_makeK0 MF G_F (hr.mono (by decide)) rfl m_CF b_FK passL (pk_cons (pv 5) pk_nil)) (pv 6) (nomark _)))))))
        (pss_one (ps_ret pe_bl))
        pss_nil)
      (pss_one (ps_ret (pe_and (pe_cmpR op_eq (pe_cmpR (op_ownEq O_feq G_feq (hr.mono (by decide)) b_feq pass0) (pe_make MF G_F (hr.mono (by decide)) rfl m_CF b_F .nil passL (pa_cons pe_int pa_nil)) (pv 6) (nomark _)) (pe_cmpR op_eq (pv 5) pe_int (nomark _)) (nomark _)) (pe_and (pe_cmpR op_eq (pe_cmpR (op_ownEq O_feq G_feq (hr.mono (by decide)) b_feq pass0) (pv 6) (pe_make MF G_F (hr.mono (by decide)) rfl m_CF b_F .nil passL (pa_cons pe_int pa_nil)) (nomark _)) (pe_cmpR op_eq (pv 5) pe_int (nomark _)) (nomark _)) (pe_one (pe_not (pe_cmpR (op_ownEq O_feq G_feq (hr.mono (by decide)) b_feq pass0) (pv 6) (pv 5) (nomark _))))))))))))))))))))))))), ?_⟩
    refine ⟨_, rfl, sc, ns, rfl, hS, hl, fun p H1 _ S1 _ => ?_⟩
    refine ⟨_, rfl, p, 10230, rfl, by decide, by decide, S1, fun v H2 v0 v1 S2 _ => ⟨_, _, rfl, rfl, ?_⟩⟩
    refine ⟨fun σ H' => ∃ m : V, σ = [some (.ref sc), some (.ref p), some (.int (v - 30)), some m, none, none, none, none, none, none, none, none, none, none] ∧ StAt H' p ∧ ((m = .non ∧ goodP (v - 30) = false) ∨ ∃ x, m = .ref x ∧ FldAt CF H' x (v - 30) ∧ goodP (v - 30) = true), ?_, ?_⟩
    · refine ⟨_, rfl, .int (v - 30), rfl, .int _, fun hb H3 s3 => ?_, fun pp e hg x H3 hx s3 => ?_⟩
      · exact ⟨_, rfl, S2.same s3, .inl ⟨rfl, hb _ rfl⟩⟩
      · cases e
        exact ⟨_, rfl, S2.same s3, .inr ⟨x, rfl, hx, hg⟩⟩
    rintro σ H3 ⟨m, rfl, S3, hm⟩
    refine ⟨fun σ H' => ∃ m : V, σ = [some (.ref sc), some (.ref p), some (.int (v - 30)), some m, none, none, none, none, none, none, none, none, none, none] ∧ StAt H' p, ?_, ?_⟩
    · rcases hm with ⟨rfl, bad⟩ | ⟨x, rfl, hx, hg⟩
      · have no : ∀ {D : Prop}, v - 30 ≠ 0 ∧ (2 ≤ v - 30 → v - 30 ≤ 9973 → isP (v - 30).toNat = false) := by
          intro D
          unfold goodP at bad
          simp only [Bool.or_eq_false_iff, decide_eq_false_iff_not] at bad
          refine ⟨bad.1, fun a b => ?_⟩
          have q := bad.2
          simp [a, b] at q
          exact q
        obtain ⟨n0, np⟩ := no (D := True)
        refine ⟨_, rfl, rfl, _, rfl, itDn (by simpa using n0) ?_⟩
        refine ⟨_, rfl, _, _, rfl, rfl, _, rfl, ?_⟩
        by_cases c2 : 2 ≤ v - 30
        · refine itD (by simpa using c2) ⟨_, _, rfl, rfl, _, rfl, ?_⟩
          by_cases c9 : v - 30 ≤ 9973
          · refine itD (by simpa using c9) ?_
            refine ⟨_, rfl, (v - 30).toNat, (by rw [Int.toNat_of_nonneg (by omega)]; rfl), by omega, by omega, _, rfl, ?_⟩
            rw [np c2 c9]
            exact iteF ⟨_, rfl, rfl, _, rfl, itDn (by decide) ⟨_, rfl, S3⟩⟩
          · exact itDn (by simpa using c9) ⟨_, rfl, rfl, _, rfl, itDn (by decide) ⟨_, rfl, S3⟩⟩
        · exact itDn (by simpa using c2) ⟨_, rfl, itDn (by decide) ⟨_, rfl, rfl, _, rfl, itDn (by decide) ⟨_, rfl, S3⟩⟩⟩
      · obtain ⟨dx, hx0⟩ := id hx
        refine ⟨_, rfl, rfl, _, rfl, ?_⟩
        by_cases n0 : v - 30 = 0
        · refine itD (by simpa using n0) ?_
          refine ⟨_, rfl, rfl, _, rfl, itDn (by simp) ?_⟩
          refine ⟨_, rfl, x, CF, dx, _, _, rfl, hx0, TF.cl, TF.nP, pf_prime _, _, rfl, rfl, _, rfl, itDn (by simp) ?_⟩
          refine ⟨_, rfl, _, rfl, fun z dz nz ndz ne => mkF_go hg nz ndz ne fun H5 hz s5 => ⟨rfl, ?_⟩⟩
          refine fEq TF YF nfF (hx.same s5) hz ⟨_, rfl, itDn (by simp) ⟨_, rfl, S3.same s5⟩⟩
        · refine itDn (by simpa using n0) ?_
          obtain ⟨c2, c9, hp⟩ := goodP_pos hg n0
          refine ⟨_, rfl, _, _, rfl, rfl, _, rfl, itD (by simpa using c2) ⟨_, _, rfl, rfl, _, rfl, itD (by simpa using c9) ?_⟩⟩
          refine ⟨_, rfl, (v - 30).toNat, (by rw [Int.toNat_of_nonneg (by omega)]; rfl), by omega, by omega, _, rfl, ?_⟩
          rw [hp]
          refine iteT ?_
          refine ⟨_, rfl, rfl, _, rfl, itDn (by simp) ?_⟩
          refine ⟨_, rfl, x, CF, dx, _, _, rfl, hx0, TF.cl, TF.nP, pf_prime _, _, rfl, rfl, _, rfl, itDn (by simp) ?_⟩
          refine ⟨_, rfl, _, rfl, fun z dz nz ndz ne => mkF_go hg nz ndz ne fun H5 hz s5 => ⟨rfl, ?_⟩⟩
          refine fEq TF YF nfF (hx.same s5) hz ⟨_, rfl, itDn (by simp) ⟨_, rfl, S3.same s5⟩⟩
    rintro σ H4 ⟨m, rfl, S4⟩
    -- the other kinds
    refine ⟨(by show 1 ≤ sizeLine; decide), fun l hl => fun z dz nz ndz ne => mk_go (by decide) (fit_up fit_one) nz ndz ne fun T3 U3 H5 _ R5 s5 => ⟨rfl, (by show 6 ≤ sizeLine; decide), fun ls hls => ⟨ls, rfl, ⟨_, SqL.of upd_same⟩, ?_⟩⟩⟩
    have sl0 := same_new (o := .lst [.str "2", .bl true, .bl false, .non, .ref l, .ref z]) (Same.refl _) hls
    have sl1 := same_new (o := .lst [.int 3]) (Same.refl _) hl
    have SX := (sl1.trans s5).trans sl0
    have e1 := (s5.trans sl0) _ _ upd_same
    have R6 := R5.same sl0
    have eL := upd_same (H := H5) (a := ls) (o := .lst [.str "2", .bl true, .bl false, .non, .ref l, .ref z])
    have S6 := S4.same SX
    generalize upd H5 ls (.lst [.str "2", .bl true, .bl false, .non, .ref l, .ref z]) = HX at *
    have all : ∀ w ∈ ([.str "2", .bl true, .bl false, .non, .ref l, .ref z] : List V), IsTy K HX w ∧ isI w = false := by
      intro w hw
      simp only [List.mem_cons, List.not_mem_nil, or_false] at hw
      rcases hw with rfl | rfl | rfl | rfl | rfl | rfl
      · exact ⟨.str _, rfl⟩
      · exact ⟨.bl _, rfl⟩
      · exact ⟨.bl _, rfl⟩
      · exact ⟨.non, rfl⟩
      · exact ⟨.lst e1, rfl⟩
      · exact ⟨R6.isTy T0 Y, rfl⟩
    refine for_list (xs := [.str "2", .bl true, .bl false, .non, .ref l, .ref z]) (fun i σ H' => ∃ th, σ = [some (.ref sc), some (.ref p), some (.int (v - 30)), some m, th, none, none, none, none, none, none, none, none, none] ∧ Same HX H') ⟨none, rfl, Same.refl _⟩ (fun i σ H' _ h => ?_) ?_ ?_
    · obtain ⟨th, _, s1⟩ := h
      exact SqL.of (s1 _ _ eL)
    · rintro i w σ H7 hi ⟨th, rfl, s7⟩
      obtain ⟨tw, iw⟩ := all w (List.mem_of_getElem? hi)
      refine ⟨_, rfl, w, rfl, tw.same s7, fun _ H8 s8 => ⟨rfl, _, rfl, itDn (by decide) ⟨_, rfl, s7.trans s8⟩⟩, fun p' e => ?_⟩
      rw [e] at iw
      cases iw
    rintro σ H7 ⟨th, rfl, s7⟩
    -- the field
    refine ⟨_, rfl, p, rfl, S6.same s7, fun md H8 gm S8 _ => ?_⟩
    refine ⟨_, rfl, fun fz dfz nz ndz ne => mkF_go gm nz ndz ne fun H9 hf9 s9 => ⟨rfl, ?_⟩⟩
    have S9 := S8.same s9
    refine ⟨_, rfl, p, rfl, S9, fun a H10 Ba S10 B10 => ⟨_, rfl, p, rfl, S10, fun b H11 Bb S11 B11 => ⟨_, _, rfl, ?_⟩⟩⟩
    refine ⟨_, rfl, p, rfl, S11, fun c H12 Bc S12 B12 => ⟨_, rfl, p, rfl, S12, fun d H13 Bd S13 B13 => ⟨_, _, rfl, ?_⟩⟩⟩
    have hf13 := (((hf9.but B10 S9).but B11 S10).but B12 S11).but B13 S12
    refine ⟨fun σ H' => ∃ b' : Int, σ = [some (.ref sc), some (.ref p), some (.int (v - 30)), some m, th, some (.int md), some (.ref fz), some (.int a), some (.int b'), some (.int c), some (.int d), none, none, none] ∧ H13 = H' ∧ b' ≠ 0 ∧ B 120 b', ?_, ?_⟩
    · refine ⟨_, rfl, rfl, _, rfl, ite2 (fun h => ?_) (fun h => ?_)⟩
      · exact ⟨1, rfl, rfl, by decide, B_le (n := 1) (show (1 : Int).natAbs < 2 ^ 1 from by decide) (by decide)⟩
      · exact ⟨b, rfl, rfl, fun e => h (by simp [e]), Bb⟩
    clear Bb b
    rintro σ H' ⟨b, rfl, rfl, b0, Bb⟩
    refine ⟨fun σ H' => ∃ d' : Int, σ = [some (.ref sc), some (.ref p), some (.int (v - 30)), some m, th, some (.int md), some (.ref fz), some (.int a), some (.int b), some (.int c), some (.int d'), none, none, none] ∧ H13 = H' ∧ d' ≠ 0 ∧ B 120 d', ?_, ?_⟩
    · refine ⟨_, rfl, rfl, _, rfl, ite2 (fun h => ?_) (fun h => ?_)⟩
      · exact ⟨1, rfl, rfl, by decide, B_le (n := 1) (show (1 : Int).natAbs < 2 ^ 1 from by decide) (by decide)⟩
      · exact ⟨d, rfl, rfl, fun e => h (by simp [e]), Bd⟩
    clear Bd d
    rintro σ H' ⟨d, rfl, rfl, d0, Bd⟩
    have Fa : Fit a := B_le (n := 120) Ba (by decide)
    have b8 : ∀ {y : Int}, B 120 y → y.natAbs < 2 ^ 8000 := fun h => B_le h (by decide)
    have b4 : ∀ {y : Int}, B 120 y → y.natAbs < 2 ^ 4000 := fun h => B_le h (by decide)
    -- first and second
    refine ⟨_, rfl, _, rfl, _, rfl, fun z1 dz1 nz ndz ne => mk_go b0 (b8 Bb) nz ndz ne fun t u H14 L1 R1 s14 => ⟨rfl, ?_⟩⟩
    have Bt : B 120 t := B_abs Ba L1.lt
    have Bu : B 120 u := B_abs Bb L1.lu
    refine ⟨fz, .ref z1, md, rfl, hf13.same s14, gm, .inr ⟨t, u, .inl ⟨z1, rfl, R1⟩, L1.pos, B_le Bt (by decide), B_le Bu (by decide), fun q1 H15 s15 N1 => ?_⟩⟩
    refine ⟨_, rfl, _, rfl, _, rfl, fun z2 dz2 nz ndz ne => mk_go d0 (b8 Bd) nz ndz ne fun t2 u2 H16 L2 R2 s16 => ⟨rfl, ?_⟩⟩
    have Bt2 : B 120 t2 := B_abs Bc L2.lt
    have Bu2 : B 120 u2 := B_abs Bd L2.lu
    have hf16 := hf13.same ((s14.trans s15).trans s16)
    refine ⟨fz, .ref z2, md, rfl, hf16, gm, .inr ⟨t2, u2, .inl ⟨z2, rfl, R2⟩, L2.pos, B_le Bt2 (by decide), B_le Bu2 (by decide), fun q2 H17 s17 N2 => ?_⟩⟩
    replace N1 := N1.same (s16.trans s17)
    have hf17 := hf16.same s17
    clear s14 s15 s16 s17 hf16 R1 R2
    refine ⟨_, rfl, _, rfl, _, rfl, _, rfl, q1, md, a, b, t, u, rfl, gm, b0, b4 Ba, b4 Bb, L1, N1, fun H18 s18 => ⟨_, rfl, iteF ?_⟩⟩
    refine ⟨_, rfl, _, rfl, _, rfl, _, rfl, q2, md, c, d, t2, u2, rfl, gm, d0, b4 Bc, b4 Bd, L2, N2.same s18, fun H19 s19 => ⟨_, rfl, iteF ?_⟩⟩
    have s19' := s18.trans s19
    refine ⟨_, rfl, _, rfl, _, rfl, _, rfl, fz, .int a, md, rfl, hf17.same s19', gm, .inr ⟨a, 1, .inr ⟨rfl, rfl⟩, by decide, Fa, fit_one, fun q3 H20 s20 N3 => ?_⟩⟩
    refine ⟨q3, md, a, 1, a, 1, rfl, gm, by decide, b4 Ba, b4 (B_le (n := 1) (show (1 : Int).natAbs < 2 ^ 1 from by decide) (by decide)), low_one, N3, fun H21 s21 => ⟨_, rfl, iteF ?_⟩⟩
    have s21' := (s19'.trans s20).trans s21
    refine ⟨_, rfl, _, rfl, fz, a, md, rfl, hf17.same s21', gm, Fa, fun H22 s22 => ⟨_, rfl, iteF ?_⟩⟩
    have hf := hf17.same (s21'.trans s22)
    replace N1 := N1.same (s21'.trans s22)
    replace N2 := N2.same (s21'.trans s22)
    clear s18 s19 s19' s20 s21 s21' s22 hf17 N3 q3
    refine ⟨fun σ H' => ∃ rt : Option V, σ = [some (.ref sc), some (.ref p), some (.int (v - 30)), some m, th, some (.int md), some (.ref fz), some (.int a), some (.int b), some (.int c), some (.int d), some (.ref q1), some (.ref q2), rt] ∧ FldAt CF H' fz md, ?_, ?_⟩
    · obtain ⟨dxf, hfz⟩ := id hf
      rcases N1 with ⟨m0, um, h1⟩ | ⟨m0, z1, h1, R1⟩ | ⟨m0, um, r1, h1, r10, r11, k1, e1⟩
      · refine ⟨_, rfl, q1, _, _, _, rfl, rfl, SqT.of h1, rfl, rfl, _, rfl, itDn (by decide +kernel) ?_⟩
        have rs : (md ≠ 0 ∧ u % md = 0) ∨ ((md = 0 → t2 = 0) ∧ (md ≠ 0 → u2 % md = 0 ∨ t2 % md = 0)) := .inl ⟨m0, um⟩
        refine ⟨_, rfl, _, rfl, _, rfl, fun za dza nz ndz ne => mk_go b0 (b8 Bb) nz ndz ne fun t' u' Ha La Ra sa => ⟨rfl, _, rfl, _, rfl, fun zb dzb nz ndz ne => mk_go d0 (b8 Bd) nz ndz ne fun t2' u2' Hb Lb Rb sb => ⟨rfl, ?_⟩⟩⟩
        obtain ⟨rfl, rfl⟩ := (low_eq b0 b0 L1 La).mpr rfl
        obtain ⟨rfl, rfl⟩ := (low_eq d0 d0 L2 Lb).mpr rfl
        refine ⟨fz, .ref za, .ref zb, md, rfl, hf.same (sa.trans sb), gm, .inr ⟨t, u, .inl ⟨za, rfl, Ra.same sb⟩, L1.pos, B_le Bt (by decide), B_le Bu (by decide), rs.elim .inl fun h => .inr (.inr ⟨t2, u2, .inl ⟨zb, rfl, Rb⟩, L2.pos, L2.cop, B_le Bt2 (by decide), B_le Bu2 (by decide), h.1, h.2⟩)⟩, fun q5 H5 s5 R5 => ⟨(by show 2 ≤ sizeLine; decide), fun q6 hq6 => ?_⟩⟩
        exact ne_ref (R5.same (same_new (Same.refl _) hq6)) upd_same ⟨_, rfl, iteF ⟨_, rfl, hf.same (((sa.trans sb).trans s5).trans (same_new (Same.refl _) hq6))⟩⟩
      · rcases N2 with ⟨m1, _⟩ | ⟨_, z2, h2, R2⟩ | ⟨m1, _⟩
        · exact absurd m0 m1
        · obtain ⟨dz2, hz2⟩ := id R2
          refine ⟨_, rfl, q1, _, _, _, rfl, rfl, SqT.of h1, rfl, rfl, _, rfl, itD (by decide +kernel) ⟨_, rfl, q2, _, _, _, rfl, rfl, SqT.of h2, rfl, rfl, _, rfl, itD (by decide +kernel) ?_⟩⟩
          refine ⟨_, rfl, q2, _, _, _, rfl, rfl, SqT.of h2, rfl, .inr ⟨z2, dz2, _, .type "int", rfl, hz2, .base (.int _), nf1, z2, .int 0, t2, u2, rfl, R2, .inr (.inl ⟨0, rfl, _, rfl, _, rfl, ?_⟩)⟩⟩
          by_cases t20 : t2 = 0
          · have u21 : u2 = 1 := by
              have cop := L2.cop
              have := L2.pos
              rw [t20] at cop
              simp at cop
              omega
            refine itDn (by simp [t20, u21]) ?_
            have rs : (md ≠ 0 ∧ u % md = 0) ∨ ((md = 0 → t2 = 0) ∧ (md ≠ 0 → u2 % md = 0 ∨ t2 % md = 0)) := .inr ⟨fun _ => t20, fun h => absurd m0 h⟩
            refine ⟨_, rfl, _, rfl, _, rfl, fun za dza nz ndz ne => mk_go b0 (b8 Bb) nz ndz ne fun t' u' Ha La Ra sa => ⟨rfl, _, rfl, _, rfl, fun zb dzb nz ndz ne => mk_go d0 (b8 Bd) nz ndz ne fun t2' u2' Hb Lb Rb sb => ⟨rfl, ?_⟩⟩⟩
            obtain ⟨rfl, rfl⟩ := (low_eq b0 b0 L1 La).mpr rfl
            obtain ⟨rfl, rfl⟩ := (low_eq d0 d0 L2 Lb).mpr rfl
            refine ⟨fz, .ref za, .ref zb, md, rfl, hf.same (sa.trans sb), gm, .inr ⟨t, u, .inl ⟨za, rfl, Ra.same sb⟩, L1.pos, B_le Bt (by decide), B_le Bu (by decide), rs.elim .inl fun h => .inr (.inr ⟨t2, u2, .inl ⟨zb, rfl, Rb⟩, L2.pos, L2.cop, B_le Bt2 (by decide), B_le Bu2 (by decide), h.1, h.2⟩)⟩, fun q5 H5 s5 R5 => ⟨(by show 2 ≤ sizeLine; decide), fun q6 hq6 => ?_⟩⟩
            exact ne_ref (R5.same (same_new (Same.refl _) hq6)) upd_same ⟨_, rfl, iteF ⟨_, rfl, hf.same (((sa.trans sb).trans s5).trans (same_new (Same.refl _) hq6))⟩⟩
          · refine itD (by simp [t20]) ?_
            refine ⟨_, rfl, fz, dxf, _, rfl, hfz, pf_no _ (by decide +kernel), _, rfl, _, rfl, fun za dza nz ndz ne => mk_go b0 (b8 Bb) nz ndz ne fun t' u' Ha La Ra sa => ⟨rfl, _, rfl, _, rfl, fun zb dzb nz ndz ne => mk_go d0 (b8 Bd) nz ndz ne fun t2' u2' Hb Lb Rb sb => ⟨rfl, ?_⟩⟩⟩
            obtain ⟨rfl, rfl⟩ := (low_eq b0 b0 L1 La).mpr rfl
            obtain ⟨rfl, rfl⟩ := (low_eq d0 d0 L2 Lb).mpr rfl
            refine ⟨fz, .ref za, .ref zb, md, rfl, hf.same (sa.trans sb), gm, .inr ⟨t, u, .inl ⟨za, rfl, Ra.same sb⟩, L1.pos, B_le Bt (by decide), B_le Bu (by decide), fun h => absurd m0 h, fun _ => .inr ⟨t2, u2, .inl ⟨zb, rfl, Rb⟩, L2.pos, L2.cop, B_le Bt2 (by decide), B_le Bu2 (by decide), fun _ => ⟨fun h => absurd h t20, fun _ zr T U Hr Lr Rr sr => ?_⟩, fun h => absurd m0 h, fun h => absurd m0 h, fun h => absurd m0 h⟩⟩⟩
            have sg := (sa.trans sb).trans sr
            have BT : B 240 T := B_abs (B_mul Bt Bu2) Lr.lt
            have BU : B 240 U := B_abs (B_mul Bu Bt2) Lr.lu
            obtain ⟨dzr, hzr⟩ := id Rr
            refine ⟨_, rfl, fz, dxf, _, rfl, sg _ _ hfz, pf_no _ (by decide +kernel), _, rfl, _, rfl, q2, _, _, _, rfl, rfl, SqT.of (sg _ _ h2), rfl, .inr ⟨zr, z2, dzr, dz2, _, _, rfl, rfl, hzr, sg _ _ hz2, zr, .ref z2, T, U, t2, u2, rfl, Rr, .inl ⟨z2, rfl, R2.same sg⟩, Lr.pos, L2.pos, B_le BT (by decide), B_le BU (by decide), B_le Bt2 (by decide), B_le Bu2 (by decide), fun z3 T3 U3 H3 L3 R3 s3 => ?_⟩⟩
            have BT3 : B 360 T3 := B_abs (B_mul BT Bt2) L3.lt
            have BU3 : B 360 U3 := B_abs (B_mul BU Bu2) L3.lu
            have sg3 := sg.trans s3
            obtain ⟨eT, eU⟩ := back_q L1.pos L1.cop L2.pos t20 Lr L3
            refine ⟨fz, .ref z3, md, rfl, hf.same sg3, gm, .inr ⟨T3, U3, .inl ⟨z3, rfl, R3⟩, L3.pos, B_le BT3 (by decide), B_le BU3 (by decide), fun _ z4 H4 R4 s4 => ?_, fun h => absurd m0 h, fun h => absurd m0 h⟩⟩
            have sg4 := sg3.trans s4
            obtain ⟨dz4, hz4⟩ := id R4
            refine ⟨_, rfl, q1, _, _, _, rfl, rfl, SqT.of (sg4 _ _ h1), rfl, .inr ⟨z4, dz4, _, .ref C, rfl, hz4, (R1.same sg4).ty T0 Y, nfC, z4, .ref z1, T3, U3, rfl, R4, .inl ⟨z1, t, u, rfl, R1.same sg4, _, rfl, _, rfl, itDn (by simp [eT, eU]) ?_⟩⟩⟩
            refine ⟨_, rfl, fz, dxf, _, rfl, sg4 _ _ hfz, pf_no _ (by decide +kernel), _, rfl, fz, .ref zr, md, rfl, hf.same sg4, gm, .inr ⟨T, U, .inl ⟨zr, rfl, Rr.same (s3.trans s4)⟩, Lr.pos, B_le BT (by decide), B_le BU (by decide), fun _ z5 H5 R5 s5 => ?_, fun h => absurd m0 h, fun h => absurd m0 h⟩⟩
            obtain ⟨dz5, hz5⟩ := id R5
            have Rr5 := Rr.same ((s3.trans s4).trans s5)
            exact ⟨_, rfl, .inr ⟨z5, dz5, _, .ref C, rfl, hz5, Rr5.ty T0 Y, nfC, z5, .ref zr, T, U, rfl, R5, .inl ⟨zr, T, U, rfl, Rr5, _, rfl, _, rfl, itDn (by simp) ⟨_, rfl, hf.same (sg4.trans s5)⟩⟩⟩⟩
        · exact absurd m0 m1
      · obtain ⟨c2, c9, hp⟩ := goodP_pos gm m0
        rcases N2 with ⟨_, u2m, h2⟩ | ⟨m1, _⟩ | ⟨_, u2m, r2, h2, r20, r21, k2, e2⟩
        · refine ⟨_, rfl, q1, _, _, _, rfl, rfl, SqT.of h1, rfl, rfl, _, rfl, itD (by decide +kernel) ⟨_, rfl, q2, _, _, _, rfl, rfl, SqT.of h2, rfl, rfl, _, rfl, itDn (by decide +kernel) ?_⟩⟩
          have rs : (md ≠ 0 ∧ u % md = 0) ∨ ((md = 0 → t2 = 0) ∧ (md ≠ 0 → u2 % md = 0 ∨ t2 % md = 0)) := .inr ⟨fun h => absurd h m0, fun _ => .inl u2m⟩
          refine ⟨_, rfl, _, rfl, _, rfl, fun za dza nz ndz ne => mk_go b0 (b8 Bb) nz ndz ne fun t' u' Ha La Ra sa => ⟨rfl, _, rfl, _, rfl, fun zb dzb nz ndz ne => mk_go d0 (b8 Bd) nz ndz ne fun t2' u2' Hb Lb Rb sb => ⟨rfl, ?_⟩⟩⟩
          obtain ⟨rfl, rfl⟩ := (low_eq b0 b0 L1 La).mpr rfl
          obtain ⟨rfl, rfl⟩ := (low_eq d0 d0 L2 Lb).mpr rfl
          refine ⟨fz, .ref za, .ref zb, md, rfl, hf.same (sa.trans sb), gm, .inr ⟨t, u, .inl ⟨za, rfl, Ra.same sb⟩, L1.pos, B_le Bt (by decide), B_le Bu (by decide), rs.elim .inl fun h => .inr (.inr ⟨t2, u2, .inl ⟨zb, rfl, Rb⟩, L2.pos, L2.cop, B_le Bt2 (by decide), B_le Bu2 (by decide), h.1, h.2⟩)⟩, fun q5 H5 s5 R5 => ⟨(by show 2 ≤ sizeLine; decide), fun q6 hq6 => ?_⟩⟩
          exact ne_ref (R5.same (same_new (Same.refl _) hq6)) upd_same ⟨_, rfl, iteF ⟨_, rfl, hf.same (((sa.trans sb).trans s5).trans (same_new (Same.refl _) hq6))⟩⟩
        · exact absurd m1 m0
        · have zm := zero_mod c2 c9 hp u2m r20 r21 e2
          refine ⟨_, rfl, q1, _, _, _, rfl, rfl, SqT.of h1, rfl, rfl, _, rfl, itD (by decide +kernel) ⟨_, rfl, q2, _, _, _, rfl, rfl, SqT.of h2, rfl, rfl, _, rfl, itD (by decide +kernel) ?_⟩⟩
          refine ⟨_, rfl, q2, _, _, _, rfl, rfl, SqT.of h2, rfl, .inl ⟨rfl, _, rfl, ?_⟩⟩
          by_cases z : r2 = 0
          · refine itDn (by simp [z]) ?_
            have rs : (md ≠ 0 ∧ u % md = 0) ∨ ((md = 0 → t2 = 0) ∧ (md ≠ 0 → u2 % md = 0 ∨ t2 % md = 0)) := .inr ⟨fun h => absurd h m0, fun _ => .inr (zm.mp z)⟩
            refine ⟨_, rfl, _, rfl, _, rfl, fun za dza nz ndz ne => mk_go b0 (b8 Bb) nz ndz ne fun t' u' Ha La Ra sa => ⟨rfl, _, rfl, _, rfl, fun zb dzb nz ndz ne => mk_go d0 (b8 Bd) nz ndz ne fun t2' u2' Hb Lb Rb sb => ⟨rfl, ?_⟩⟩⟩
            obtain ⟨rfl, rfl⟩ := (low_eq b0 b0 L1 La).mpr rfl
            obtain ⟨rfl, rfl⟩ := (low_eq d0 d0 L2 Lb).mpr rfl
            refine ⟨fz, .ref za, .ref zb, md, rfl, hf.same (sa.trans sb), gm, .inr ⟨t, u, .inl ⟨za, rfl, Ra.same sb⟩, L1.pos, B_le Bt (by decide), B_le Bu (by decide), rs.elim .inl fun h => .inr (.inr ⟨t2, u2, .inl ⟨zb, rfl, Rb⟩, L2.pos, L2.cop, B_le Bt2 (by decide), B_le Bu2 (by decide), h.1, h.2⟩)⟩, fun q5 H5 s5 R5 => ⟨(by show 2 ≤ sizeLine; decide), fun q6 hq6 => ?_⟩⟩
            exact ne_ref (R5.same (same_new (Same.refl _) hq6)) upd_same ⟨_, rfl, iteF ⟨_, rfl, hf.same (((sa.trans sb).trans s5).trans (same_new (Same.refl _) hq6))⟩⟩
          · refine itD (by simp [z]) ?_
            refine ⟨_, rfl, fz, dxf, _, rfl, hfz, pf_no _ (by decide +kernel), _, rfl, _, rfl, fun za dza nz ndz ne => mk_go b0 (b8 Bb) nz ndz ne fun t' u' Ha La Ra sa => ⟨rfl, _, rfl, _, rfl, fun zb dzb nz ndz ne => mk_go d0 (b8 Bd) nz ndz ne fun t2' u2' Hb Lb Rb sb => ⟨rfl, ?_⟩⟩⟩
            obtain ⟨rfl, rfl⟩ := (low_eq b0 b0 L1 La).mpr rfl
            obtain ⟨rfl, rfl⟩ := (low_eq d0 d0 L2 Lb).mpr rfl
            refine ⟨fz, .ref za, .ref zb, md, rfl, hf.same (sa.trans sb), gm, .inr ⟨t, u, .inl ⟨za, rfl, Ra.same sb⟩, L1.pos, B_le Bt (by decide), B_le Bu (by decide), fun _ h => absurd h um, fun _ => .inr ⟨t2, u2, .inl ⟨zb, rfl, Rb⟩, L2.pos, L2.cop, B_le Bt2 (by decide), B_le Bu2 (by decide), fun h => absurd h m0, fun _ h => absurd h u2m, fun _ _ h => absurd (zm.mpr h) z, fun _ _ _ r Hr r0 rl ⟨kk, hk⟩ sr => ?_⟩⟩⟩
            have sg := (sa.trans sb).trans sr
            have one_m : (1 : Int) % md ≠ 0 := by
              rw [Int.emod_eq_of_lt (by decide) (by omega)]
              decide
            have Br : B 20 r := show r.natAbs < 2 ^ 20 from by omega
            have Br2 : B 20 r2 := show r2.natAbs < 2 ^ 20 from by omega
            have back : (r * r2) % md = r1 := back_mod c2 c9 hp um u2m e1 e2 hk r10 r11
            refine ⟨_, rfl, fz, dxf, _, rfl, sg _ _ hfz, pf_no _ (by decide +kernel), _, rfl, _, rfl, q2, _, _, _, rfl, rfl, SqT.of (sg _ _ h2), rfl, .inl ⟨_, _, rfl, rfl, .inl ⟨by omega, by omega⟩, ?_⟩⟩
            refine ⟨fz, .int (r * r2), md, rfl, hf.same sg, gm, .inr ⟨r * r2, 1, .inr ⟨rfl, rfl⟩, by decide, B_le (B_mul Br Br2) (by decide), fit_up fit_one, fun h => absurd h m0, fun _ h => absurd h one_m, fun _ _ r3 H3 r30 r31 ⟨k3, e3⟩ s3 => ?_⟩⟩
            have er3 : r3 = r1 := by
              rw [← back, ← Int.emod_eq_of_lt r30 r31]
              have : r3 = r * r2 + md * k3 := by rw [Int.mul_comm md]; omega
              rw [this, Int.add_mul_emod_self_left]
            subst er3
            have sg3 := sg.trans s3
            refine ⟨_, rfl, q1, _, _, _, rfl, rfl, SqT.of (sg3 _ _ h1), rfl, .inl ⟨rfl, _, rfl, itDn (by simp) ?_⟩⟩
            refine ⟨_, rfl, fz, dxf, _, rfl, sg3 _ _ hfz, pf_no _ (by decide +kernel), _, rfl, fz, .int r, md, rfl, hf.same sg3, gm, .inr ⟨r, 1, .inr ⟨rfl, rfl⟩, by decide, B_le Br (by decide), fit_up fit_one, fun h => absurd h m0, fun _ h => absurd h one_m, fun _ _ r4 H4 r40 r41 ⟨k4, e4⟩ s4 => ?_⟩⟩
            have er4 : r4 = r := by
              rw [← Int.emod_eq_of_lt r40 r41, ← Int.emod_eq_of_lt r0 rl]
              have : r4 = r + md * k4 := by rw [Int.mul_comm md]; omega
              rw [this, Int.add_mul_emod_self_left]
            subst er4
            exact ⟨_, rfl, .inl ⟨rfl, _, rfl, itDn (by simp) ⟨_, rfl, hf.same (sg3.trans s4)⟩⟩⟩
    rintro σ H23 ⟨rt, rfl, hf23⟩
    refine fun x1 dx1 nz ndz ne => mkF_go (by decide) nz ndz ne fun Ha ha sa => ⟨rfl, ?_⟩
    obtain ⟨dy1, hy1⟩ := id ha
    refine ⟨x1, CF, dy1, _, _, rfl, hy1, TF.cl, TF.nP, pf_prime _, rfl, _, rfl, itDn (by simp) ?_⟩
    refine fun x2 dx2 nz ndz ne => mkF_go (by decide) nz ndz ne fun Hb hb sb => ⟨rfl, fun x3 dx3 nz ndz ne => mkF_go (by decide) nz ndz ne fun Hc hc sc => ⟨rfl, fEq TF YF nfF (hb.same sc) hc ⟨_, rfl, itDn (by simp) ?_⟩⟩⟩
    have s1 := (sa.trans sb).trans sc
    refine ⟨_, rfl, rfl, rfl, fun x4 dx4 nz ndz ne => mkF_go gm nz ndz ne fun Hd hd sd => ⟨rfl, _, rfl, fEq TF YF nfF hd (hf23.same (s1.trans sd)) ⟨_, rfl, itDn (by simp) ?_⟩⟩⟩
    have s2 := s1.trans sd
    refine fun x5 dx5 nz ndz ne => mkF_go (by decide +kernel) nz ndz ne fun He he se => ⟨rfl, _, rfl, fEq TF YF nfF he (hf23.same (s2.trans se)) ⟨_, rfl, rfl, rfl, _, rfl, itD ?_ ?_⟩⟩
    · by_cases e : md = 7
      · simp [e]
      · have e' : ¬ 7 = md := fun h => e h.symm
        simp [e, e']
    have s3 := s2.trans se
    refine ⟨_, rfl, fun x6 dx6 nz ndz ne => mkF_go (by decide) nz ndz ne fun Hg hg sg => ⟨rfl, fEq TF YF nfF (hf23.same (s3.trans sg)) hg ⟨_, rfl, rfl, rfl, _, rfl, itD ?_ ?_⟩⟩⟩
    · by_cases e : md = 0
      · simp [e]
      · simp [e]
    obtain ⟨dxf, hfz⟩ := id (hf23.same (s3.trans sg))
    exact ⟨_, rfl, _, rfl, fz, dxf, _, .type "int", rfl, hfz, .base (.int _), nfF1, fz, .int md, md, rfl, ⟨dxf, hfz⟩, .inr ⟨md, rfl, _, rfl, k _⟩⟩
end
end Sq

namespace Sq
open PySem PySem.Spec PyProof.Rows L2
theorem cls_some {K : PySem.W.Frag} {C : Addr} (h : PySem.W.hasDictIn K C = true) : (PySem.W.clsIn K C).isSome = true := by
  obtain ⟨cd, hc, _⟩ := PySem.W.any_some h
  rw [hc]
  rfl
theorem kit_own {K : PySem.W.Frag} {C : Addr} {t : Value} (h : PySem.W.hasDictIn K C = true) (ht : PySem.W.typeIn K (.ref C) = some (.type "type")) (hs : PySem.W.subIn K t (.ref C) = some true) : PySem.W.kitOne K t (.ref C) = some true := by
  unfold PySem.W.kitOne
  split
  · rfl
  · show (if ((PySem.W.clsIn K C).isSome && PySem.W.typeIn K (.ref C) == some (.type "type")) = true then PySem.W.subIn K t (.ref C) else none) = some true
    rw [cls_some h, ht]
    simpa using hs
theorem kit_tyo {K : PySem.W.Frag} {C : Addr} {T : String} {b : Bool} (h : PySem.W.hasDictIn K C = true) (ht : PySem.W.typeIn K (.ref C) = some (.type "type")) (hs : PySem.W.subIn K (.type T) (.ref C) = some b) : PySem.W.kitOne K (.type T) (.ref C) = some b := by
  unfold PySem.W.kitOne
  rw [if_neg (by simp)]
  show (if ((PySem.W.clsIn K C).isSome && PySem.W.typeIn K (.ref C) == some (.type "type")) = true then PySem.W.subIn K (.type T) (.ref C) else none) = some b
  rw [cls_some h, ht]
  simpa using hs
theorem kit_ty2 {K : PySem.W.Frag} {C : Addr} {T : String} {b : Bool} (hm : PySem.W.kitMeta T = true) (hs : PySem.W.subIn K (.ref C) (.type T) = some b) : PySem.W.kitOne K (.ref C) (.type T) = some b := by
  unfold PySem.W.kitOne
  rw [if_neg (by simp)]
  show (if PySem.W.kitMeta T = true then PySem.W.subIn K (.ref C) (.type T) else none) = some b
  rw [if_pos hm]
  exact hs
theorem ns_ok {K : PySem.W.Frag} {N : Addr} {oc : Value} {od : Option Addr} {es : Array DictEntry} {n : Nat} {sl : Array (Option Value)} (h : K.lookup N = some ⟨oc, od, .dict es n, sl⟩) (e : (es.toList.all fun e => match e.key with | .str _ _ => true | _ => false) = true) : PySem.W.nsOkIn K N = true := by
  unfold PySem.W.nsOkIn
  rw [h]
  rw [Array.all_toList] at e
  exact e
theorem tail0 {K : PySem.W.Frag} : PySem.W.tailIn K [.type "ValueError", .type "Exception", .type "BaseException", .type "object"] [.type "ValueError", .type "Exception", .type "BaseException", .type "object"] = true := by
  unfold PySem.W.tailIn
  simp
theorem tail1 {K : PySem.W.Frag} {C : Addr} {nm q : Str} {N : Addr} {bs bm : List Value} {sn : List Str} {sub : List Value} {ab : Bool} {col : Option Bool} {dd : Option Addr} {k0 k1 k2 k3 k5 : Option Value} {nw : String} (h : K.lookup C = some (excClassObj nm q C N bs bm true sn sub ab col dd k0 k1 k2 k3 k5 nw)) (ok : PySem.W.nsOkIn K N = true) (ni : PySem.W.nsIn K N "__init__" = some none) :
    PySem.W.tailIn K [.type "ValueError", .type "Exception", .type "BaseException", .type "object"] [.ref C, .type "ValueError", .type "Exception", .type "BaseException", .type "object"] = true := by
  unfold PySem.W.tailIn
  dsimp only
  rw [h]
  show (_ || (PySem.W.nsOkIn K N && PySem.W.nsIn K N "__init__" == some none && PySem.W.tailIn K _ _)) = true
  rw [ok, ni, tail0]
  simp
theorem exc_in {K : PySem.W.Frag} {C : Addr} {nm q : Str} {N : Addr} {bs bm bmB : List Value} {sn : List Str} {sub : List Value} {ab : Bool} {col : Option Bool} {dd : Option Addr} {k0 k1 k2 k3 k5 : Option Value} {nw : String} (h : K.lookup C = some (excClassObj nm q C N bs bm true sn sub ab col dd k0 k1 k2 k3 k5 nw)) (ok : PySem.W.nsOkIn K N = true) (ni : PySem.W.nsIn K N "__init__" = some none) (tl : PySem.W.tailIn K bmB bm = true) :
    PySem.W.excIn K C bmB nw = true := by
  unfold PySem.W.excIn
  rw [h]
  show (C == C && nw == nw && !false && PySem.W.tailIn K bmB bm && PySem.W.nsOkIn K N && PySem.W.nsIn K N "__init__" == some none) = true
  rw [tl, ok, ni]
  simp
theorem all_mk {P : Program} {w : World} {K : PySem.W.Frag} {h : Heap} {mg : Str → Option Value} {fa : Addr} (X : K.In h) (G : h.Ns mainGlobals mg) (hfa : mg "law" = some (.ref fa))
    {CS CN fNI NaN fII CR fRI dRI fstate fdraw fgcd flisint fgreat fisnum fasr feq fmul fover fisp finv CF fFI dFI ffeq ffnum ffover flip flpr ffield fcalled fdivided fright fstrange fla CNF NaNF CNN NaNN NaS : Addr} {odNI anNI ddN odII anII odRI anRI oe1RI odstate anstate oddraw andraw odgcd angcd odlisint anlisint odgreat angreat odisnum anisnum odasr anasr odeq aneq odmul anmul odover anover odisp anisp odinv aninv odFI anFI oe1FI odfeq anfeq odfnum anfnum odfover anfover odlip anlip odlpr anlpr odfield anfield odcalled ancalled oddivided andivided odright anright odstrange anstrange odla anla ddNF ddNN ddS ndS ndNF ndNN : Option Addr} {slNI slII slRI skRI slstate sldraw slgcd sllisint slgreat slisnum slasr sleq slmul slover slisp slinv slFI skFI slfeq slfnum slfover sllip sllpr slfield slcalled sldivided slright slstrange slla nsS nsNF nsNN : Array (Option Value)} {ocNI kVNI dcNI pmNI cdNI ctNI ocII kVII dcII pmII cdII ctII ocRI kVRI dcRI pmRI cdRI ctRI oeRI ocstate kVstate dcstate pmstate cdstate ctstate ocdraw kVdraw dcdraw pmdraw cddraw ctdraw ocgcd kVgcd dcgcd pmgcd cdgcd ctgcd oclisint kVlisint dclisint pmlisint cdlisint ctlisint ocgreat kVgreat dcgreat pmgreat cdgreat ctgreat ocisnum kVisnum dcisnum pmisnum cdisnum ctisnum ocasr kVasr dcasr pmasr cdasr ctasr oceq kVeq dceq pmeq cdeq cteq ocmul kVmul dcmul pmmul cdmul ctmul ocover kVover dcover pmover cdover ctover ocisp kVisp dcisp pmisp cdisp ctisp ocinv kVinv dcinv pminv cdinv ctinv ocFI kVFI dcFI pmFI cdFI ctFI oeFI ocfeq kVfeq dcfeq pmfeq cdfeq ctfeq ocfnum kVfnum dcfnum pmfnum cdfnum ctfnum ocfover kVfover dcfover pmfover cdfover ctfover oclip kVlip dclip pmlip cdlip ctlip oclpr kVlpr dclpr pmlpr cdlpr ctlpr ocfield kVfield dcfield pmfield cdfield ctfield occalled kVcalled dccalled pmcalled cdcalled ctcalled ocdivided kVdivided dcdivided pmdivided cddivided ctdivided ocright kVright dcright pmright cdright ctright ocstrange kVstrange dcstrange pmstrange cdstrange ctstrange ocla kVla dcla pmla cdla ctla ncS ncNF ncNN : Value} {nRI nFI npS npNF npNN : Nat} {tkRI tkFI tkGP : Tok} {nmN qN nmNF qNF nmNN qNN nmS qS : Str} {bsN subN bsNF subNF bsNN subNN bsS subS : List Value} {snN snNF snNN snS : List Str} {abN abNF abNN abS : Bool} {colN colNF colNN colS : Option Bool} {m0N m1N m2N m3N m5N m0NF m1NF m2NF m3NF m5NF m0NN m1NN m2NN m3NN m5NN m0S m1S m2S m3S m5S : Option Value} {neS neNF neNN : Array DictEntry}
    (aS : PySem.W.nsIn K mainGlobals "SeriesError" = some (some (.ref CS)))
    (x3S : PySem.W.typeIn K (.ref CS) = some (.type "type"))
    (y8S : PySem.W.hasDictIn K CS = true)
    (aN : PySem.W.nsIn K mainGlobals "NoRatio" = some (some (.ref CN)))
    (x3N : PySem.W.typeIn K (.ref CN) = some (.type "type"))
    (y8N : PySem.W.hasDictIn K CN = true)
    (aNI : PySem.W.findIn K (.ref CN) "__init__" = some (some (.ref fNI)))
    (lNI : K.lookup fNI = some ⟨ocNI, odNI, .func (PySem.W.fnOf "__init__" "NoRatio.__init__" (defArgs s_noRatioInit) (defBody s_noRatioInit) (defScope s_noRatioInit) .none kVNI dcNI pmNI anNI cdNI ctNI), slNI⟩)
    (cNI : PySem.W.codeIn K cdNI "NoRatio.__init__" = true)
    (kNI : PySem.W.keepIn K (.ref fNI) = true)
    (iNI : PySem.W.isFn K (.ref fNI) = true)
    (y5 : PySem.W.specialIn K (.builtin "object.__class__") "__get__" = some (some (.builtin "getset_descriptor.__get__")))
    (y6 : PySem.W.takesIn K (.builtin "object.__class__") = some true)
    (xLN : K.lookup CN = some (excClassObj nmN qN CN NaN bsN [.ref CS, .type "ValueError", .type "Exception", .type "BaseException", .type "object"] true snN subN abN colN ddN m0N m1N m2N m3N m5N "ValueError.__new__"))
    (x1N : PySem.W.findIn K (.ref CN) "__setattr__" = some (some (.builtin "object.__setattr__")))
    (x2N : PySem.W.subIn K (.ref CN) (.type "BaseException") = some true)
    (x4N : PySem.W.keepIn K (.ref CN) = true)
    (x5N : PySem.W.findIn K (.ref CN) "word" = some none)
    (x6N : PySem.W.typeIn K (.ref fNI) = some (.type "function"))
    (x7N : PySem.W.subIn K (.ref CN) (.ref CN) = some true)
    (x8N : PySem.W.subIn K (.ref CN) (.ref CS) = some true)
    (x9N : PySem.W.subIn K (.ref CN) (.type "ValueError") = some true)
    (y2N : PySem.W.findIn K (.ref CN) "__getattribute__" = some (some (.builtin "BaseException.__getattribute__")))
    (y3N : PySem.W.findIn K (.ref CN) "__getattr__" = some none)
    (y4N : PySem.W.findIn K (.ref CN) "__class__" = some (some (.builtin "object.__class__")))
    (y7N : PySem.W.mroIn K CN (.type "object") = some true)
    (aII : PySem.W.nsIn K mainGlobals "is_an_integer" = some (some (.ref fII)))
    (lII : K.lookup fII = some ⟨ocII, odII, .func (PySem.W.fnOf "is_an_integer" "is_an_integer" (defArgs s_isint) (defBody s_isint) (defScope s_isint) .none kVII dcII pmII anII cdII ctII), slII⟩)
    (cII : PySem.W.codeIn K cdII "is_an_integer" = true)
    (kII : PySem.W.keepIn K (.ref fII) = true)
    (aR : PySem.W.nsIn K mainGlobals "Ratio" = some (some (.ref CR)))
    (pgR : PySem.W.plainGet K CR Str.empty = true)
    (hdR : PySem.W.hasDictIn K CR = true)
    (poR : PySem.W.plainOver K CR = true)
    (saR : PySem.W.findIn K (.ref CR) "__setattr__" = some (some (.builtin "object.__setattr__")))
    (mkR : PySem.W.makesIn K CR = true)
    (kcR : PySem.W.keepIn K (.ref CR) = true)
    (nR_top : PySem.W.findIn K (.ref CR) "top" = some none)
    (nR_bottom : PySem.W.findIn K (.ref CR) "bottom" = some none)
    (q1R : PySem.W.findIn K (.ref CR) "__class__" = some (some (.builtin "object.__class__")))
    (q2R : PySem.W.mroIn K CR (.type "object") = some true)
    (q3R : PySem.W.typeIn K (.ref CR) = some (.type "type"))
    (aRI : PySem.W.findIn K (.ref CR) "__init__" = some (some (.ref fRI)))
    (lRI : K.lookup fRI = some ⟨ocRI, odRI, .func (PySem.W.fnOf "__init__" "Ratio.__init__" (defArgs s_ratioInit) (defBody s_ratioInit) (defScope s_ratioInit) (.ref dRI) kVRI dcRI pmRI anRI cdRI ctRI), slRI⟩)
    (cRI : PySem.W.codeIn K cdRI "Ratio.__init__" = true)
    (kRI : PySem.W.keepIn K (.ref fRI) = true)
    (iRI : PySem.W.isFn K (.ref fRI) = true)
    (eRI : K.lookup dRI = some ⟨oeRI, oe1RI, .seq #[Value.int 1 tkRI] nRI, skRI⟩)
    (w3 : PySem.W.subIn K (.ref CR) (.type "int") = some false)
    (w4 : PySem.W.subIn K (.ref CR) (.type "bool") = some false)
    (g_gcd : PySem.W.nsIn K mainGlobals "gcd" = some (some (.builtin "math.gcd")))
    (z_len : PySem.W.nsIn K mainGlobals "len" = some none)
    (z_abs : PySem.W.nsIn K mainGlobals "abs" = some none)
    (z_int : PySem.W.nsIn K mainGlobals "int" = some none)
    (z_range : PySem.W.nsIn K mainGlobals "range" = some none)
    (z_isinstance : PySem.W.nsIn K mainGlobals "isinstance" = some none)
    (z_bool : PySem.W.nsIn K mainGlobals "bool" = some none)
    (astate : PySem.W.nsIn K mainGlobals "_law_state" = some (some (.ref fstate)))
    (lstate : K.lookup fstate = some ⟨ocstate, odstate, .func (PySem.W.fnOf "_law_state" "_law_state" (defArgs s_state) (defBody s_state) (defScope s_state) .none kVstate dcstate pmstate anstate cdstate ctstate), slstate⟩)
    (cstate : PySem.W.codeIn K cdstate "_law_state" = true)
    (kstate : PySem.W.keepIn K (.ref fstate) = true)
    (adraw : PySem.W.nsIn K mainGlobals "_law_draw" = some (some (.ref fdraw)))
    (ldraw : K.lookup fdraw = some ⟨ocdraw, oddraw, .func (PySem.W.fnOf "_law_draw" "_law_draw" (defArgs s_draw) (defBody s_draw) (defScope s_draw) .none kVdraw dcdraw pmdraw andraw cddraw ctdraw), sldraw⟩)
    (cdraw : PySem.W.codeIn K cddraw "_law_draw" = true)
    (kdraw : PySem.W.keepIn K (.ref fdraw) = true)
    (agcd : PySem.W.nsIn K mainGlobals "_law_gcd" = some (some (.ref fgcd)))
    (lgcd : K.lookup fgcd = some ⟨ocgcd, odgcd, .func (PySem.W.fnOf "_law_gcd" "_law_gcd" (defArgs s_gcd) (defBody s_gcd) (defScope s_gcd) .none kVgcd dcgcd pmgcd angcd cdgcd ctgcd), slgcd⟩)
    (cgcd : PySem.W.codeIn K cdgcd "_law_gcd" = true)
    (kgcd : PySem.W.keepIn K (.ref fgcd) = true)
    (alisint : PySem.W.nsIn K mainGlobals "_law_is_integer" = some (some (.ref flisint)))
    (llisint : K.lookup flisint = some ⟨oclisint, odlisint, .func (PySem.W.fnOf "_law_is_integer" "_law_is_integer" (defArgs s_lisint) (defBody s_lisint) (defScope s_lisint) .none kVlisint dclisint pmlisint anlisint cdlisint ctlisint), sllisint⟩)
    (clisint : PySem.W.codeIn K cdlisint "_law_is_integer" = true)
    (klisint : PySem.W.keepIn K (.ref flisint) = true)
    (agreat : PySem.W.nsIn K mainGlobals "_law_great" = some (some (.ref fgreat)))
    (lgreat : K.lookup fgreat = some ⟨ocgreat, odgreat, .func (PySem.W.fnOf "_law_great" "_law_great" (defArgs s_great) (defBody s_great) (defScope s_great) .none kVgreat dcgreat pmgreat angreat cdgreat ctgreat), slgreat⟩)
    (cgreat : PySem.W.codeIn K cdgreat "_law_great" = true)
    (kgreat : PySem.W.keepIn K (.ref fgreat) = true)
    (aisnum : PySem.W.nsIn K mainGlobals "is_number" = some (some (.ref fisnum)))
    (lisnum : K.lookup fisnum = some ⟨ocisnum, odisnum, .func (PySem.W.fnOf "is_number" "is_number" (defArgs s_isnum) (defBody s_isnum) (defScope s_isnum) .none kVisnum dcisnum pmisnum anisnum cdisnum ctisnum), slisnum⟩)
    (cisnum : PySem.W.codeIn K cdisnum "is_number" = true)
    (kisnum : PySem.W.keepIn K (.ref fisnum) = true)
    (aasr : PySem.W.nsIn K mainGlobals "as_ratio" = some (some (.ref fasr)))
    (lasr : K.lookup fasr = some ⟨ocasr, odasr, .func (PySem.W.fnOf "as_ratio" "as_ratio" (defArgs s_asratio) (defBody s_asratio) (defScope s_asratio) .none kVasr dcasr pmasr anasr cdasr ctasr), slasr⟩)
    (casr : PySem.W.codeIn K cdasr "as_ratio" = true)
    (kasr : PySem.W.keepIn K (.ref fasr) = true)
    (aeq : PySem.W.findIn K (.ref CR) "__eq__" = some (some (.ref feq)))
    (leq : K.lookup feq = some ⟨oceq, odeq, .func (PySem.W.fnOf "__eq__" "Ratio.__eq__" (defArgs s_req) (defBody s_req) (defScope s_req) .none kVeq dceq pmeq aneq cdeq cteq), sleq⟩)
    (ceq : PySem.W.codeIn K cdeq "Ratio.__eq__" = true)
    (keq : PySem.W.keepIn K (.ref feq) = true)
    (ieq : PySem.W.isFn K (.ref feq) = true)
    (amul : PySem.W.findIn K (.ref CR) "__mul__" = some (some (.ref fmul)))
    (lmul : K.lookup fmul = some ⟨ocmul, odmul, .func (PySem.W.fnOf "__mul__" "Ratio.__mul__" (defArgs s_rmul) (defBody s_rmul) (defScope s_rmul) .none kVmul dcmul pmmul anmul cdmul ctmul), slmul⟩)
    (cmul : PySem.W.codeIn K cdmul "Ratio.__mul__" = true)
    (kmul : PySem.W.keepIn K (.ref fmul) = true)
    (imul : PySem.W.isFn K (.ref fmul) = true)
    (aover : PySem.W.findIn K (.ref CR) "over" = some (some (.ref fover)))
    (lover : K.lookup fover = some ⟨ocover, odover, .func (PySem.W.fnOf "over" "Ratio.over" (defArgs s_rover) (defBody s_rover) (defScope s_rover) .none kVover dcover pmover anover cdover ctover), slover⟩)
    (cover : PySem.W.codeIn K cdover "Ratio.over" = true)
    (kover : PySem.W.keepIn K (.ref fover) = true)
    (iover : PySem.W.isFn K (.ref fover) = true)
    (neR : PySem.W.findIn K (.ref CR) "__ne__" = some (some (.builtin "object.__ne__")))
    (aisp : PySem.W.nsIn K mainGlobals "_is_prime" = some (some (.ref fisp)))
    (lisp : K.lookup fisp = some ⟨ocisp, odisp, .func (PySem.W.fnOf "_is_prime" "_is_prime" (defArgs s_isprime) (defBody s_isprime) (defScope s_isprime) .none kVisp dcisp pmisp anisp cdisp ctisp), slisp⟩)
    (cisp : PySem.W.codeIn K cdisp "_is_prime" = true)
    (kisp : PySem.W.keepIn K (.ref fisp) = true)
    (ainv : PySem.W.nsIn K mainGlobals "_inverse" = some (some (.ref finv)))
    (linv : K.lookup finv = some ⟨ocinv, odinv, .func (PySem.W.fnOf "_inverse" "_inverse" (defArgs s_inverse) (defBody s_inverse) (defScope s_inverse) .none kVinv dcinv pminv aninv cdinv ctinv), slinv⟩)
    (cinv : PySem.W.codeIn K cdinv "_inverse" = true)
    (kinv : PySem.W.keepIn K (.ref finv) = true)
    (aF : PySem.W.nsIn K mainGlobals "Field" = some (some (.ref CF)))
    (pgF : PySem.W.plainGet K CF Str.empty = true)
    (hdF : PySem.W.hasDictIn K CF = true)
    (poF : PySem.W.plainOver K CF = true)
    (saF : PySem.W.findIn K (.ref CF) "__setattr__" = some (some (.builtin "object.__setattr__")))
    (mkF : PySem.W.makesIn K CF = true)
    (kcF : PySem.W.keepIn K (.ref CF) = true)
    (nF_prime : PySem.W.findIn K (.ref CF) "prime" = some none)
    (q1F : PySem.W.findIn K (.ref CF) "__class__" = some (some (.builtin "object.__class__")))
    (q2F : PySem.W.mroIn K CF (.type "object") = some true)
    (q3F : PySem.W.typeIn K (.ref CF) = some (.type "type"))
    (aFI : PySem.W.findIn K (.ref CF) "__init__" = some (some (.ref fFI)))
    (lFI : K.lookup fFI = some ⟨ocFI, odFI, .func (PySem.W.fnOf "__init__" "Field.__init__" (defArgs s_finit) (defBody s_finit) (defScope s_finit) (.ref dFI) kVFI dcFI pmFI anFI cdFI ctFI), slFI⟩)
    (cFI : PySem.W.codeIn K cdFI "Field.__init__" = true)
    (kFI : PySem.W.keepIn K (.ref fFI) = true)
    (iFI : PySem.W.isFn K (.ref fFI) = true)
    (eFI : K.lookup dFI = some ⟨oeFI, oe1FI, .seq #[Value.int 0 tkFI] nFI, skFI⟩)
    (afeq : PySem.W.findIn K (.ref CF) "__eq__" = some (some (.ref ffeq)))
    (lfeq : K.lookup ffeq = some ⟨ocfeq, odfeq, .func (PySem.W.fnOf "__eq__" "Field.__eq__" (defArgs s_feq) (defBody s_feq) (defScope s_feq) .none kVfeq dcfeq pmfeq anfeq cdfeq ctfeq), slfeq⟩)
    (cfeq : PySem.W.codeIn K cdfeq "Field.__eq__" = true)
    (kfeq : PySem.W.keepIn K (.ref ffeq) = true)
    (ifeq : PySem.W.isFn K (.ref ffeq) = true)
    (afnum : PySem.W.findIn K (.ref CF) "number" = some (some (.ref ffnum)))
    (lfnum : K.lookup ffnum = some ⟨ocfnum, odfnum, .func (PySem.W.fnOf "number" "Field.number" (defArgs s_fnum) (defBody s_fnum) (defScope s_fnum) .none kVfnum dcfnum pmfnum anfnum cdfnum ctfnum), slfnum⟩)
    (cfnum : PySem.W.codeIn K cdfnum "Field.number" = true)
    (kfnum : PySem.W.keepIn K (.ref ffnum) = true)
    (ifnum : PySem.W.isFn K (.ref ffnum) = true)
    (afover : PySem.W.findIn K (.ref CF) "over" = some (some (.ref ffover)))
    (lfover : K.lookup ffover = some ⟨ocfover, odfover, .func (PySem.W.fnOf "over" "Field.over" (defArgs s_fover) (defBody s_fover) (defScope s_fover) .none kVfover dcfover pmfover anfover cdfover ctfover), slfover⟩)
    (cfover : PySem.W.codeIn K cdfover "Field.over" = true)
    (kfover : PySem.W.keepIn K (.ref ffover) = true)
    (ifover : PySem.W.isFn K (.ref ffover) = true)
    (alip : PySem.W.nsIn K mainGlobals "_law_is_prime" = some (some (.ref flip)))
    (llip : K.lookup flip = some ⟨oclip, odlip, .func (PySem.W.fnOf "_law_is_prime" "_law_is_prime" (defArgs s_lip) (defBody s_lip) (defScope s_lip) .none kVlip dclip pmlip anlip cdlip ctlip), sllip⟩)
    (clip : PySem.W.codeIn K cdlip "_law_is_prime" = true)
    (klip : PySem.W.keepIn K (.ref flip) = true)
    (alpr : PySem.W.nsIn K mainGlobals "_law_prime" = some (some (.ref flpr)))
    (llpr : K.lookup flpr = some ⟨oclpr, odlpr, .func (PySem.W.fnOf "_law_prime" "_law_prime" (defArgs s_lpr) (defBody s_lpr) (defScope s_lpr) .none kVlpr dclpr pmlpr anlpr cdlpr ctlpr), sllpr⟩)
    (clpr : PySem.W.codeIn K cdlpr "_law_prime" = true)
    (klpr : PySem.W.keepIn K (.ref flpr) = true)
    (afield : PySem.W.nsIn K mainGlobals "_law_field" = some (some (.ref ffield)))
    (lfield : K.lookup ffield = some ⟨ocfield, odfield, .func (PySem.W.fnOf "_law_field" "_law_field" (defArgs s_field) (defBody s_field) (defScope s_field) .none kVfield dcfield pmfield anfield cdfield ctfield), slfield⟩)
    (cfield : PySem.W.codeIn K cdfield "_law_field" = true)
    (kfield : PySem.W.keepIn K (.ref ffield) = true)
    (acalled : PySem.W.nsIn K mainGlobals "_law_called" = some (some (.ref fcalled)))
    (lcalled : K.lookup fcalled = some ⟨occalled, odcalled, .func (PySem.W.fnOf "_law_called" "_law_called" (defArgs s_called) (defBody s_called) (defScope s_called) .none kVcalled dccalled pmcalled ancalled cdcalled ctcalled), slcalled⟩)
    (ccalled : PySem.W.codeIn K cdcalled "_law_called" = true)
    (kcalled : PySem.W.keepIn K (.ref fcalled) = true)
    (adivided : PySem.W.nsIn K mainGlobals "_law_divided" = some (some (.ref fdivided)))
    (ldivided : K.lookup fdivided = some ⟨ocdivided, oddivided, .func (PySem.W.fnOf "_law_divided" "_law_divided" (defArgs s_divided) (defBody s_divided) (defScope s_divided) .none kVdivided dcdivided pmdivided andivided cddivided ctdivided), sldivided⟩)
    (cdivided : PySem.W.codeIn K cddivided "_law_divided" = true)
    (kdivided : PySem.W.keepIn K (.ref fdivided) = true)
    (aright : PySem.W.nsIn K mainGlobals "_law_right" = some (some (.ref fright)))
    (lright : K.lookup fright = some ⟨ocright, odright, .func (PySem.W.fnOf "_law_right" "_law_right" (defArgs s_right) (defBody s_right) (defScope s_right) .none kVright dcright pmright anright cdright ctright), slright⟩)
    (cright : PySem.W.codeIn K cdright "_law_right" = true)
    (kright : PySem.W.keepIn K (.ref fright) = true)
    (astrange : PySem.W.nsIn K mainGlobals "_law_strange" = some (some (.ref fstrange)))
    (lstrange : K.lookup fstrange = some ⟨ocstrange, odstrange, .func (PySem.W.fnOf "_law_strange" "_law_strange" (defArgs s_strange) (defBody s_strange) (defScope s_strange) .none kVstrange dcstrange pmstrange anstrange cdstrange ctstrange), slstrange⟩)
    (cstrange : PySem.W.codeIn K cdstrange "_law_strange" = true)
    (kstrange : PySem.W.keepIn K (.ref fstrange) = true)
    (ala : PySem.W.nsIn K mainGlobals "law" = some (some (.ref fla)))
    (lla : K.lookup fla = some ⟨ocla, odla, .func (PySem.W.fnOf "law" "law" (defArgs s_law) (defBody s_law) (defScope s_law) .none kVla dcla pmla anla cdla ctla), slla⟩)
    (cla : PySem.W.codeIn K cdla "law" = true)
    (kla : PySem.W.keepIn K (.ref fla) = true)
    (w_int : PySem.W.subIn K (.type "int") (.ref CR) = some false)
    (w_str : PySem.W.subIn K (.type "str") (.ref CR) = some false)
    (w_NoneType : PySem.W.subIn K (.type "NoneType") (.ref CR) = some false)
    (w_bool : PySem.W.subIn K (.type "bool") (.ref CR) = some false)
    (w_list : PySem.W.subIn K (.type "list") (.ref CR) = some false)
    (w_tuple : PySem.W.subIn K (.type "tuple") (.ref CR) = some false)
    (w_dict : PySem.W.subIn K (.type "dict") (.ref CR) = some false)
    (wF_int : PySem.W.subIn K (.type "int") (.ref CF) = some false)
    (nf_int : PySem.W.notFirst K CR (.type "int") = true)
    (nfF_int : PySem.W.notFirst K CF (.type "int") = true)
    (sf0 : PySem.W.selfFirst K CR = true)
    (g_isqrt : PySem.W.nsIn K mainGlobals "isqrt" = some (some (.builtin "math.isqrt")))
    (g_GP : PySem.W.nsIn K mainGlobals "GREATEST_PRIME" = some (some (.int 9973 tkGP)))
    (aNF : PySem.W.nsIn K mainGlobals "NoField" = some (some (.ref CNF)))
    (xLNF : K.lookup CNF = some (excClassObj nmNF qNF CNF NaNF bsNF [.ref CS, .type "ValueError", .type "Exception", .type "BaseException", .type "object"] true snNF subNF abNF colNF ddNF m0NF m1NF m2NF m3NF m5NF "ValueError.__new__"))
    (x3NF : PySem.W.typeIn K (.ref CNF) = some (.type "type"))
    (x4NF : PySem.W.keepIn K (.ref CNF) = true)
    (x2NF : PySem.W.subIn K (.ref CNF) (.type "BaseException") = some true)
    (x7NF : PySem.W.subIn K (.ref CNF) (.ref CNF) = some true)
    (y8NF : PySem.W.hasDictIn K CNF = true)
    (aNN : PySem.W.nsIn K mainGlobals "NoNumber" = some (some (.ref CNN)))
    (xLNN : K.lookup CNN = some (excClassObj nmNN qNN CNN NaNN bsNN [.ref CS, .type "ValueError", .type "Exception", .type "BaseException", .type "object"] true snNN subNN abNN colNN ddNN m0NN m1NN m2NN m3NN m5NN "ValueError.__new__"))
    (x3NN : PySem.W.typeIn K (.ref CNN) = some (.type "type"))
    (x4NN : PySem.W.keepIn K (.ref CNN) = true)
    (x2NN : PySem.W.subIn K (.ref CNN) (.type "BaseException") = some true)
    (x7NN : PySem.W.subIn K (.ref CNN) (.ref CNN) = some true)
    (y8NN : PySem.W.hasDictIn K CNN = true)
    (xLS : K.lookup CS = some (excClassObj nmS qS CS NaS bsS [.type "ValueError", .type "Exception", .type "BaseException", .type "object"] true snS subS abS colS ddS m0S m1S m2S m3S m5S "ValueError.__new__"))
    (n1S : K.lookup NaS = some ⟨ncS, ndS, .dict neS npS, nsS⟩)
    (n2S : (neS.toList.all fun e => match e.key with | .str _ _ => true | _ => false) = true)
    (n3S : PySem.W.nsIn K NaS "__init__" = some none)
    (n1NF : K.lookup NaNF = some ⟨ncNF, ndNF, .dict neNF npNF, nsNF⟩)
    (n2NF : (neNF.toList.all fun e => match e.key with | .str _ _ => true | _ => false) = true)
    (n3NF : PySem.W.nsIn K NaNF "__init__" = some none)
    (n1NN : K.lookup NaNN = some ⟨ncNN, ndNN, .dict neNN npNN, nsNN⟩)
    (n2NN : (neNN.toList.all fun e => match e.key with | .str _ _ => true | _ => false) = true)
    (n3NN : PySem.W.nsIn K NaNN "__init__" = some none) :
    ∃ fd : FuncData, (∀ (s : Shared) (v : Value), BindsTo s fd ⟨[v], []⟩ [("_law_script", v)]) ∧ ∀ base : Heap, K.In base → base.Ns mainGlobals mg → FnOk P w K mg base CX0 12 fa fd ["_law_script"] (spLaw K) := by
  have e := hfa.symm.trans (PySem.W.mg_of X G ala)
  cases e
  have m_S : mg "SeriesError" = some (.ref CS) := PySem.W.mg_of X G aS
  have m_N : mg "NoRatio" = some (.ref CN) := PySem.W.mg_of X G aN
  have F_NI := fun_mk (st := s_noRatioInit) lNI cNI kNI
  have b_NI := F_NI.binds (ps := ["self", "word"]) fun _ _ _ _ _ _ us hl => match us, hl with | [_, _], _ => rfl
  have NN : NTx K mg CN fNI := ⟨⟨⟨nmN, qN, NaN, bsN, _, snN, subN, abN, colN, ddN, m0N, m1N, m2N, m3N, m5N, xLN, rfl⟩, x1N, x2N, x3N, x4N⟩, x5N, aNI, x6N⟩
  have teN := PySem.W.exm_ref x2N y8N x3N x7N
  have xfN : XfC K CN := ⟨y2N, y3N, x2N, y8N⟩
  have eiN : EIx K CN := ⟨cls_some y8N, y2N, y3N, x2N, y4N, y5, y6, y7N⟩
  have F_II := fun_mk (st := s_isint) lII cII kII
  have b_II := F_II.binds (ps := ["value"]) fun _ _ _ _ _ _ us hl => match us, hl with | [_], _ => rfl
  have m_II : mg "is_an_integer" = some (.ref fII) := PySem.W.mg_of X G aII
  have m_R : mg "Ratio" = some (.ref CR) := PySem.W.mg_of X G aR
  have F_RI : FunD K "__init__" "Ratio.__init__" (defArgs s_ratioInit) (defBody s_ratioInit) (defScope s_ratioInit) [.int 1] [] fRI _ := ⟨⟨_, _, _, _, _, _, _, _, _, _, rfl, lRI, cRI, .inr ⟨by simp, dRI, _, [Value.int 1 tkRI], nRI, rfl, eRI, rfl, .cons ⟨_, rfl⟩ .nil⟩, .inl rfl⟩, kRI⟩
  have T : CTx K CR := ⟨⟨pgR, hdR, poR, saR⟩, nR_top, nR_bottom⟩
  have Y : ITy K CR := ⟨q1R, y5, y6, q2R, kit_ty2 (by decide +kernel) w3, kit_ty2 (by decide +kernel) w4⟩
  have GT : GTx mg CN := ⟨PySem.W.mg_of X G g_gcd, m_N⟩
  obtain ⟨ds0, v0, b_R⟩ := F_RI.binds1 (ps := ["self", "top", "bottom"]) 3 1 (by simp) rfl fun _ _ _ _ _ _ _ us its hl hi => match us, its, hl, hi with | [_, _, _], [_], _, _ => ⟨_, rfl, rfl⟩
  cases v0
  obtain ⟨ds1, v1, b_R1⟩ := F_RI.binds1 (ps := ["self", "top", "bottom"]) 2 0 (by simp) rfl fun _ _ _ _ _ _ _ us its hl hi => match us, its, hl, hi with | [_, _], [_], _, _ => ⟨_, rfl, rfl⟩
  have M : Mk K CR fRI := ⟨mkR, aRI, iRI, kcR⟩
  have z_len := PySem.W.mg_none_of X G z_len
  have z_abs := PySem.W.mg_none_of X G z_abs
  have z_int := PySem.W.mg_none_of X G z_int
  have z_range := PySem.W.mg_none_of X G z_range
  have z_isinstance := PySem.W.mg_none_of X G z_isinstance
  have z_bool := PySem.W.mg_none_of X G z_bool
  have D : DTx mg := ⟨z_len, z_abs, z_int, z_range⟩
  have I : ITx mg := ⟨z_isinstance, z_int, z_bool⟩
  have F_state := fun_mk (st := s_state) lstate cstate kstate
  have b_state := F_state.binds (ps := ["_law_script"]) fun _ _ _ _ _ _ us hl => match us, hl with | [_], _ => rfl
  have m_state : mg "_law_state" = some (.ref fstate) := PySem.W.mg_of X G astate
  have F_draw := fun_mk (st := s_draw) ldraw cdraw kdraw
  have b_draw := F_draw.binds (ps := ["_law_state_here", "_law_many"]) fun _ _ _ _ _ _ us hl => match us, hl with | [_, _], _ => rfl
  have m_draw : mg "_law_draw" = some (.ref fdraw) := PySem.W.mg_of X G adraw
  have F_gcd := fun_mk (st := s_gcd) lgcd cgcd kgcd
  have b_gcd := F_gcd.binds (ps := ["_law_one", "_law_other"]) fun _ _ _ _ _ _ us hl => match us, hl with | [_, _], _ => rfl
  have m_gcd : mg "_law_gcd" = some (.ref fgcd) := PySem.W.mg_of X G agcd
  have F_lisint := fun_mk (st := s_lisint) llisint clisint klisint
  have b_lisint := F_lisint.binds (ps := ["_law_told"]) fun _ _ _ _ _ _ us hl => match us, hl with | [_], _ => rfl
  have m_lisint : mg "_law_is_integer" = some (.ref flisint) := PySem.W.mg_of X G alisint
  have F_great := fun_mk (st := s_great) lgreat cgreat kgreat
  have b_great := F_great.binds (ps := ["_law_state_here"]) fun _ _ _ _ _ _ us hl => match us, hl with | [_], _ => rfl
  have m_great : mg "_law_great" = some (.ref fgreat) := PySem.W.mg_of X G agreat
  have F_isnum := fun_mk (st := s_isnum) lisnum cisnum kisnum
  have b_isnum := F_isnum.binds (ps := ["value"]) fun _ _ _ _ _ _ us hl => match us, hl with | [_], _ => rfl
  have m_isnum : mg "is_number" = some (.ref fisnum) := PySem.W.mg_of X G aisnum
  have F_asr := fun_mk (st := s_asratio) lasr casr kasr
  have b_asr := F_asr.binds (ps := ["number"]) fun _ _ _ _ _ _ us hl => match us, hl with | [_], _ => rfl
  have m_asr : mg "as_ratio" = some (.ref fasr) := PySem.W.mg_of X G aasr
  have F_eq := fun_mk (st := s_req) leq ceq keq
  have b_eq := F_eq.binds (ps := ["self", "other"]) fun _ _ _ _ _ _ us hl => match us, hl with | [_, _], _ => rfl
  have F_mul := fun_mk (st := s_rmul) lmul cmul kmul
  have b_mul := F_mul.binds (ps := ["self", "other"]) fun _ _ _ _ _ _ us hl => match us, hl with | [_, _], _ => rfl
  have F_over := fun_mk (st := s_rover) lover cover kover
  have b_over := F_over.binds (ps := ["self", "other"]) fun _ _ _ _ _ _ us hl => match us, hl with | [_, _], _ => rfl
  have F_isp := fun_mk (st := s_isprime) lisp cisp kisp
  have b_isp := F_isp.binds (ps := ["count"]) fun _ _ _ _ _ _ us hl => match us, hl with | [_], _ => rfl
  have m_isp : mg "_is_prime" = some (.ref fisp) := PySem.W.mg_of X G aisp
  have F_inv := fun_mk (st := s_inverse) linv cinv kinv
  have b_inv := F_inv.binds (ps := ["number", "prime"]) fun _ _ _ _ _ _ us hl => match us, hl with | [_, _], _ => rfl
  have m_inv : mg "_inverse" = some (.ref finv) := PySem.W.mg_of X G ainv
  have m_F : mg "Field" = some (.ref CF) := PySem.W.mg_of X G aF
  have F_FI : FunD K "__init__" "Field.__init__" (defArgs s_finit) (defBody s_finit) (defScope s_finit) [.int 0] [] fFI _ := ⟨⟨_, _, _, _, _, _, _, _, _, _, rfl, lFI, cFI, .inr ⟨by simp, dFI, _, [Value.int 0 tkFI], nFI, rfl, eFI, rfl, .cons ⟨_, rfl⟩ .nil⟩, .inl rfl⟩, kFI⟩
  have F_feq := fun_mk (st := s_feq) lfeq cfeq kfeq
  have b_feq := F_feq.binds (ps := ["self", "other"]) fun _ _ _ _ _ _ us hl => match us, hl with | [_, _], _ => rfl
  have F_fnum := fun_mk (st := s_fnum) lfnum cfnum kfnum
  have b_fnum := F_fnum.binds (ps := ["self", "value"]) fun _ _ _ _ _ _ us hl => match us, hl with | [_, _], _ => rfl
  have F_fover := fun_mk (st := s_fover) lfover cfover kfover
  have b_fover := F_fover.binds (ps := ["self", "one", "other"]) fun _ _ _ _ _ _ us hl => match us, hl with | [_, _, _], _ => rfl
  have F_lip := fun_mk (st := s_lip) llip clip klip
  have b_lip := F_lip.binds (ps := ["_law_value"]) fun _ _ _ _ _ _ us hl => match us, hl with | [_], _ => rfl
  have m_lip : mg "_law_is_prime" = some (.ref flip) := PySem.W.mg_of X G alip
  have F_lpr := fun_mk (st := s_lpr) llpr clpr klpr
  have b_lpr := F_lpr.binds (ps := ["_law_state_here"]) fun _ _ _ _ _ _ us hl => match us, hl with | [_], _ => rfl
  have m_lpr : mg "_law_prime" = some (.ref flpr) := PySem.W.mg_of X G alpr
  have F_field := fun_mk (st := s_field) lfield cfield kfield
  have b_field := F_field.binds (ps := ["_law_value"]) fun _ _ _ _ _ _ us hl => match us, hl with | [_], _ => rfl
  have m_field : mg "_law_field" = some (.ref ffield) := PySem.W.mg_of X G afield
  have F_called := fun_mk (st := s_called) lcalled ccalled kcalled
  have b_called := F_called.binds (ps := ["_law_field_here", "_law_value"]) fun _ _ _ _ _ _ us hl => match us, hl with | [_, _], _ => rfl
  have m_called : mg "_law_called" = some (.ref fcalled) := PySem.W.mg_of X G acalled
  have F_divided := fun_mk (st := s_divided) ldivided cdivided kdivided
  have b_divided := F_divided.binds (ps := ["_law_field_here", "_law_one", "_law_other"]) fun _ _ _ _ _ _ us hl => match us, hl with | [_, _, _], _ => rfl
  have m_divided : mg "_law_divided" = some (.ref fdivided) := PySem.W.mg_of X G adivided
  have F_right := fun_mk (st := s_right) lright cright kright
  have b_right := F_right.binds (ps := ["_law_modulus", "_law_top", "_law_bottom", "_law_told"]) fun _ _ _ _ _ _ us hl => match us, hl with | [_, _, _, _], _ => rfl
  have m_right : mg "_law_right" = some (.ref fright) := PySem.W.mg_of X G aright
  have F_strange := fun_mk (st := s_strange) lstrange cstrange kstrange
  have b_strange := F_strange.binds (ps := ["_law_field_here", "_law_good"]) fun _ _ _ _ _ _ us hl => match us, hl with | [_, _], _ => rfl
  have m_strange : mg "_law_strange" = some (.ref fstrange) := PySem.W.mg_of X G astrange
  have F_la := fun_mk (st := s_law) lla cla kla
  have b_la := F_la.binds (ps := ["_law_script"]) fun _ _ _ _ _ _ us hl => match us, hl with | [_], _ => rfl
  have m_NF : mg "NoField" = some (.ref CNF) := PySem.W.mg_of X G aNF
  have m_NN : mg "NoNumber" = some (.ref CNN) := PySem.W.mg_of X G aNN
  have RNNF : RNx K mg "NoField" CNF := ⟨exc_in xLNF (ns_ok n1NF n2NF) n3NF (tail1 xLS (ns_ok n1S n2S) n3S), m_NF, x4NF, x2NF, x3NF⟩
  have teNF := PySem.W.exm_ref x2NF y8NF x3NF x7NF
  have RNNN : RNx K mg "NoNumber" CNN := ⟨exc_in xLNN (ns_ok n1NN n2NN) n3NN (tail1 xLS (ns_ok n1S n2S) n3S), m_NN, x4NN, x2NN, x3NN⟩
  have teNN := PySem.W.exm_ref x2NN y8NN x3NN x7NN
  have Z : KZx K CR := ⟨kit_tyo hdR q3R w_int, kit_tyo hdR q3R w_str, kit_tyo hdR q3R w_NoneType⟩
  have Z2 : KZ2 K CR := ⟨kit_tyo hdR q3R w_bool, kit_tyo hdR q3R w_list, kit_tyo hdR q3R w_tuple, kit_tyo hdR q3R w_dict⟩
  have d_mul : PySem.dunder Operator.Mult.info.2 = ("__mul__" : Str) := by decide +kernel
  have O_mul : OwnOp K CR fmul (PySem.dunder Operator.Mult.info.2) := ⟨by rw [d_mul]; exact amul, imul⟩
  have NEq : NeOp K CR feq := ⟨aeq, ieq, neR, q2R⟩
  have TF : FTx K CF := ⟨⟨pgF, hdF, poF, saF⟩, nF_prime⟩
  have YF : IFy K CF := ⟨q1F, y5, y6, q2F, kit_tyo hdF q3F wF_int⟩
  have MF : Mk K CF fFI := ⟨mkF, aFI, iFI, kcF⟩
  have RT : RTx mg := ⟨PySem.W.mg_of X G g_isqrt, z_range⟩
  have GP : mg "GREATEST_PRIME" = some (.int 9973 tkGP) := PySem.W.mg_of X G g_GP
  obtain ⟨ds2, v2, b_F⟩ := F_FI.binds1 (ps := ["self", "prime"]) 2 1 (by simp) rfl fun _ _ _ _ _ _ _ us its hl hi => match us, its, hl, hi with | [_, _], [_], _, _ => ⟨_, rfl, rfl⟩
  cases v2
  obtain ⟨ds3, v3, b_F0⟩ := F_FI.binds1 (ps := ["self", "prime"]) 1 0 (by simp) rfl fun _ _ _ _ _ _ _ us its hl hi => match us, its, hl, hi with | [_], [_], _, _ => ⟨_, rfl, rfl⟩
  obtain ⟨its, b_FK⟩ := F_FI.kbindsD (ps := ["self", "prime"]) 1 ["prime"] (fun us _ ws => gP us ws) (by simp) (fun r1 _ r2 => by
      cases r2 with
      | nil => exact r1
      | cons a r2 =>
        cases r2 with
        | nil => exact Vals.append r1 (.cons a .nil)
        | cons b r2 => exact r1)
    fun _ _ _ _ _ _ _ us its ws h1 h2 h3 => match us, its, ws, h1, h2, h3 with | [_], [_], [_], _, _, _ => ⟨_, rfl, rfl⟩
  refine ⟨PySem.W.fnOf "law" "law" (defArgs s_law) (defBody s_law) (defScope s_law) .none kVla dcla pmla anla cdla ctla, fun s v => .of_eq rfl, fun base _ _ => ?_⟩
  have G_NI := ok_noRatioInit (P := P) (w := w) (mg := mg) (base := base) F_NI NN
  have G_II := ok_isint (P := P) (w := w) (base := base) F_II I
  have G_R := ok_ratioInit (P := P) (w := w) (base := base) F_RI T NN GT G_NI b_NI G_II m_II kII b_II
  have G_draw := ok_draw (P := P) (w := w) (base := base) F_draw D
  have G_state := ok_state (P := P) (w := w) (base := base) F_state D
  have G_gcd := ok_gcd (P := P) (w := w) (base := base) F_gcd D
  have G_lisint := ok_lisint (P := P) (w := w) (base := base) F_lisint I
  have G_great := ok_great (P := P) (w := w) (base := base) F_great D G_draw m_draw kdraw b_draw
  have G_isnum := ok_isnum (P := P) (w := w) (base := base) F_isnum I m_R G_II m_II kII b_II
  have G_asr := ok_asratio (P := P) (w := w) (base := base) F_asr T Y Z I m_R M G_R b_R1 v1
  have G_mul := ok_rmul (P := P) (w := w) (base := base) F_mul T Y Z m_R M G_R b_R G_isnum m_isnum kisnum b_isnum G_asr m_asr kasr b_asr
  have G_over := ok_rover (P := P) (w := w) (base := base) F_over T Y Z m_R M G_R b_R G_asr m_asr kasr b_asr
  have G_eq := ok_req (P := P) (w := w) (base := base) F_eq T Y Z I m_R G_II m_II kII b_II
  have Me_over : Meth K CR "over" fover := ⟨aover, iover, kover⟩
  have G_isp := ok_isprime (P := P) (w := w) (base := base) F_isp RT
  have G_inv := ok_inverse (mg := mg) (P := P) (w := w) (base := base) F_inv
  have G_FI := ok_finit (P := P) (w := w) (base := base) F_FI TF RNNF GP G_II m_II kII b_II G_isp m_isp kisp b_isp
  have G_feq := ok_feq (P := P) (w := w) (base := base) F_feq TF YF I m_F
  have Me_num : Meth K CF "number" ffnum := ⟨afnum, ifnum, kfnum⟩
  have Me_fover : Meth K CF "over" ffover := ⟨afover, ifover, kfover⟩
  have G_numI := ok_numI (P := P) (w := w) (base := base) F_fnum T TF Z I m_R RNNN G_isnum m_isnum kisnum b_isnum G_asr m_asr kasr b_asr
  have G_overI := ok_overI (P := P) (w := w) (base := base) F_fover TF RNNN Me_num G_numI b_fnum G_inv m_inv kinv b_inv
  have G_num := ok_num (P := P) (w := w) (base := base) F_fnum T TF Y Z I m_R RNNN G_isnum m_isnum kisnum b_isnum G_asr m_asr kasr b_asr Me_fover G_overI b_fover
  have G_fover := ok_fover (CN := CN) (P := P) (w := w) (base := base) F_fover T TF Y RNNN Me_num G_num b_fnum G_inv m_inv kinv b_inv Me_over G_over b_over ⟨aeq, ieq⟩ nf_int G_eq b_eq
  have G_lip := ok_lip (P := P) (w := w) (base := base) F_lip D
  have G_lpr := ok_lpr (P := P) (w := w) (base := base) F_lpr D G_draw m_draw kdraw b_draw G_lip m_lip klip b_lip
  have G_field := ok_field (P := P) (w := w) (base := base) F_field TF m_F m_NF teNF MF G_FI b_F
  have G_called := ok_called (P := P) (w := w) (base := base) F_called TF m_NN teNN Me_num G_num b_fnum
  have G_divided := ok_divided (P := P) (w := w) (base := base) F_divided TF m_NN teNN Me_fover G_fover b_fover
  have G_right := ok_right (P := P) (w := w) (base := base) F_right D T Y I m_R G_gcd m_gcd kgcd b_gcd G_lisint m_lisint klisint b_lisint
  have G_strange := ok_strange (P := P) (w := w) (base := base) F_strange Z Z2 G_called m_called kcalled b_called G_divided m_divided kdivided b_divided
  exact ok_law F_la T Y TF YF I m_R m_F G_state m_state kstate b_state G_draw m_draw kdraw b_draw G_great m_great kgreat b_great G_lip m_lip klip b_lip G_lpr m_lpr klpr b_lpr G_field m_field kfield b_field G_called m_called kcalled b_called G_divided m_divided kdivided b_divided G_right m_right kright b_right G_strange m_strange kstrange b_strange Me_num G_num b_fnum Me_fover G_fover b_fover MF G_FI b_F b_F0 v3 b_FK M G_R b_R b_R1 v1 sf0 O_mul G_mul b_mul NEq G_eq b_eq (by simp [PySem.W.notFirst]) nf_int ⟨afeq, ifeq⟩ G_feq b_feq (by simp [PySem.W.notFirst]) nfF_int
theorem walk {l : PySem.W.OpenLaw} {q : Program} {loose : List Str} {XP : (Str → Option Value) → Heap → Prop} {YP : World → Heap → Prop} {d : DefRec} {K : Params → PySem.W.Frag} (hn : l.most = some 63) (hdf : d.params.defaults = [])
    (hY : ∀ (w : World) (h : Heap), YP w h → (K w.params).In h)
    (F : ∀ (w : World) (mg : Str → Option Value) (fa : Addr) (h : Heap), (K w.params).In h → h.Ns mainGlobals mg → mg d.name = some (.ref fa) →
      ∃ fd : FuncData, (∀ (s : Shared) (u : Value), BindsTo s fd ⟨[u], []⟩ [("_law_script", u)]) ∧ ∀ base : Heap, (K w.params).In base → base.Ns mainGlobals mg → FnOk l.prog w (K w.params) mg base CX0 12 fa fd ["_law_script"] (spLaw (K w.params))) :
    PySem.W.WalkO q loose XP YP l.row.toRowW d [] (fun f vs => PySem.call f vs) :=
  L2.walk_of (n := 63) (k := 12) (x := "_law_script") (CX := fun _ => CX0) (sp := fun w => spLaw (K w.params)) hn (by decide) hdf ⟨rfl, by decide, by decide⟩ hY F (fun _ _ a ns hl _ hS => ⟨a, ns, rfl, hS, hl, fun _ => rfl⟩) fun _ _ _ _ _ z => z
end Sq

open PySem PySem.W PyProof.Rows
set_option maxRecDepth 100000 in
set_option maxHeartbeats 0 in
theorem PySem.Challenge.cw_seriessquares_k04_fields_holds : PySem.Challenge.rw_seriessquares_k04_fields.Holds := by
  w_on; o_law; k_head; (case hw => w_witness2)
  k_fill
  refine Sq.walk (l := PySem.Challenge.rw_seriessquares_k04_fields) rfl rfl (fun w h Y => PySem.W.kIn_of Y) ?F
  case F =>
    intro w mg fa h KX G hmg
    refine' Sq.all_mk KX G hmg ?aS ?x3S ?y8S ?aN ?x3N ?y8N ?aNI ?lNI ?cNI ?kNI ?iNI ?y5 ?y6 ?xLN ?x1N ?x2N ?x4N ?x5N ?x6N ?x7N ?x8N ?x9N ?y2N ?y3N ?y4N ?y7N ?aII ?lII ?cII ?kII ?aR ?pgR ?hdR ?poR ?saR ?mkR ?kcR ?nR_top ?nR_bottom ?q1R ?q2R ?q3R ?aRI ?lRI ?cRI ?kRI ?iRI ?eRI ?w3 ?w4 ?g_gcd ?z_len ?z_abs ?z_int ?z_range ?z_isinstance ?z_bool ?astate ?lstate ?cstate ?kstate ?adraw ?ldraw ?cdraw ?kdraw ?agcd ?lgcd ?cgcd ?kgcd ?alisint ?llisint ?clisint ?klisint ?agreat ?lgreat ?cgreat ?kgreat ?aisnum ?lisnum ?cisnum ?kisnum ?aasr ?lasr ?casr ?kasr ?aeq ?leq ?ceq ?keq ?ieq ?amul ?lmul ?cmul ?kmul ?imul ?aover ?lover ?cover ?kover ?iover ?neR ?aisp ?lisp ?cisp ?kisp ?ainv ?linv ?cinv ?kinv ?aF ?pgF ?hdF ?poF ?saF ?mkF ?kcF ?nF_prime ?q1F ?q2F ?q3F ?aFI ?lFI ?cFI ?kFI ?iFI ?eFI ?afeq ?lfeq ?cfeq ?kfeq ?ifeq ?afnum ?lfnum ?cfnum ?kfnum ?ifnum ?afover ?lfover ?cfover ?kfover ?ifover ?alip ?llip ?clip ?klip ?alpr ?llpr ?clpr ?klpr ?afield ?lfield ?cfield ?kfield ?acalled ?lcalled ?ccalled ?kcalled ?adivided ?ldivided ?cdivided ?kdivided ?aright ?lright ?cright ?kright ?astrange ?lstrange ?cstrange ?kstrange ?ala ?lla ?cla ?kla ?w_int ?w_str ?w_NoneType ?w_bool ?w_list ?w_tuple ?w_dict ?wF_int ?nf_int ?nfF_int ?sf0 ?g_isqrt ?g_GP ?aNF ?xLNF ?x3NF ?x4NF ?x2NF ?x7NF ?y8NF ?aNN ?xLNN ?x3NN ?x4NN ?x2NN ?x7NN ?y8NN ?xLS ?n1S ?n2S ?n3S ?n1NF ?n2NF ?n3NF ?n1NN ?n2NN ?n3NN
    (case aS => k_is)
    (case x3S => k_is)
    (case y8S => k_is)
    (case aN => k_is)
    (case x3N => k_is)
    (case y8N => k_is)
    (case aNI => k_is)
    (case lNI => k_is)
    (case cNI => k_is)
    (case kNI => k_is)
    (case iNI => k_is)
    (case y5 => k_is)
    (case y6 => k_is)
    (case xLN => k_is)
    (case x1N => k_is)
    (case x2N => k_is)
    (case x4N => k_is)
    (case x5N => k_is)
    (case x6N => k_is)
    (case x7N => k_is)
    (case x8N => k_is)
    (case x9N => k_is)
    (case y2N => k_is)
    (case y3N => k_is)
    (case y4N => k_is)
    (case y7N => k_is)
    (case aII => k_is)
    (case lII => k_is)
    (case cII => k_is)
    (case kII => k_is)
    (case aR => k_is)
    (case pgR => k_is)
    (case hdR => k_is)
    (case poR => k_is)
    (case saR => k_is)
    (case mkR => k_is)
    (case kcR => k_is)
    (case nR_top => k_is)
    (case nR_bottom => k_is)
    (case q1R => k_is)
    (case q2R => k_is)
    (case q3R => k_is)
    (case aRI => k_is)
    (case lRI => k_is)
    (case cRI => k_is)
    (case kRI => k_is)
    (case iRI => k_is)
    (case eRI => k_is)
    (case w3 => k_is)
    (case w4 => k_is)
    (case g_gcd => k_is)
    (case z_len => k_is)
    (case z_abs => k_is)
    (case z_int => k_is)
    (case z_range => k_is)
    (case z_isinstance => k_is)
    (case z_bool => k_is)
    (case astate => k_is)
    (case lstate => k_is)
    (case cstate => k_is)
    (case kstate => k_is)
    (case adraw => k_is)
    (case ldraw => k_is)
    (case cdraw => k_is)
    (case kdraw => k_is)
    (case agcd => k_is)
    (case lgcd => k_is)
    (case cgcd => k_is)
    (case kgcd => k_is)
    (case alisint => k_is)
    (case llisint => k_is)
    (case clisint => k_is)
    (case klisint => k_is)
    (case agreat => k_is)
    (case lgreat => k_is)
    (case cgreat => k_is)
    (case kgreat => k_is)
    (case aisnum => k_is)
    (case lisnum => k_is)
    (case cisnum => k_is)
    (case kisnum => k_is)
    (case aasr => k_is)
    (case lasr => k_is)
    (case casr => k_is)
    (case kasr => k_is)
    (case aeq => k_is)
    (case leq => k_is)
    (case ceq => k_is)
    (case keq => k_is)
    (case ieq => k_is)
    (case amul => k_is)
    (case lmul => k_is)
    (case cmul => k_is)
    (case kmul => k_is)
    (case imul => k_is)
    (case aover => k_is)
    (case lover => k_is)
    (case cover => k_is)
    (case kover => k_is)
    (case iover => k_is)
    (case neR => k_is)
    (case aisp => k_is)
    (case lisp => k_is)
    (case cisp => k_is)
    (case kisp => k_is)
    (case ainv => k_is)
    (case linv => k_is)
    (case cinv => k_is)
    (case kinv => k_is)
    (case aF => k_is)
    (case pgF => k_is)
    (case hdF => k_is)
    (case poF => k_is)
    (case saF => k_is)
    (case mkF => k_is)
    (case kcF => k_is)
    (case nF_prime => k_is)
    (case q1F => k_is)
    (case q2F => k_is)
    (case q3F => k_is)
    (case aFI => k_is)
    (case lFI => k_is)
    (case cFI => k_is)
    (case kFI => k_is)
    (case iFI => k_is)
    (case eFI => k_is)
    (case afeq => k_is)
    (case lfeq => k_is)
    (case cfeq => k_is)
    (case kfeq => k_is)
    (case ifeq => k_is)
    (case afnum => k_is)
    (case lfnum => k_is)
    (case cfnum => k_is)
    (case kfnum => k_is)
    (case ifnum => k_is)
    (case afover => k_is)
    (case lfover => k_is)
    (case cfover => k_is)
    (case kfover => k_is)
    (case ifover => k_is)
    (case alip => k_is)
    (case llip => k_is)
    (case clip => k_is)
    (case klip => k_is)
    (case alpr => k_is)
    (case llpr => k_is)
    (case clpr => k_is)
    (case klpr => k_is)
    (case afield => k_is)
    (case lfield => k_is)
    (case cfield => k_is)
    (case kfield => k_is)
    (case acalled => k_is)
    (case lcalled => k_is)
    (case ccalled => k_is)
    (case kcalled => k_is)
    (case adivided => k_is)
    (case ldivided => k_is)
    (case cdivided => k_is)
    (case kdivided => k_is)
    (case aright => k_is)
    (case lright => k_is)
    (case cright => k_is)
    (case kright => k_is)
    (case astrange => k_is)
    (case lstrange => k_is)
    (case cstrange => k_is)
    (case kstrange => k_is)
    (case ala => k_is)
    (case lla => k_is)
    (case cla => k_is)
    (case kla => k_is)
    (case w_int => k_is)
    (case w_str => k_is)
    (case w_NoneType => k_is)
    (case w_bool => k_is)
    (case w_list => k_is)
    (case w_tuple => k_is)
    (case w_dict => k_is)
    (case wF_int => k_is)
    (case nf_int => k_is)
    (case nfF_int => k_is)
    (case sf0 => k_is)
    (case g_isqrt => k_is)
    (case g_GP => k_is)
    (case aNF => k_is)
    (case xLNF => k_is)
    (case x3NF => k_is)
    (case x4NF => k_is)
    (case x2NF => k_is)
    (case x7NF => k_is)
    (case y8NF => k_is)
    (case aNN => k_is)
    (case xLNN => k_is)
    (case x3NN => k_is)
    (case x4NN => k_is)
    (case x2NN => k_is)
    (case x7NN => k_is)
    (case y8NN => k_is)
    (case xLS => k_is)
    (case n1S => k_is)
    (case n2S => rfl)
    (case n3S => k_is)
    (case n1NF => k_is)
    (case n2NF => rfl)
    (case n3NF => k_is)
    (case n1NN => k_is)
    (case n2NN => rfl)
    (case n3NN => k_is)

