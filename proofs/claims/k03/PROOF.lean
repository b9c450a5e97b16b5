import PyProof.Rows.All
import Wide.All
import OpenK.AllK
import Wide.FinOn
import HandS.ForMost
import HandS.ForExc
import HandS.Codes
import HandS.Wide
import HandS.Gcd
import HandS.Flow
import HandS.IsInst
import HandS.ExcInit
import HandS.ExcField
import HandS.ExcIs
import HandS.Defaults
import HandS.MakeKw
import HandS.MakeKwOnly
import HandS.TryOnly
import HandS.EndBits
import KE.KExcIs
import KE.KOpsOwn
import HandS.FStr
import HandS.StrMore
import HandS.Iter
import HandS.Comp
import PySem.Challenge.RW_seriessquares_k03_ratio_texts
set_option Elab.async false
set_option linter.all false
set_option maxRecDepth 100000
set_option maxHeartbeats 4000000
namespace Sq
open PySem L2
def top (i : Nat) : Stmt := PySem.Challenge.pw_seriessquares_k03_ratio_texts.main.body.getD i (.Pass ⟨0, 0, 0, 0⟩)
abbrev s_state : Stmt := top 14
abbrev s_draw : Stmt := top 15
abbrev s_gcd : Stmt := top 16
abbrev s_lisint : Stmt := top 17
abbrev s_great : Stmt := top 18
/-- the heap stands but at p -/
def But (p : Addr) (H H' : Hp) : Prop := ∀ b o, H b = some o → b ≠ p → H' b = some o
theorem But.refl (p : Addr) (H : Hp) : But p H H := fun _ _ h _ => h
theorem But.trans {p : Addr} {H H1 H2 : Hp} (a : But p H H1) (b : But p H1 H2) : But p H H2 := fun c o h n => b c o (a c o h n) n
theorem But.upd {p : Addr} {H H1 : Hp} {o : HO} (a : But p H H1) : But p H (upd H1 p o) := fun c u h n => (upd_ne n).trans (a c u h n)
theorem But.new {p q : Addr} {H H1 : Hp} {o : HO} (a : But p H H1) (n : H1 q = none) : But p H (L2.upd H1 q o) := fun c u h nc => (upd_ne (ne_of_none (a c u h nc) n)).trans (a c u h nc)
theorem Same.but {p : Addr} {H H1 : Hp} (a : Same H H1) : But p H H1 := fun c u h _ => a c u h
/-- the five things of the state, and the script's ints -/
def St5 (H : Hp) (p a : Addr) (ns : List Int) (i l m c : Int) : Prop := H p = some (.lst [.ref a, .int i, .int l, .int m, .int c]) ∧ H a = some (.lst (ns.map V.int)) ∧ a ≠ p ∧ 0 ≤ i ∧ 0 ≤ m ∧ m < 2147483648
def StAt (H : Hp) (p : Addr) : Prop := ∃ a ns i l m c, St5 H p a ns i l m c
def spDraw : Sp := fun vs H Q _ => ∃ (p : Addr) (n : Int), vs = [.ref p, .int n] ∧ 0 < n ∧ n < 1073741824 ∧ StAt H p ∧ ∀ v H', 0 ≤ v → v < n → StAt H' p → But p H H' → Q (.int v) H'
theorem St5.set {H : Hp} {p a : Addr} {ns : List Int} {i l m c : Int} (S : St5 H p a ns i l m c) {i' l' m' c' : Int} (h0 : 0 ≤ i') (h1 : 0 ≤ m') (h2 : m' < 2147483648) :
    St5 (upd H p (.lst [.ref a, .int i', .int l', .int m', .int c'])) p a ns i' l' m' c' := ⟨upd_same, (upd_ne S.2.2.1).trans S.2.1, S.2.2.1, h0, h1, h2⟩
structure DTx (mg : Str → Option Value) : Prop where
  b_len : mg "len" = none
  b_abs : mg "abs" = none
  b_int : mg "int" = none
  b_range : mg "range" = none
section
variable {P : Program} {w : World} {K : PySem.W.Frag} {mg : Str → Option Value} {base : Heap}
theorem sc_draw : FnScope ["_law_state_here", "_law_many", "_law_item", "_law_found", "_law_twice"] ["_law_state_here", "_law_many"] (defScope s_draw) := ⟨rfl, rfl, rfl, by decide +kernel, rfl, by decide +kernel, by decide +kernel⟩
theorem ok_draw {f : Addr} {fd : FuncData} (F : Fun K "_law_draw" "_law_draw" s_draw f fd) (T : DTx mg) : FnOk P w K mg base CX0 1 f fd ["_law_state_here", "_law_many"] spDraw := by
  refine F.ok sc_draw (fun vs H Q E h => ?_) (fun cdv A outer s H vs Q E hr h => ?_)
  · obtain ⟨p, n, rfl, _⟩ := h
    rfl
  · obtain ⟨p, n, rfl, hn0, hn1, ⟨a, ns, i, l, m, c, S⟩, k⟩ := h
    refine ⟨_, (C8.pss_cut (ps_asg (pe_op op_add (pe_ix ix_list (pv 0) pe_int (fun _ _ => rfl)) pe_int) (pg_sub (pv 0) pe_int set_list))
      (C8.pss_cut (ps_if (PW.pt (pw_and (pt_cmpR op_le (pe_ix ix_list (pv 0) pe_int (fun _ _ => rfl)) pe_int (nomark _)) (pw_and1 (pt_cmpR op_lt (pe_ix ix_list (pv 0) pe_int (fun _ _ => rfl)) (pe_callB call_len_seq (by rfl) T.b_len (by decide +kernel) (pa_cons (pe_ix ix_list (pv 0) pe_int (fun _ _ => rfl)) pa_nil)) (nomark _)))))
        (pss_cons (ps_set (i := 2) sc_draw.nd rfl (Or.inl rfl) (pe_ix ix_list (pe_ix ix_list (pv 0) pe_int (fun _ _ => rfl)) (pe_ix ix_list (pv 0) pe_int (fun _ _ => rfl)) (fun _ _ => rfl)))
      (pss_cons (ps_asg (pe_op op_add (pe_ix ix_list (pv 0) pe_int (fun _ _ => rfl)) pe_int) (pg_sub (pv 0) pe_int set_list))
      (pss_one (ps_if (pt_cmpR op_ge (pe_callB call_abs (by rfl) T.b_abs (by decide +kernel) (pa_cons (pv 2) pa_nil)) (pe_op op_pow pe_int pe_int) (nomark _))
        (pss_one (ps_asg (pe_callB call_abs (by rfl) T.b_abs (by decide +kernel) (pa_cons (pv 2) pa_nil)) (pg_sub (pv 0) pe_int set_list)))
        (pss_cons (ps_asg pe_int (pg_sub (pv 0) pe_int set_list))
      (pss_one (ps_asg (pe_op op_mod (pe_callTy call_int1 (by rfl) T.b_int (by decide +kernel) (pa_cons (pe_op op_add (pe_op op_add (pe_op op_mul (pe_ix ix_list (pv 0) pe_int (fun _ _ => rfl)) pe_int) (pv 2)) (pe_op op_mul pe_int (pe_ix ix_list (pv 0) pe_int (fun _ _ => rfl)))) pa_nil)) pe_int) (pg_sub (pv 0) pe_int set_list))))))))
        pss_nil)
      (pss_cons (ps_if (pt_cmpR op_gt (pe_ix ix_list (pv 0) pe_int (fun _ _ => rfl)) pe_int (nomark _))
        (pss_cons (ps_set (i := 3) sc_draw.nd rfl (Or.inl rfl) (pe_op op_mod (pe_callTy call_int1 (by rfl) T.b_int (by decide +kernel) (pa_cons (pe_ix ix_list (pv 0) pe_int (fun _ _ => rfl)) pa_nil)) (pv 1)))
      (pss_cons (ps_asg (pe_op op_fdiv (pe_ix ix_list (pv 0) pe_int (fun _ _ => rfl)) (pv 1)) (pg_sub (pv 0) pe_int set_list))
      (pss_one (ps_ret (pv 3)))))
        pss_nil)
      (pss_cons (ps_asg (pe_op op_mod (pe_callTy call_int1 (by rfl) T.b_int (by decide +kernel) (pa_cons (pe_op op_add (pe_op op_add (pe_op op_mul (pe_ix ix_list (pv 0) pe_int (fun _ _ => rfl)) pe_int) (pe_op op_mul pe_int (pe_ix ix_list (pv 0) pe_int (fun _ _ => rfl)))) pe_int) pa_nil)) pe_int) (pg_sub (pv 0) pe_int set_list))
      (pss_cons (ps_set (i := 4) sc_draw.nd rfl (Or.inl rfl) (pe_op op_mod (pe_callTy call_int1 (by rfl) T.b_int (by decide +kernel) (pa_cons (pe_op op_mul (pe_ix ix_list (pv 0) pe_int (fun _ _ => rfl)) (pe_op op_add (pe_op op_fdiv (pe_ix ix_list (pv 0) pe_int (fun _ _ => rfl)) pe_int) pe_int)) pa_nil)) pe_int))
      (pss_one (ps_ret (pe_op op_mod (pe_op op_fdiv (pv 4) pe_int) (pv 1))))))))), ?_⟩
    obtain ⟨hp, ha, hap, h0, h1, h2⟩ := id S
    -- the count
    refine ⟨fun σ H' => σ = [some (.ref p), some (.int n), none, none, none] ∧ St5 H' p a ns i l m (c + 1) ∧ But p H H', ⟨_, rfl, _, _, _, _, rfl, rfl, SqL.of hp, rfl, _, _, rfl, rfl, _, rfl, _, _, _, _, rfl, rfl, hp, rfl, rfl, S.set h0 h1 h2, (But.refl _ _).upd⟩, ?_⟩
    rintro σ H1 ⟨rfl, S1, B1⟩
    obtain ⟨hp1, ha1, _⟩ := id S1
    -- the next number of the script
    refine ⟨fun σ H' => ∃ v2, σ = [some (.ref p), some (.int n), v2, none, none] ∧ (∃ i l m, St5 H' p a ns i l m (c + 1)) ∧ But p H H', ?_, ?_⟩
    · refine ⟨_, rfl, _, _, _, _, rfl, rfl, SqL.of hp1, rfl, _, _, rfl, rfl, _, rfl, ?_⟩
      refine ite2 (fun c1 => ?_) (fun c1 => iteF ⟨none, rfl, ⟨i, l, m, S1⟩, B1⟩)
      refine ⟨_, rfl, _, _, _, _, rfl, rfl, SqL.of hp1, rfl, _, rfl, _, _, _, _, rfl, rfl, SqL.of hp1, rfl, _, _, rfl, .inl (SqL.of ha1), _, _, rfl, rfl, _, rfl, ?_⟩
      refine ite2 (fun c2 => ?_) (fun c2 => ⟨none, rfl, ⟨i, l, m, S1⟩, B1⟩)
      have c2' : i.toNat < ns.length := by
        have := of_decide_eq_true c2
        rw [List.length_map] at this
        omega
      have hz : (ns.map V.int)[i.toNat]? = some (V.int ns[i.toNat]) := by
        rw [List.getElem?_map, List.getElem?_eq_getElem c2']
        rfl
      refine ⟨_, rfl, _, _, _, _, rfl, rfl, SqL.of hp1, rfl, _, rfl, _, _, _, _, rfl, rfl, SqL.of hp1, rfl, _, _, _, _, rfl, rfl, SqL.of ha1, at_of (j := i.toNat) (by omega) hz, ?_⟩
      generalize ns[i.toNat] = z
      refine ⟨_, rfl, _, _, _, _, rfl, rfl, SqL.of hp1, rfl, _, _, rfl, rfl, _, rfl, _, _, _, _, rfl, rfl, hp1, rfl, ?_⟩
      have S2 := S1.set (i' := i + 1) (l' := l) (m' := m) (c' := c + 1) (by omega) h1 h2
      refine ⟨_, rfl, _, rfl, _, _, rfl, rfl, ⟨by decide, by decide, by decide⟩, _, _, rfl, rfl, _, rfl, ?_⟩
      refine ite2 (fun c3 => ?_) (fun c3 => ?_)
      · refine ⟨_, rfl, _, rfl, _, rfl, _, _, _, _, rfl, rfl, S2.1, rfl, ?_⟩
        exact ⟨_, rfl, ⟨_, _, _, S2.set (by omega) h1 h2⟩, B1.upd.upd⟩
      · refine ⟨_, rfl, _, _, _, _, rfl, rfl, S2.1, rfl, ?_⟩
        have S3 := S2.set (i' := i + 1) (l' := 0) (m' := m) (c' := c + 1) (by omega) h1 h2
        refine ⟨_, rfl, _, _, _, _, rfl, rfl, SqL.of S3.1, rfl, _, _, rfl, rfl, .inr (by decide), _, rfl, _, _, rfl, rfl, _, rfl, _, _, _, _, rfl, rfl, SqL.of S3.1, rfl, _, _, rfl, rfl, .inl (by decide), _, _, rfl, rfl, .inl ⟨_, rfl, ?_⟩⟩
        refine ⟨_, _, rfl, rfl, (by show (0 : Int) < 2147483629; decide), _, rfl, _, _, _, _, rfl, rfl, S3.1, rfl, ?_⟩
        exact ⟨_, rfl, ⟨_, _, _, S3.set (by omega) (Int.emod_nonneg _ (by decide)) (Int.lt_trans (Int.emod_lt_of_pos _ (by decide)) (by decide))⟩, B1.upd.upd.upd⟩
    · rintro σ H2 ⟨v2, rfl, ⟨i, l, m, S2⟩, B2⟩
      obtain ⟨hp2, ha2, hap2, h02, h12, h22⟩ := id S2
      refine ⟨_, rfl, _, _, _, _, rfl, rfl, SqL.of hp2, rfl, _, _, rfl, rfl, _, rfl, ?_⟩
      refine ite2 (fun c1 => ?_) (fun c1 => ?_)
      · refine ⟨_, rfl, _, _, _, _, rfl, rfl, SqL.of hp2, rfl, .inl ⟨_, rfl, _, rfl, _, _, rfl, rfl, hn0, ?_⟩⟩
        refine ⟨_, rfl, _, _, _, _, rfl, rfl, SqL.of hp2, rfl, _, rfl, _, _, rfl, rfl, ⟨hn0, hn1⟩, _, rfl, _, _, _, _, rfl, rfl, hp2, rfl, ?_⟩
        exact ⟨_, rfl, k _ _ (Int.emod_nonneg _ (by omega)) (Int.emod_lt_of_pos _ hn0) ⟨a, ns, _, _, _, _, S2.set h02 h12 h22⟩ B2.upd⟩
      · refine ⟨_, rfl, _, _, _, _, rfl, rfl, SqL.of hp2, rfl, _, _, rfl, rfl, .inr (by decide), _, rfl, _, _, _, _, rfl, rfl, SqL.of hp2, rfl, _, _, rfl, rfl, .inl (by decide), _, _, rfl, rfl, _, _, rfl, rfl, .inl ⟨_, rfl, ?_⟩⟩
        refine ⟨_, _, rfl, rfl, (by show (0 : Int) < 2147483647; decide), _, rfl, _, _, _, _, rfl, rfl, hp2, rfl, ?_⟩
        have m0 : 0 ≤ (m * 48271 + 7919 * (c + 1) + 1) % 2147483647 := Int.emod_nonneg _ (by decide)
        have m1 : (m * 48271 + 7919 * (c + 1) + 1) % 2147483647 < 2147483647 := Int.emod_lt_of_pos _ (by decide)
        have S3 := S2.set (i' := i) (l' := l) (m' := (m * 48271 + 7919 * (c + 1) + 1) % 2147483647) (c' := c + 1) h02 m0 (by omega)
        refine ⟨_, rfl, _, _, _, _, rfl, rfl, SqL.of S3.1, rfl, _, rfl, _, _, _, _, rfl, rfl, SqL.of S3.1, rfl, _, _, rfl, rfl, ⟨by decide, by decide⟩, _, _, rfl, rfl, _, _, rfl, rfl, .inl ⟨Int.lt_of_lt_of_le (by decide) m0, Int.lt_trans m1 (by decide)⟩, .inl ⟨_, rfl, ?_⟩⟩
        refine ⟨_, _, rfl, rfl, (by show (0 : Int) < 2147483399; decide), ?_⟩
        refine ⟨_, rfl, _, _, rfl, rfl, ⟨by decide, by decide⟩, _, rfl, _, _, rfl, rfl, hn0, ?_⟩
        exact k _ _ (Int.emod_nonneg _ (by omega)) (Int.emod_lt_of_pos _ hn0) ⟨a, ns, _, _, _, _, S3⟩ B2.upd
end
end Sq
namespace Sq
open PySem L2
/-- the state is made: the items' list is a new one -/
def spState (K : PySem.W.Frag) : Sp := fun vs H Q _ => ∃ (s : Addr) (ns : List Int), vs = [.ref s] ∧ SqL K H s (ns.map V.int) ∧ ns.length ≤ 63 ∧ ∀ p H', H p = none → StAt H' p → Same H H' → Q (.ref p) H'
theorem same_new {H H1 : Hp} {q : Addr} {o : HO} (a : Same H H1) (n : H1 q = none) : Same H (L2.upd H1 q o) := fun c u h => (upd_ne (ne_of_none (a c u h) n)).trans (a c u h)
theorem same_at {H H1 : Hp} {q : Addr} {o : HO} (a : Same H H1) (n : H q = none) : Same H (L2.upd H1 q o) := fun c u h => (upd_ne (ne_of_none h n)).trans (a c u h)
theorem take_map (ns : List Int) (k : Nat) : cutV (ns.map V.int) none (some ((k : Nat) : Int)) = (ns.take k).map V.int := by
  unfold cutV
  rw [HT.sIx_none, HT.sIx_nat, List.drop_zero, List.length_map, List.map_take]
  rw [Nat.sub_zero]
  by_cases h : k ≤ ns.length
  · rw [Nat.min_eq_left h]
  · rw [Nat.min_eq_right (by omega), List.take_of_length_le (by simp), List.take_of_length_le (by simp; omega)]
theorem map_get {ns : List Int} {i : Nat} {y : V} (hi : (ns.map V.int)[i]? = some y) : ∃ z, ns[i]? = some z ∧ y = V.int z := by
  rw [List.getElem?_map] at hi
  cases e : ns[i]? with
  | none =>
    rw [e] at hi
    cases hi
  | some z =>
    rw [e] at hi
    exact ⟨z, rfl, (Option.some.inj hi).symm⟩
theorem take_more {α : Type} {l : List α} {i : Nat} {x : α} (h : l[i]? = some x) : l.take (i + 1) = l.take i ++ [x] := by
  rw [List.take_add_one, h]
  rfl
theorem seq_at {K : PySem.W.Frag} {H : Hp} {a b : Addr} {xs : List V} {o : HO} (h : SqL K H a xs) (n : b ≠ a) : SqL K (upd H b o) a xs := by
  rcases h with (h | ⟨o, h⟩) | h
  · exact .inl (.inl ((upd_ne n.symm).trans h))
  · exact .inl (.inr ⟨o, (upd_ne n.symm).trans h⟩)
  · exact .inr h
section
variable {P : Program} {w : World} {K : PySem.W.Frag} {mg : Str → Option Value} {base : Heap}
theorem sc_state : FnScope ["_law_script", "_law_items", "_law_item"] ["_law_script"] (defScope s_state) := ⟨rfl, rfl, rfl, by decide +kernel, rfl, by decide +kernel, by decide +kernel⟩
theorem ok_state {f : Addr} {fd : FuncData} (F : Fun K "_law_state" "_law_state" s_state f fd) (T : DTx mg) : FnOk P w K mg base CX0 1 f fd ["_law_script"] (spState K) := by
  refine F.ok sc_state (fun vs H Q E h => ?_) (fun cdv A outer s H vs Q E hr h => ?_)
  · obtain ⟨p, n, rfl, _⟩ := h
    rfl
  · obtain ⟨a, ns, rfl, hS, hl, k⟩ := h
    refine ⟨_, pss_cons (ps_setLc (i := 1) (own := [("_law_item", 2)]) (g := gName 2) (tt := tYes) rfl sc_state.nd rfl rfl (sw_true rfl rfl rfl (by decide +kernel))
        (pi_list (pe_slice sl_list (pv 0) po_none (po_some pe_int))) (blkOk_by (N := ["_law_script", "_law_items", "_law_item"]) (sc := defScope s_state) (by decide +kernel)) (fun _ _ _ _ _ => pg_name (i := 2) sc_state.nd rfl (Or.inl rfl)) (fun _ _ _ _ _ => pts_nil)
        (fun _ _ _ _ _ => pe_callTy call_int1 (by rfl) T.b_int (by decide +kernel) (pa_cons (pv 2) pa_nil)))
      (pss_one (ps_ret (pe_lst (pa_cons (pv 1) (pa_cons pe_int (pa_cons pe_int (pa_cons (pe_op op_add pe_int (pe_callB call_len_seq (by rfl) T.b_len (by decide +kernel) (pa_cons (pv 1) pa_nil))) (pa_cons pe_int pa_nil)))))))), ?_⟩
    refine ⟨_, rfl, _, rfl, _, _, rfl, hS, fun q hq => ?_⟩
    have et : cutV (ns.map V.int) none (some 63) = (ns.take 63).map V.int := take_map ns 63
    have hq1 : SqL K (upd H q (.lst (cutV (ns.map V.int) none (some 63)))) q ((ns.take 63).map V.int) := by
      rw [et]
      exact SqL.of upd_same
    refine ⟨_, rfl, ⟨_, hq1⟩, fun D hD => ?_⟩
    have hDq : D ≠ q := fun e => by
      rw [e, upd_same] at hD
      cases hD
    have hDH : H D = none := by
      rw [upd_ne hDq] at hD
      exact hD
    refine lc_list (K := K) (a := q) (xs := (ns.take 63).map V.int) (fun i H' => H' D = some (.lst ((ns.take i).map V.int)) ∧ Same H H' ∧ SqL K H' q ((ns.take 63).map V.int)) ?_ (fun i H' _ h => h.2.2) ?_ ?_
    · refine ⟨by simpa using upd_same, same_new (same_new (Same.refl H) hq) hD, ?_⟩
      exact Same.seq (same_new (Same.refl _) hD) hq1
    · rintro i y H2 hi ⟨hD2, s2, hq2⟩
      obtain ⟨z, hz, rfl⟩ := map_get hi
      refine ⟨rfl, _, rfl, .inl ⟨_, rfl, ?_⟩⟩
      have hi1 : i < (ns.take 63).length := (List.getElem?_eq_some_iff.mp hz).1
      have hi63 : i < 63 := by
        rw [List.length_take] at hi1
        omega
      have hz' : ns[i]? = some z := by
        rw [List.getElem?_take] at hz
        rw [if_pos hi63] at hz
        exact hz
      refine ⟨_, hD2, small1000 (by rw [List.length_map, List.length_take]; omega), ?_, same_at s2 hDH, ?_⟩
      · rw [take_more hz', List.map_append]
        exact upd_same
      · exact seq_at hq2 hDq
    · rintro H2 ⟨hD2, s2, hq2⟩
      refine ⟨_, rfl, _, rfl, _, _, rfl, .inl (SqL.of hD2), _, _, rfl, rfl, (by show 5 ≤ sizeLine; decide), fun p hp => ?_⟩
      have hpD : D ≠ p := ne_of_none hD2 hp
      refine k p _ (s2.free hp) ⟨D, (ns.take 63).take (ns.take 63).length, 0, 0, _, 0, upd_same, (upd_ne hpD).trans ?_, hpD, by omega, by omega, ?_⟩ (same_new s2 hp)
      · rw [hD2, List.take_take, List.length_map]
        congr 4
        simp
      · rw [List.length_map, List.length_take]
        omega
end
end Sq
namespace Sq
open PySem L2
theorem fmod_lt (x : Int) {y : Int} (h : y ≠ 0) : (x.fmod y).natAbs < y.natAbs := by
  have e := Int.fmod_eq_emod (a := x) (b := y)
  have h1 := Int.emod_nonneg x h
  have h2 := Int.emod_lt x h
  by_cases c : 0 ≤ y ∨ y ∣ x
  · rw [if_pos c] at e
    omega
  · rw [if_neg c] at e
    have h3 : ¬ y ∣ x := fun d => c (.inr d)
    have h4 : x % y ≠ 0 := fun z => h3 (Int.dvd_of_emod_eq_zero z)
    omega
theorem gcd_fmod (x y : Int) : Int.gcd y (x.fmod y) = Int.gcd x y := by
  rw [Int.fmod_def, Int.gcd_sub_mul_left_right, Int.gcd_comm]
def spGcd : Sp := fun vs H Q _ => ∃ a b : Int, vs = [.int a, .int b] ∧ Q (.int ((Int.gcd a b : Nat) : Int)) H
/-- is it an int, no bool: for a value whose type is known -/
def isI : V → Bool
  | .int _ => true
  | _ => false
def IsTy (K : PySem.W.Frag) (H : Hp) (x : V) : Prop := ∃ t b1 b2, TyX K H x t ∧ PySem.W.kitOne K t (.type "int") = some b1 ∧ PySem.W.kitOne K t (.type "bool") = some b2 ∧ (b1 && !b2) = isI x
theorem IsTy.int {K : PySem.W.Frag} {H : Hp} (i : Int) : IsTy K H (.int i) := ⟨.type "int", true, false, .base (.int i), kit_ty (by decide +kernel), kit_ty (by decide +kernel), rfl⟩
theorem IsTy.bl {K : PySem.W.Frag} {H : Hp} (i : Bool) : IsTy K H (.bl i) := ⟨.type "bool", true, true, .base (.bl i), kit_ty (by decide +kernel), kit_ty (by decide +kernel), rfl⟩
theorem IsTy.non {K : PySem.W.Frag} {H : Hp} : IsTy K H .non := ⟨.type "NoneType", false, false, .base .non, kit_ty (by decide +kernel), kit_ty (by decide +kernel), rfl⟩
theorem IsTy.str {K : PySem.W.Frag} {H : Hp} (z : Str) : IsTy K H (.str z) := ⟨.type "str", false, false, .base (.str z), kit_ty (by decide +kernel), kit_ty (by decide +kernel), rfl⟩
theorem IsTy.lst {K : PySem.W.Frag} {H : Hp} {a : Addr} {xs : List V} (e : H a = some (.lst xs)) : IsTy K H (.ref a) := ⟨.type "list", false, false, .base (.lst e), kit_ty (by decide +kernel), kit_ty (by decide +kernel), rfl⟩
theorem IsTy.tup {K : PySem.W.Frag} {H : Hp} {a : Addr} {xs : List V} (e : H a = some (.tup xs)) : IsTy K H (.ref a) := ⟨.type "tuple", false, false, .base (.tup e), kit_ty (by decide +kernel), kit_ty (by decide +kernel), rfl⟩
theorem IsTy.dK {K : PySem.W.Frag} {H : Hp} {a : Addr} {xs : List (Key × V)} (e : H a = some (.dK xs)) : IsTy K H (.ref a) := ⟨.type "dict", false, false, .base (.dK e), kit_ty (by decide +kernel), kit_ty (by decide +kernel), rfl⟩
def spIsInt (K : PySem.W.Frag) : Sp := fun vs H Q _ => ∃ x, vs = [x] ∧ IsTy K H x ∧ Q (.bl (isI x)) H
def spGreat : Sp := fun vs H Q _ => ∃ p, vs = [.ref p] ∧ StAt H p ∧ ∀ v H', v.natAbs < 2 ^ 120 → StAt H' p → But p H H' → Q (.int v) H'
structure ITx (mg : Str → Option Value) : Prop where
  b_isinstance : mg "isinstance" = none
  b_int : mg "int" = none
  b_bool : mg "bool" = none
section
variable {P : Program} {w : World} {K : PySem.W.Frag} {mg : Str → Option Value} {base : Heap}
theorem sc_gcd : FnScope ["_law_one", "_law_other"] ["_law_one", "_law_other"] (defScope s_gcd) := ⟨rfl, rfl, rfl, by decide +kernel, rfl, by decide +kernel, by decide +kernel⟩
theorem ok_gcd {f : Addr} {fd : FuncData} (F : Fun K "_law_gcd" "_law_gcd" s_gcd f fd) (T : DTx mg) : FnOk P w K mg base CX0 1 f fd ["_law_one", "_law_other"] spGcd := by
  refine F.ok sc_gcd (fun vs H Q E h => ?_) (fun cdv A outer s H vs Q E hr h => ?_)
  · obtain ⟨a, b, rfl, _⟩ := h
    rfl
  · obtain ⟨a, b, rfl, k⟩ := h
    refine ⟨_, (pss_cons (ps_while PassesOwn.never (pt_cmpR op_ne (pv 1) pe_int (nomark _)) (pss_one (ps_par (i := 0) (j := 1) (by rfl) sc_gcd.nd rfl rfl (by decide) rfl rfl (pa_cons (pv 1) (pa_cons (pe_op op_modN (pe_callTy call_int1 (by rfl) T.b_int (by decide +kernel) (pa_cons (pv 0) pa_nil)) (pv 1)) pa_nil)) (by rfl))))
      (pss_one (ps_ret (pe_callB call_abs (by rfl) T.b_abs (by decide +kernel) (pa_cons (pv 0) pa_nil))))), ?_⟩
    refine while_by (fun σ H' => ∃ x y : Int, σ = [some (.int x), some (.int y)] ∧ Int.gcd x y = Int.gcd a b ∧ H' = H) (fun σ _ => match σ with | [_, some (.int y)] => y.natAbs | _ => 0) ⟨a, b, rfl, rfl, rfl⟩ ?_ ?_
    · rintro σ H' ⟨x, y, rfl, hg, rfl⟩
      refine ⟨_, rfl, rfl, _, rfl, ?_⟩
      refine ite2 (fun c => ?_) (fun c => ?_)
      · have hy : y ≠ 0 := fun e => by
          rw [e] at c
          exact absurd c (by decide)
        refine ⟨_, rfl, _, rfl, .inl ⟨_, rfl, _, rfl, _, _, rfl, rfl, hy, ?_⟩⟩
        exact ⟨_, _, rfl, ⟨_, _, rfl, (gcd_fmod x y).trans hg, rfl⟩, fmod_lt x hy⟩
      · have hy : y = 0 := by
          by_cases e : y = 0
          · exact e
          · exact absurd (by simp [e]) c
        subst hy
        refine ⟨_, rfl, _, rfl, ?_⟩
        rw [← hg] at k
        rw [Int.gcd_zero] at k
        have e : (if x < 0 then -x else x) = ((x.natAbs : Nat) : Int) := by
          split <;> omega
        rw [e]
        exact k
    · rintro σ H' Q1 Q2 hi ⟨v, e, u, z, e2, c⟩
      exact ⟨v, e, u, z, e2, hi _ _ c⟩
theorem sc_lisint : FnScope ["_law_told"] ["_law_told"] (defScope s_lisint) := ⟨rfl, rfl, rfl, by decide +kernel, rfl, by decide +kernel, by decide +kernel⟩
theorem ok_lisint {f : Addr} {fd : FuncData} (F : Fun K "_law_is_integer" "_law_is_integer" s_lisint f fd) (T : ITx mg) : FnOk P w K mg base CX0 1 f fd ["_law_told"] (spIsInt K) := by
  refine F.ok sc_lisint (fun vs H Q E h => ?_) (fun cdv A outer s H vs Q E hr h => ?_)
  · obtain ⟨x, rfl, _⟩ := h
    rfl
  · obtain ⟨x, rfl, ⟨t, b1, b2, ht, h1, h2, h3⟩, k⟩ := h
    refine ⟨_, pss_one (ps_ret (pe_and (pe_callB call_isi (by rfl) T.b_isinstance (by decide +kernel) (pa_cons (pv 0) (pa_cons (pe_bltn (v := .ty "int") (by rfl) T.b_int (by decide +kernel) rfl) pa_nil)))
      (pe_one (pe_not (pe_callB call_isi (by rfl) T.b_isinstance (by decide +kernel) (pa_cons (pv 0) (pa_cons (pe_bltn (v := .ty "bool") (by rfl) T.b_bool (by decide +kernel) rfl) pa_nil))))))), ?_⟩
    refine ⟨_, rfl, _, _, _, _, b1, rfl, .ty _, ht, h1, _, rfl, ?_⟩
    cases b1 with
    | false =>
      refine iteF ?_
      rw [← h3] at k
      exact k
    | true =>
      refine iteT ?_
      refine ⟨_, rfl, _, _, _, _, b2, rfl, .ty _, ht, h2, _, rfl, ?_⟩
      rw [← h3] at k
      exact k
theorem sc_great : FnScope ["_law_state_here", "_law_found", "_law_k"] ["_law_state_here"] (defScope s_great) := ⟨rfl, rfl, rfl, by decide +kernel, rfl, by decide +kernel, by decide +kernel⟩
theorem ok_great {f fD : Addr} {fd fdD : FuncData} (F : Fun K "_law_great" "_law_great" s_great f fd) (T : DTx mg) (G_draw : FnOk P w K mg base CX0 1 fD fdD ["_law_state_here", "_law_many"] spDraw) (m_draw : mg "_law_draw" = some (.ref fD)) (k_draw : PySem.W.keepIn K (.ref fD) = true)
    (b_draw : Binds K fdD ["_law_state_here", "_law_many"] []) : FnOk P w K mg base CX0 2 f fd ["_law_state_here"] spGreat := by
  refine F.ok sc_great (fun vs H Q E h => ?_) (fun cdv A outer s H vs Q E hr h => ?_)
  · obtain ⟨x, rfl, _⟩ := h
    rfl
  · obtain ⟨p, rfl, S, k⟩ := h
    refine ⟨_, (pss_cons (ps_set (i := 1) sc_great.nd rfl (Or.inl rfl) pe_int)
      (pss_cons (ps_for PassesOwn.never rfl (pi_range1 (by rfl) T.b_range (pa_cons (pe_call G_draw hr rfl m_draw k_draw b_draw .nil pass0 (pa_cons (pv 0) (pa_cons pe_int pa_nil))) pa_nil)) (pg_name (i := 2) sc_great.nd rfl (Or.inl rfl)) (pss_one (ps_set (i := 1) sc_great.nd rfl (Or.inl rfl) (pe_op op_add (pe_op op_mul (pv 1) (pe_op op_pow pe_int pe_int)) (pe_call G_draw hr rfl m_draw k_draw b_draw .nil pass0 (pa_cons (pv 0) (pa_cons (pe_op op_pow pe_int pe_int) pa_nil)))))))
      (pss_cons (ps_set (i := 1) sc_great.nd rfl (Or.inl rfl) (pe_op op_add (pv 1) (pe_call G_draw hr rfl m_draw k_draw b_draw .nil pass0 (pa_cons (pv 0) (pa_cons pe_int pa_nil)))))
      (pss_cons (ps_if (pt_cmpR op_eq (pe_call G_draw hr rfl m_draw k_draw b_draw .nil pass0 (pa_cons (pv 0) (pa_cons pe_int pa_nil))) pe_int (nomark _))
        (pss_one (ps_ret (pe_un un_neg (pv 1))))
        pss_nil)
      (pss_one (ps_ret (pv 1))))))), ?_⟩
    refine ⟨_, rfl, p, 5, rfl, by decide, by decide, S, fun v H1 v0 v5 S1 B1 => ⟨v, rfl, by omega, by omega, ?_⟩⟩
    refine for_range (lo := 0) (n := v.toNat) (fun i σ H' => ∃ (u : Int) (z : Option V), σ = [some (.ref p), some (.int u), z] ∧ 0 ≤ u ∧ u < 1000000000 ^ i ∧ StAt H' p ∧ But p H H') ⟨0, none, rfl, by omega, by decide, S1, B1⟩ ?_ ?_
    · rintro i σ H2 hi ⟨u, z, rfl, u0, u1, S2, B2⟩
      refine ⟨_, rfl, _, _, rfl, rfl, ⟨by decide, by decide, by decide⟩, _, _, rfl, rfl, .inr (by decide), _, rfl, _, _, rfl, rfl, ⟨by decide, by decide, by decide⟩, p, _, rfl, by decide, by decide, S2, fun d H3 d0 d1 S3 B3 => ?_⟩
      refine ⟨_, _, rfl, rfl, _, _, rfl, ?_, ?_, S3, B2.trans B3⟩
      · have e : (10 : Int) ^ (Int.toNat 9) = 1000000000 := by decide
        rw [e]
        omega
      · have e : (10 : Int) ^ (Int.toNat 9) = 1000000000 := by decide
        have d1' : d < 1000000000 := by
          rw [← e]
          exact d1
        rw [e, Int.pow_succ]
        generalize (1000000000 : Int) ^ i = q at *
        omega
    · rintro σ H2 ⟨u, z, rfl, u0, u1, S2, B2⟩
      have hv : v.toNat ≤ 4 := by omega
      have hu : u < 1000000000 ^ 4 := by
        have h5 : v.toNat = 0 ∨ v.toNat = 1 ∨ v.toNat = 2 ∨ v.toNat = 3 ∨ v.toNat = 4 := by omega
        rcases h5 with h | h | h | h | h <;> (rw [h] at u1; exact Int.lt_of_lt_of_le u1 (by decide))
      refine ⟨_, rfl, _, rfl, p, _, rfl, by decide, by decide, S2, fun d H3 d0 d1 S3 B3 => ?_⟩
      refine ⟨_, _, rfl, rfl, _, rfl, p, _, rfl, by decide, by decide, S3, fun d2 H4 d20 d21 S4 B4 => ⟨rfl, _, rfl, ?_⟩⟩
      have e4 : (1000000000 : Int) ^ 4 = 1000000000000000000000000000000000000 := by decide
      have e2 : (2 : Nat) ^ 120 = 1329227995784915872903807060280344576 := by decide
      rw [e4] at hu
      refine ite2 (fun _ => ⟨_, rfl, _, rfl, k _ H4 ?_ S4 ((B2.trans B3).trans B4)⟩) (fun _ => ⟨_, rfl, k _ H4 ?_ S4 ((B2.trans B3).trans B4)⟩)
      · show (-(u + d)).natAbs < 2 ^ 120
        omega
      · show (u + d).natAbs < 2 ^ 120
        omega
end
end Sq

namespace Sq
open PySem L2 PyProof.Rows
abbrev s_noRatioInit : Stmt := inClass (top 4) 0
abbrev s_isint : Stmt := top 6
abbrev s_ratioInit : Stmt := inClass (top 12) 0
/-- // by any number but 0 whose size is below 2 ^ 9000 -/
def CDivZ (_ j : Int) : Prop := j ≠ 0 ∧ j.natAbs < 2 ^ 8000
theorem op_fdivZ {X : Cx} : OpR X (binaryOp .FloorDiv) (rI CDivZ fun i j => .int (i.fdiv j)) := opI fun i j _ _ _ _ _ hc q =>
  floordiv_int hc.1 q (.inl (PyProof.noPylong_of_log2 (Nat.lt_of_lt_of_le (PySem.Flt.log2_lt_of (by decide) hc.2) (by decide))))
/-! ### the fraction in lowest terms -/
structure Low (a b t u : Int) : Prop where
  pos : 1 ≤ u
  cop : Int.gcd t u = 1
  val : t * b = a * u
  lt : t.natAbs ≤ a.natAbs
  lu : u.natAbs ≤ b.natAbs
theorem low_of {a b c : Int} (hb : b ≠ 0) (hc : c = (Int.gcd a b : Int) ∧ 0 < b ∨ c = -(Int.gcd a b : Int) ∧ b < 0) : Low a b (a.fdiv c) (b.fdiv c) := by
  have hg : 0 < Int.gcd a b := Int.gcd_pos_of_ne_zero_right a hb
  have da : c ∣ a := by
    rcases hc with ⟨rfl, _⟩ | ⟨rfl, _⟩
    · exact Int.gcd_dvd_left ..
    · exact Int.neg_dvd.mpr (Int.gcd_dvd_left ..)
  have db : c ∣ b := by
    rcases hc with ⟨rfl, _⟩ | ⟨rfl, _⟩
    · exact Int.gcd_dvd_right ..
    · exact Int.neg_dvd.mpr (Int.gcd_dvd_right ..)
  have c0 : c ≠ 0 := by omega
  obtain ⟨t, ht⟩ := da
  obtain ⟨u, hu⟩ := db
  have et : a.fdiv c = t := by rw [ht]; exact Int.mul_fdiv_cancel_left _ c0
  have eu : b.fdiv c = u := by rw [hu]; exact Int.mul_fdiv_cancel_left _ c0
  rw [et, eu]
  have cn : c.natAbs = Int.gcd a b := by omega
  have c1 : 1 ≤ c.natAbs := by omega
  have gcu : Int.gcd a b = c.natAbs * Int.gcd t u := by
    rw [ht, hu, Int.gcd_mul_left]
  refine ⟨?_, ?_, ?_, ?_, ?_⟩
  · have : 0 < u := by
      rcases hc with ⟨h1, h2⟩ | ⟨h1, h2⟩
      · refine Int.pos_of_mul_pos_right (a := c) ?_ (by omega)
        rw [← hu]
        exact h2
      · refine Int.pos_of_mul_pos_right (a := -c) ?_ (by omega)
        rw [Int.neg_mul, ← hu]
        omega
    omega
  · rw [cn] at gcu
    exact (Nat.eq_of_mul_eq_mul_left hg (by rw [Nat.mul_one]; exact gcu)).symm
  · rw [ht, hu, Int.mul_assoc, Int.mul_left_comm]
  · rw [ht, Int.natAbs_mul]
    exact Nat.le_mul_of_pos_left _ c1
  · rw [hu, Int.natAbs_mul]
    exact Nat.le_mul_of_pos_left _ c1
/-! ### the objects -/
def rfl_ (t u : Int) : List (Str × V) := putF "bottom" (.int u) (putF "top" (.int t) [])
theorem tb : ¬ (("top" : Str) = "bottom") := by decide +kernel
theorem rf_top (t u : Int) : (rfl_ t u).lookup ("top" : Str) = some (.int t) := by
  unfold rfl_
  rw [lookup_putF, if_neg tb, lookup_putF, if_pos rfl]
theorem rf_bottom (t u : Int) : (rfl_ t u).lookup ("bottom" : Str) = some (.int u) := by
  unfold rfl_
  rw [lookup_putF, if_pos rfl]
theorem rf_no (t u : Int) {m : Str} (h1 : ¬ m = "bottom") (h2 : ¬ m = "top") : (rfl_ t u).lookup m = none := by
  unfold rfl_
  rw [lookup_putF, if_neg h1, lookup_putF, if_neg h2]
  rfl
def RatAt (C : Addr) (H : Hp) (x : Addr) (t u : Int) : Prop := ∃ dx, H x = some (.ins C dx (rfl_ t u))
/-- what a NoRatio carries -/
def wordAt (z : Str) : HO := .xd [(("word" : Str), .str z)]
/-- the word that is due, if any -/
def dueW (u v : V) : Option Str := if isI u then (if isI v then (if v = .int 0 then some "zero" else none) else some "bottom") else some "top"
def spRatioInit (K : PySem.W.Frag) (C CN : Addr) : Sp := fun vs H Q E => ∃ (x dx : Addr) (u v : V), vs = [.ref x, u, v] ∧ H x = some (.ins C dx []) ∧ IsTy K H u ∧ IsTy K H v ∧ (∀ b, v = .int b → b.natAbs < 2 ^ 8000) ∧
  (∀ z, dueW u v = some z → ∀ d, H d = none → E (.ref CN) (some d) (upd H d (wordAt z))) ∧
  (∀ a b, u = .int a → v = .int b → b ≠ 0 → ∀ t w H', Low a b t w → RatAt C H' x t w → But x H H' → Q .non H')
def spWordInit (CN : Addr) : Sp := fun vs H Q _ => ∃ (a : Addr) (y : V), vs = [.ref a, y] ∧ H a = some (exo a CN none) ∧ ∀ dx, H dx = none → dx ≠ a → Q .non (upd (upd H dx (exd dx [(("word" : Str), y)])) a (exo a CN (some dx)))
/-- the class of an error with the field word -/
structure NTx (K : PySem.W.Frag) (mg : Str → Option Value) (CN fN : Addr) : Prop where
  oex : OexC K CN
  nw : PySem.W.findIn K (.ref CN) "word" = some none
  iC : PySem.W.findIn K (.ref CN) "__init__" = some (some (.ref fN))
  tI : PySem.W.typeIn K (.ref fN) = some (.type "function")
structure CTx (K : PySem.W.Frag) (C : Addr) : Prop where
  cl : Cls K C
  nT : NoAttr K C "top"
  nB : NoAttr K C "bottom"
section
variable {P : Program} {w : World} {K : PySem.W.Frag} {mg : Str → Option Value} {base : Heap}
theorem sc_noRatioInit : FnScope ["self", "word"] ["self", "word"] (defScope s_noRatioInit) := ⟨rfl, rfl, rfl, by decide +kernel, rfl, by decide +kernel, by decide +kernel⟩
theorem ok_noRatioInit {f CN fN : Addr} {fd : FuncData} (F : Fun K "__init__" "NoRatio.__init__" s_noRatioInit f fd) (T : NTx K mg CN fN) : FnOk P w K mg base CX0 1 f fd ["self", "word"] (spWordInit CN) := by
  refine F.ok sc_noRatioInit (fun vs H Q E h => ?_) (fun cdv A outer s H vs Q E hr h => ?_)
  · obtain ⟨x, y, rfl, _⟩ := h
    rfl
  · obtain ⟨a, y, rfl, ha, k⟩ := h
    refine ⟨_, pss_one (ps_ost (pv 0) (pv 1)), ?_⟩
    exact ⟨_, rfl, _, rfl, a, CN, rfl, T.oex, T.nw, .inl ⟨ha, fun dx h1 h2 => k dx h1 h2⟩⟩
theorem sc_isint : FnScope ["value"] ["value"] (defScope s_isint) := ⟨rfl, rfl, rfl, by decide +kernel, rfl, by decide +kernel, by decide +kernel⟩
theorem ok_isint {f : Addr} {fd : FuncData} (F : Fun K "is_an_integer" "is_an_integer" s_isint f fd) (T : ITx mg) : FnOk P w K mg base CX0 1 f fd ["value"] (spIsInt K) := by
  refine F.ok sc_isint (fun vs H Q E h => ?_) (fun cdv A outer s H vs Q E hr h => ?_)
  · obtain ⟨x, rfl, _⟩ := h
    rfl
  · obtain ⟨x, rfl, ⟨t, b1, b2, ht, h1, h2, h3⟩, k⟩ := h
    refine ⟨_, pss_one (ps_ret (pe_and (pe_callB call_isi (by rfl) T.b_isinstance (by decide +kernel) (pa_cons (pv 0) (pa_cons (pe_bltn (v := .ty "int") (by rfl) T.b_int (by decide +kernel) rfl) pa_nil)))
      (pe_one (pe_not (pe_callB call_isi (by rfl) T.b_isinstance (by decide +kernel) (pa_cons (pv 0) (pa_cons (pe_bltn (v := .ty "bool") (by rfl) T.b_bool (by decide +kernel) rfl) pa_nil))))))), ?_⟩
    refine ⟨_, rfl, _, _, _, _, b1, rfl, .ty _, ht, h1, _, rfl, ?_⟩
    cases b1 with
    | false =>
      refine iteF ?_
      rw [← h3] at k
      exact k
    | true =>
      refine iteT ?_
      refine ⟨_, rfl, _, _, _, _, b2, rfl, .ty _, ht, h2, _, rfl, ?_⟩
      rw [← h3] at k
      exact k
end
end Sq
namespace Sq
open PySem L2 PyProof.Rows
theorem xd_eq {H : Hp} {a d CN : Addr} {y : V} (ha : H a = none) (n : d ≠ a) : upd (L2.del (upd (upd (upd H a (exo a CN none)) d (exd d [(("word" : Str), y)])) a (exo a CN (some d))) a) d (.xd [(("word" : Str), y)]) = upd H d (.xd [(("word" : Str), y)]) := by
  funext b
  by_cases h1 : b = d
  · subst h1
    rw [upd_same, upd_same]
  · rw [upd_ne h1, upd_ne h1]
    by_cases h2 : b = a
    · subst h2
      rw [del_same, ha]
    · rw [del_ne h2, upd_ne h2, upd_ne h1, upd_ne h2]
theorem mkO_read {CN : Addr} {z : Str} {H : Hp} {E : XK} (h : ∀ d, H d = none → E (.ref CN) (some d) (upd H d (wordAt z))) : ∀ a, H a = none → spWordInit CN (.ref a :: ([.str z] ++ [])) (upd H a (exo a CN none))
    (fun v H2 => v = .non ∧ ∃ (d : Addr) (fs : List (Str × V)), H2 a = some (exo a CN (some d)) ∧ H2 d = some (exd d fs) ∧ H d = none ∧ E (.ref CN) (some d) (upd (L2.del H2 a) d (.xd fs))) (fun _ _ _ => False) := fun a ha => by
  refine ⟨a, _, rfl, upd_same, fun dx h1 h2 => ⟨rfl, dx, [(("word" : Str), V.str z)], upd_same, ?_, ?_, ?_⟩⟩
  · exact (upd_ne h2).trans upd_same
  · rw [upd_ne h2] at h1
    exact h1
  · rw [upd_ne h2] at h1
    rw [xd_eq ha h2]
    exact h dx h1
theorem isI_int : ∀ {u : V}, isI u = true → ∃ a, u = .int a
  | .int i, _ => ⟨i, rfl⟩
  | .non, h => by cases h
  | .bl _, h => by cases h
  | .str _, h => by cases h
  | .byt _, h => by cases h
  | .flt _, h => by cases h
  | .ref _, h => by cases h
  | .ty _, h => by cases h
structure GTx (mg : Str → Option Value) (CN : Addr) : Prop where
  g_gcd : mg "gcd" = some (.builtin "math.gcd")
  m_NoRatio : mg "NoRatio" = some (.ref CN)
section
variable {P : Program} {w : World} {K : PySem.W.Frag} {mg : Str → Option Value} {base : Heap}
theorem sc_ratioInit : FnScope ["self", "top", "bottom", "common"] ["self", "top", "bottom"] (defScope s_ratioInit) := ⟨rfl, rfl, rfl, by decide +kernel, rfl, by decide +kernel, by decide +kernel⟩
theorem ok_ratioInit {f C CN fN fI : Addr} {fd fdN fdI : FuncData} (F : FunD K "__init__" "Ratio.__init__" (defArgs s_ratioInit) (defBody s_ratioInit) (defScope s_ratioInit) [.int 1] [] f fd) (T : CTx K C) (N : NTx K mg CN fN) (G : GTx mg CN)
    (G_N : FnOk P w K mg base CX0 1 fN fdN ["self", "word"] (spWordInit CN)) (b_N : Binds K fdN ["self", "word"] [])
    (G_I : FnOk P w K mg base CX0 1 fI fdI ["value"] (spIsInt K)) (m_I : mg "is_an_integer" = some (.ref fI)) (k_I : PySem.W.keepIn K (.ref fI) = true) (b_I : Binds K fdI ["value"] []) :
    FnOk P w K mg base (L2.CX P w) 3 f fd ["self", "top", "bottom"] (spRatioInit K C CN) := by
  refine F.ok sc_ratioInit (fun vs H Q E h => ?_) (fun cdv A outer s H vs Q E hr h => ?_)
  · obtain ⟨x, dx, u, v, rfl, _⟩ := h
    rfl
  · obtain ⟨x, dx, u, v, rfl, hx, tu, tv, hs, kE, kQ⟩ := h
    have hr1 : Room 1 _ := hr.mono (by decide)
    have raise := fun (z : Str) => (mkO_read (CN := CN) (z := z) (H := H) (E := E))
    refine ⟨_, (pss_cons (ps_if (pt_not (pt_val (pe_call G_I hr1 rfl m_I k_I b_I .nil pass0 (pa_cons (pv 1) pa_nil)))) (pss_one (ps_raise rfl (takes_of rfl rfl rfl rfl) (pmk_oex N.oex N.iC N.tI G_N hr b_N .nil pass0 rfl G.m_NoRatio (pa_cons pe_str pa_nil)))) pss_nil)
      (pss_cons (ps_if (pt_not (pt_val (pe_call G_I hr1 rfl m_I k_I b_I .nil pass0 (pa_cons (pv 2) pa_nil)))) (pss_one (ps_raise rfl (takes_of rfl rfl rfl rfl) (pmk_oex N.oex N.iC N.tI G_N hr b_N .nil pass0 rfl G.m_NoRatio (pa_cons pe_str pa_nil)))) pss_nil)
      (pss_cons (ps_if (pt_cmpR op_eq (pv 2) pe_int (nomark _)) (pss_one (ps_raise rfl (takes_of rfl rfl rfl rfl) (pmk_oex N.oex N.iC N.tI G_N hr b_N .nil pass0 rfl G.m_NoRatio (pa_cons pe_str pa_nil)))) pss_nil)
      (pss_cons (ps_set (i := 3) sc_ratioInit.nd rfl (Or.inl rfl) (pe_callBfun cr_gcd rfl G.g_gcd (pa_cons (pv 1) (pa_cons (pv 2) pa_nil))))
      (C8.pss_cut (ps_if (pt_cmpR op_lt (pv 2) pe_int (nomark _)) (pss_one (ps_set (i := 3) sc_ratioInit.nd rfl (Or.inl rfl) (pe_un un_neg (pv 3)))) pss_nil)
      (pss_cons (ps_fld (pv 0) (pe_op op_fdivZ (pv 1) (pv 3)) rfl)
      (pss_one (ps_fld (pv 0) (pe_op op_fdivZ (pv 2) (pv 3)) rfl)))))))), ?_⟩
    refine ⟨_, rfl, u, rfl, tu, _, rfl, ?_⟩
    cases eu : isI u with
    | false =>
      refine iteT ⟨by decide, raise "top" ?_⟩
      exact kE "top" (by unfold dueW; rw [eu]; rfl)
    | true =>
      refine iteF ⟨_, rfl, v, rfl, tv, _, rfl, ?_⟩
      cases ev : isI v with
      | false =>
        refine iteT ⟨by decide, raise "bottom" ?_⟩
        exact kE "bottom" (by unfold dueW; rw [eu, ev]; rfl)
      | true =>
        obtain ⟨a, rfl⟩ : ∃ a, u = .int a := by
          exact isI_int eu
        obtain ⟨b, rfl⟩ : ∃ b, v = .int b := by
          exact isI_int ev
        refine iteF ⟨_, rfl, rfl, _, rfl, ?_⟩
        refine ite2 (fun c => ?_) (fun c => ?_)
        · refine ⟨by decide, raise "zero" ?_⟩
          have e : b = 0 := by simpa using c
          subst e
          exact kE "zero" rfl
        · have hb : b ≠ 0 := fun e => c (by simp [e])
          refine ⟨_, rfl, _, rfl, a, b, rfl, ?_⟩
          refine ⟨fun σ H' => H' = H ∧ ∃ c : Int, σ = [some (.ref x), some (.int a), some (.int b), some (.int c)] ∧ (c = (Int.gcd a b : Int) ∧ 0 < b ∨ c = -(Int.gcd a b : Int) ∧ b < 0), ?_, ?_⟩
          · refine ⟨_, rfl, _, _, rfl, rfl, _, rfl, ?_⟩
            refine ite2 (fun c1 => ?_) (fun c1 => ?_)
            · refine ⟨_, rfl, _, rfl, rfl, _, rfl, .inr ⟨rfl, of_decide_eq_true c1⟩⟩
            · have c2 : ¬ b < 0 := fun e => c1 (decide_eq_true e)
              exact ⟨rfl, _, rfl, .inl ⟨rfl, by omega⟩⟩
          · rintro σ H' ⟨rfl, g, rfl, hg⟩
            have L := low_of hb hg
            have hgb : Int.gcd a b ≤ b.natAbs := Nat.le_of_dvd (by omega) (Int.gcd_dvd_natAbs_right ..)
            have hgp : 0 < Int.gcd a b := Int.gcd_pos_of_ne_zero_right a hb
            have cz : CDivZ a g := ⟨by omega, by have := hs b rfl; omega⟩
            refine ⟨_, rfl, _, rfl, _, _, rfl, rfl, cz, _, rfl, x, C, dx, [], rfl, hx, T.cl, T.nT, (by show 0 < 1000; decide), ?_⟩
            refine ⟨_, rfl, _, rfl, _, _, rfl, rfl, cz, _, rfl, x, C, dx, _, rfl, upd_same, T.cl, T.nB, (by show 1 < 1000; decide), ?_⟩
            exact kQ a b rfl rfl hb _ _ _ L ⟨dx, upd_same⟩ (But.refl x _).upd.upd
end
end Sq

namespace Sq
open PySem L2 PyProof.Rows
/-- C(..) in a try's body: what leaves is wished for at the slots -/
def tMkS (C : Addr) (sp : Sp) (dvs : List V) (W : L2.St → XK) (t : TA) : TE := fun σ H Q => t σ H fun vs H1 => ∀ y dy, H1 y = none → H1 dy = none → dy ≠ y →
  sp (.ref y :: (vs ++ dvs)) (upd (upd H1 dy (.own y)) y (.ins C dy [])) (fun v H2 => v = .non ∧ Q (.ref y) H2) (W σ)
theorem pe_mkS {X : Cx} {CX : CXT} {k : Nat} {f C : Addr} {fd : FuncData} {ps : List Str} {sp : Sp} {dvs : List V} {ds : List Value} {W : L2.St → XK} {x : Str} {p pos : Pos} {e : Expr} {es : List Expr} {t : TA}
    (M : Mk X.K C f) (G : FnOk X.prog X.w X.K X.mg X.base CX k f fd ps sp) (room : Room (k + 1) X.A) (gl : Gl X x) (mx : X.mg x = some (.ref C)) (bi : Binds X.K fd ps ds) (dv : Vals dvs ds) (ok : ∀ σ, PassesAt CX X σ (W σ))
    (ha : PA X (e :: es) t) (nd : (x == ("__debug__" : Str)) = false := by decide) (st : starEach (e :: es) X.env = (false, eval e X.env) :: starEach es X.env := by rfl)
    (pl : (backTo pos (starEach es X.env)).any (·.1) = false := by rfl) : PE X (.Call (.Name x p) (e :: es) [] pos) (tMkS C sp dvs W t) := by
  refine ⟨fun pins s σ H Q I h => wpAny_Call_Name_kw (ld_glob I gl mx (PySem.W.callWith_K (h₀ := X.base) I.ok.mod.kin M.kp (thn (ha.run pos pins s σ H _ I h) fun us s1 hh => ?_) st pl) nd)⟩
  obtain ⟨vs, H1, I1, r, q⟩ := hh
  refine ⟨I1.kIn, ?_⟩
  have n1 : H1 (s1.heap.objs.size + 1) = none := I1.hok.fresh (Nat.le_succ _)
  have n0 : H1 s1.heap.objs.size = none := I1.hok.fresh (Nat.le_refl _)
  have want := q _ _ n1 n0 (Nat.ne_of_lt (Nat.lt_succ_self _))
  have J := Inv.made (C := C) I1
  have rr : Vals (V.ref (s1.heap.objs.size + 1) :: (vs ++ dvs)) (Value.ref (s1.heap.objs.size + 1) :: (us ++ ds)) := Paired.cons rfl (Vals.append r dv)
  have lens : (Value.ref (s1.heap.objs.size + 1) :: us ++ ds).length = ps.length := (rr.length.symm.trans (G.len _ _ _ _ want))
  have run := G.run _ X.stack _ _ ⟨Value.ref (s1.heap.objs.size + 1) :: us, []⟩ (Value.ref (s1.heap.objs.size + 1) :: (us ++ ds)) _ _ (W σ) (room.make C us []) (J.env0.make C us []) (bi _ (Value.ref (s1.heap.objs.size + 1) :: us) J.kIn lens) rr want
  refine wpAny_call (make_map (f := f) I1.kIn M.makes M.init (beq_iff_eq.mp M.fn) (codeAny_mono run fun res s2 out => ?_))
  cases res with
  | error er => exact ok σ pins _ _ er s2 J out
  | ok flow =>
    cases flow with
    | ret val =>
      obtain ⟨v, H3, J3, rv, ev, z⟩ := J.after out
      cases ev
      exact ⟨rv, V.ref (s1.heap.objs.size + 1), H3, J3, rfl, z⟩
    | next => cases out
    | brk => cases out
    | cont => cases out
/-- isinstance(e, c), e the caught error with its own dict -/
structure EIx (K : PySem.W.Frag) (D : Addr) : Prop where
  hcl : (PySem.W.clsIn K D).isSome = true
  hga : PySem.W.findIn K (.ref D) "__getattribute__" = some (some (.builtin "BaseException.__getattribute__"))
  hgt : PySem.W.findIn K (.ref D) "__getattr__" = some none
  hsub : PySem.W.subIn K (.ref D) (.type "BaseException") = some true
  ha : PySem.W.findIn K (.ref D) "__class__" = some (some (.builtin "object.__class__"))
  hn : PySem.W.specialIn K (.builtin "object.__class__") "__get__" = some (some (.builtin "getset_descriptor.__get__"))
  htk : PySem.W.takesIn K (.builtin "object.__class__") = some true
  hm : PySem.W.mroIn K D (.type "object") = some true
def rIsX (K : PySem.W.Frag) (D a : Addr) (cls : Value) (d : Option Addr) : List V → Hp → VK → Prop := fun xs H Q => ∃ (c : V) (cv : Value) (b : Bool) (dd : Addr) (fs : List (Str × V)), xs = [.ref a, c] ∧ ClsV c cv ∧ PySem.W.kitOne K (.ref D) cv = some b ∧
  cls = .ref D ∧ d = some dd ∧ H dd = some (.xd fs) ∧ Q (.bl b) H
theorem call_isX {X : Cx} {a D : Addr} {oe : Obj} {cls : Value} {d : Option Addr} {pn : List (Addr × Obj)} (C : EIx X.K D) (hz : Zc cls d oe) (hf : ∃ vs, oe.data = .fields vs) : CallR (X.suite a ((a, oe) :: pn)) (.builtin "isinstance") (rIsX X.K D a cls d) := by
  intro pins s σ H xs us Q I r h
  obtain ⟨c, cv, b, dd, fs, rfl, hcv, e, ec, ed, hd, q⟩ := h
  obtain ⟨x1, x2, e1, r1, r2⟩ : ∃ x1 x2, us = [x1, x2] ∧ RelV (.ref a) x1 ∧ RelV c x2 := by
    cases r with
    | cons rx rr =>
      cases rr with
      | cons rt rn =>
        cases rn
        exact ⟨_, _, rfl, rx, rt⟩
  subst e1
  have e1 : x1 = Value.ref a := r1
  subst e1
  have e2 := hcv.eq r2
  subst e2
  obtain ⟨hget, _⟩ := I.pin (a, oe) (List.mem_append.mpr (.inl List.mem_cons_self))
  obtain ⟨vs, hv⟩ := hf
  obtain ⟨mA, hns, _⟩ := (show ObjOk X.prog X.w H s.heap dd (.xd fs) from I.hok dd _ hd)
  obtain ⟨od, ho, _⟩ := lookIn_ns hns
  have J : PySem.W.InstAt s.heap a oe D (some od) := ⟨hget, hz.1.trans ec, by unfold PySem.W.notCls; rw [hv], by rw [hz.2, ed]; exact ho⟩
  exact PySem.W.kia_one (PySem.W.kitx_exc C.hcl C.hga C.hgt C.hsub C.ha C.hn C.htk C.hm) I.kIn J e (fun z => nomatch z) fun tk => ⟨.bl b, H, I.kept (t' := tk) fun _ _ z => z, rfl, q⟩
structure ITy (K : PySem.W.Frag) (C : Addr) : Prop where
  ha : PySem.W.findIn K (.ref C) "__class__" = some (some (.builtin "object.__class__"))
  hn : PySem.W.specialIn K (.builtin "object.__class__") "__get__" = some (some (.builtin "getset_descriptor.__get__"))
  htk : PySem.W.takesIn K (.builtin "object.__class__") = some true
  hm : PySem.W.mroIn K C (.type "object") = some true
  kI : PySem.W.kitOne K (.ref C) (.type "int") = some false
  kB : PySem.W.kitOne K (.ref C) (.type "bool") = some false
theorem kit_self {K : PySem.W.Frag} {C : Addr} : PySem.W.kitOne K (.ref C) (.ref C) = some true := by
  unfold PySem.W.kitOne
  rw [if_pos (by simp)]
theorem RatAt.ty {K : PySem.W.Frag} {C : Addr} {H : Hp} {x : Addr} {t u : Int} (T : CTx K C) (Y : ITy K C) (h : RatAt C H x t u) : TyX K H (.ref x) (.ref C) := by
  obtain ⟨dx, h⟩ := h
  exact .base (.ins h T.cl Y.ha Y.hn Y.htk Y.hm)
theorem RatAt.isTy {K : PySem.W.Frag} {C : Addr} {H : Hp} {x : Addr} {t u : Int} (T : CTx K C) (Y : ITy K C) (h : RatAt C H x t u) : IsTy K H (.ref x) := ⟨_, _, _, h.ty T Y, Y.kI, Y.kB, rfl⟩
theorem mul_ok {a b : Int} (ha : a.natAbs < 2 ^ 4000) (hb : b.natAbs < 2 ^ 4000) : CMulW a b := wide_mul ha hb (by decide) (by decide) (by decide)
theorem IsTy.same {K : PySem.W.Frag} {H H' : Hp} {x : V} (s : Same H H') (h : IsTy K H x) : IsTy K H' x := by
  obtain ⟨t, b1, b2, ty, h1, h2, h3⟩ := h
  refine ⟨t, b1, b2, ?_, h1, h2, h3⟩
  cases ty with
  | base b =>
    refine .base ?_
    cases b with
    | non => exact .non
    | bl => exact .bl _
    | int => exact .int _
    | str => exact .str _
    | flt => exact .flt _
    | lst e => exact .lst (s _ _ e)
    | frz e => exact .frz (s _ _ e)
    | tup e => exact .tup (s _ _ e)
    | dK e => exact .dK (s _ _ e)
    | dT e => exact .dT (s _ _ e)
    | ins e c1 c2 c3 c4 c5 => exact .ins (s _ _ e) c1 c2 c3 c4 c5
  | byt => exact .byt _
  | set e => exact .set (s _ _ e)
  | kList e c => exact .kList e c
  | kTuple e c => exact .kTuple e c
  | kDict e c => exact .kDict e c
  | fTuple e => exact .fTuple (s _ _ e)
  | fDict e => exact .fDict (s _ _ e)
theorem same_made {H H1 : Hp} {x dx C : Addr} (nx : H x = none) (nd : H dx = none) (k : But x (upd (upd H dx (.own x)) x (.ins C dx [])) H1) : Same H H1 := fun b o e =>
  k b o (by rw [upd_ne (ne_of_none e nx), upd_ne (ne_of_none e nd)]; exact e) (ne_of_none e nx)
theorem same_pair {H : Hp} {x dx C : Addr} (nx : H x = none) (nd : H dx = none) (ne : dx ≠ x) : Same H (upd (upd H dx (.own x)) x (.ins C dx [])) := same_new (same_new (Same.refl H) nd) ((upd_ne ne.symm).trans nx)
theorem due_none {a b : Int} (hb : b ≠ 0) : dueW (.int a) (.int b) = none := by
  unfold dueW
  have : ¬ (V.int b = V.int 0) := fun e => hb (V.int.inj e)
  simp [isI, this]
theorem due_top {u v : V} (h : isI u = false) : dueW u v = some ("top" : Str) := by
  unfold dueW
  simp [h]
theorem due_bottom {a : Int} {v : V} (h : isI v = false) : dueW (.int a) v = some ("bottom" : Str) := by
  unfold dueW
  rw [if_pos (show isI (.int a) = true from rfl), h, if_neg Bool.false_ne_true]
theorem mk_go {K : PySem.W.Frag} {C CN x dx : Addr} {H : Hp} {a b : Int} {Q : VK} {E : XK} (hb : b ≠ 0) (sb : b.natAbs < 2 ^ 8000) (nx : H x = none) (ndx : H dx = none) (_ne : dx ≠ x) (k : ∀ t u H', Low a b t u → RatAt C H' x t u → Same H H' → Q .non H') :
    spRatioInit K C CN [.ref x, .int a, .int b] (upd (upd H dx (.own x)) x (.ins C dx [])) Q E :=
  ⟨x, dx, _, _, rfl, upd_same, .int _, .int _, fun b' e => (by cases e; exact sb), fun z hz => (by rw [due_none hb] at hz; cases hz), fun a' b' ea eb _ t w H' L R Bt => by
    cases ea
    cases eb
    exact k t w H' L R (same_made nx ndx Bt)⟩
def spLaw (K : PySem.W.Frag) : Sp := fun vs H Q _ => ∃ (a : Addr) (ns : List Int), vs = [.ref a] ∧ SqL K H a (ns.map V.int) ∧ ns.length ≤ 63 ∧ ∀ H', Q (.bl true) H'
end Sq

namespace Sq
open PySem L2
/-! ### decimal texts as lists of signs -/
theorem head_app {a b : List Nat} (h : a ≠ []) : (a ++ b).head? = a.head? := by
  cases a with
  | nil => exact absurd rfl h
  | cons c r => rfl
theorem dvd_cop {x y z : Int} (h : x ∣ y * z) (c : Int.gcd y x = 1) : x ∣ z := by
  have h1 : x.natAbs ∣ y.natAbs * z.natAbs := by
    rw [← Int.natAbs_mul]
    exact Int.natAbs_dvd_natAbs.mpr h
  have h2 : Nat.Coprime x.natAbs y.natAbs := by
    unfold Nat.Coprime
    rw [Nat.gcd_comm]
    exact c
  exact Int.natAbs_dvd_natAbs.mp (Nat.Coprime.dvd_of_dvd_mul_left h2 h1)
def sgn (t : Int) : List Nat := if t < 0 then [45] else []
def tail1 (u : Int) : List Nat := if u = 1 then [] else 47 :: TL.numL u.natAbs
def txt (t u : Int) : List Nat := sgn t ++ (TL.numL t.natAbs ++ tail1 u)
structure TFit (a : List Nat) (t u : Int) : Prop where
  pos : 1 ≤ u
  cop : Int.gcd t u = 1
  eq : a = txt t u
  lt : (TL.numL t.natAbs).length ≤ 60
  lu : (TL.numL u.natAbs).length ≤ 60
/-- digits, at least one, at most 60 -/
structure Dig (p : List Nat) : Prop where
  ne : p ≠ []
  len : p.length ≤ 60
  dig : NumText.AllDigits p
def Pl (p : List Nat) : Prop := ∃ n, p = TL.numL n ∧ p.length ≤ 60
theorem Dig.num {n : Nat} (h : (TL.numL n).length ≤ 60) : Dig (TL.numL n) := ⟨TL.numL_ne n, h, TL.numL_digits n⟩
theorem num_int (t : Int) : Str.ofString (toString t) = SX.S (sgn t ++ TL.numL t.natAbs) := by
  by_cases h : t < 0
  · apply TL.ext_tl
    rw [PyProof.Rows.toString_neg h, TL.tl_ofString, String.toList_append, List.map_append, ← TL.tl_ofString (toString (0 - t))]
    have e : (0 - t : Int) = ((t.natAbs : Nat) : Int) := by omega
    rw [e, TL.tl_num]
    unfold sgn
    rw [if_pos h]
    rfl
  · have e : t = ((t.natAbs : Nat) : Int) := by omega
    have e2 : sgn t = [] := if_neg h
    rw [e2, List.nil_append]
    conv => lhs; rw [e]
    exact SX.num_S _
theorem val_go : ∀ (l : List Nat) (a : Nat), NumText.AllDigits l → l.foldl (fun acc c => acc * 10 + (c - 48)) a < (a + 1) * 10 ^ l.length
  | [], a, _ => by simp
  | c :: l, a, h => by
    rw [List.foldl_cons, List.length_cons, Nat.pow_succ]
    have hc := h.head
    have ih := val_go l (a * 10 + (c - 48)) h.tail
    refine Nat.lt_of_lt_of_le ih ?_
    have : (a * 10 + (c - 48) + 1) ≤ (a + 1) * 10 := by omega
    calc (a * 10 + (c - 48) + 1) * 10 ^ l.length ≤ ((a + 1) * 10) * 10 ^ l.length := Nat.mul_le_mul_right _ this
      _ = (a + 1) * (10 ^ l.length * 10) := by rw [Nat.mul_assoc, Nat.mul_comm 10]
theorem val_lt {p : List Nat} (h : NumText.AllDigits p) : NumText.digitsVal p < 10 ^ p.length := by
  have := val_go p 0 h
  unfold NumText.digitsVal
  rw [Nat.zero_add, Nat.one_mul] at this
  exact this
theorem val_snoc (q : List Nat) (c : Nat) : NumText.digitsVal (q ++ [c]) = NumText.digitsVal q * 10 + (c - 48) := by
  unfold NumText.digitsVal
  rw [List.foldl_append]
  rfl
theorem numL_head {n : Nat} (h : n ≠ 0) : (TL.numL n).head? ≠ some 48 := by
  induction n using Nat.strongRecOn with
  | _ n ih =>
    by_cases h1 : n < 10
    · rw [TL.numL_lt h1]
      intro e
      have : 48 + n = 48 := Option.some.inj e
      omega
    · rw [TL.numL_step (by omega), head_app (TL.numL_ne _)]
      exact ih (n / 10) (by omega) (by omega)
theorem numL_zero : TL.numL 0 = [48] := TL.numL_lt (by decide)
/-- digits without a leading zero are a number's text -/
theorem num_of (r : List Nat) : NumText.AllDigits r.reverse → r ≠ [] → (r.reverse.head? ≠ some 48 ∨ r = [48]) → r.reverse = TL.numL (NumText.digitsVal r.reverse) := by
  induction r with
  | nil => intro _ h _; exact absurd rfl h
  | cons c r ih =>
    intro hd _ hz
    rw [List.reverse_cons] at hd hz ⊢
    have hc : 48 ≤ c ∧ c ≤ 57 := hd c (List.mem_append_right _ (List.mem_singleton.mpr rfl))
    rw [val_snoc]
    by_cases hr : r = []
    · subst hr
      rw [List.reverse_nil, List.nil_append]
      have e : NumText.digitsVal [] = 0 := rfl
      rw [e, Nat.zero_mul, Nat.zero_add, TL.numL_lt (by omega)]
      congr 1
      omega
    · have hrr : r.reverse ≠ [] := fun e => hr (List.reverse_eq_nil_iff.mp e)
      have hh : r.reverse.head? ≠ some 48 := by
        rcases hz with hz | hz
        · rwa [head_app hrr] at hz
        · cases hz
          exact absurd rfl hr
      have hq := ih (fun d hd' => hd d (List.mem_append_left _ hd')) hr (.inl hh)
      have hv : NumText.digitsVal r.reverse ≠ 0 := fun e => by
        rw [e, numL_zero] at hq
        rw [hq] at hh
        exact hh rfl
      rw [TL.numL_step (by omega)]
      have e1 : (NumText.digitsVal r.reverse * 10 + (c - 48)) / 10 = NumText.digitsVal r.reverse := by omega
      have e2 : 48 + (NumText.digitsVal r.reverse * 10 + (c - 48)) % 10 = c := by omega
      rw [e1, e2, ← hq]
theorem pl_of {p : List Nat} (hd : Dig p) (hz : p.head? ≠ some 48 ∨ p = [48]) : p = TL.numL (NumText.digitsVal p) := by
  have := num_of p.reverse (by rw [List.reverse_reverse]; exact hd.dig) (fun e => hd.ne (List.reverse_eq_nil_iff.mp e)) (by
    rw [List.reverse_reverse]
    rcases hz with h | h
    · exact .inl h
    · exact .inr (by rw [h]; rfl))
  rwa [List.reverse_reverse] at this
theorem num_dig {n : Nat} : ∀ c ∈ TL.numL n, 48 ≤ c ∧ c ≤ 57 := fun c hc => TL.numL_digits n c hc
theorem num_no {n s : Nat} (h : s < 48 ∨ 57 < s) : s ∉ TL.numL n := TL.numL_free h
theorem num_head45 {n : Nat} {r : List Nat} : ¬ ∃ b, TL.numL n ++ r = 45 :: b := fun ⟨b, e⟩ => by
  cases h : TL.numL n with
  | nil => exact TL.numL_ne n h
  | cons c q =>
    rw [h] at e
    have := num_dig (n := n) c (by rw [h]; exact List.mem_cons_self)
    have e1 : c = 45 := (List.cons.inj e).1
    omega
/-! ### cutting at the slash -/
theorem cut_at (b : List Nat) : 47 ∉ b ∨ ∃ p q, b = p ++ 47 :: q ∧ 47 ∉ p := by
  by_cases h : 47 ∈ b
  · exact .inr (List.eq_append_cons_of_mem h)
  · exact .inl h
theorem cut_uniq {p q p' q' : List Nat} (h : p ++ 47 :: q = p' ++ 47 :: q') (n : 47 ∉ p) (n' : 47 ∉ p') : p = p' ∧ q = q' := by
  have e1 := SX.par_head (c := 47) (sep := []) q n
  have e2 := SX.par_head (c := 47) (sep := []) q' n'
  simp only [List.cons_append, List.nil_append] at e1 e2
  rw [h] at e1
  have := Option.some.inj (e1.symm.trans e2)
  exact ⟨congrArg Prod.fst this, congrArg Prod.snd this⟩
theorem spl_no {b : List Nat} (h : 47 ∉ b) : TL.spl [47] 0 [] b = [b] := TL.spl_last1 h
theorem spl_yes {p q : List Nat} (h : 47 ∉ p) : TL.spl [47] 0 [] (p ++ 47 :: q) = p :: TL.spl [47] 0 [] q := by
  have := TL.spl_part1 (s := 47) (S := []) (p := p) (rest := q) (acc := []) h
  simpa using this
theorem spl_two {p q1 q2 : List Nat} (h : 47 ∉ p) (h1 : 47 ∉ q1) : ∃ r1 r, TL.spl [47] 0 [] (p ++ 47 :: (q1 ++ 47 :: q2)) = p :: q1 :: r1 :: r := by
  rw [spl_yes h, spl_yes h1]
  have ne : TL.spl [47] 0 [] q2 ≠ [] := by
    rcases cut_at q2 with e | ⟨a, b, rfl, e⟩
    · rw [spl_no e]; simp
    · rw [spl_yes e]; simp
  cases h2 : TL.spl [47] 0 [] q2 with
  | nil => exact absurd h2 ne
  | cons r1 r => exact ⟨r1, r, rfl⟩
/-! ### which texts fit -/
def neg1 (g : Bool) (n : Nat) : Int := if g then -(n : Int) else n
def sg1 (g : Bool) (b : List Nat) : List Nat := if g then 45 :: b else b
theorem neg1_abs (g : Bool) (n : Nat) : (neg1 g n).natAbs = n := by
  unfold neg1
  cases g <;> simp
theorem sgn_neg1 {g : Bool} {n : Nat} (h : g = true → n ≠ 0) (b : List Nat) : sgn (neg1 g n) ++ b = sg1 g b := by
  unfold sgn neg1 sg1
  cases g with
  | false =>
    have e : ¬ (if false = true then -(n : Int) else n) < 0 := by simp
    rw [if_neg e]
    rfl
  | true =>
    have := h rfl
    have e : (if true = true then -(n : Int) else n) < 0 := by
      rw [if_pos rfl]
      omega
    rw [if_pos e]
    rfl
theorem fit_one1 {g : Bool} {n : Nat} (h : g = true → n ≠ 0) (l : (TL.numL n).length ≤ 60) : TFit (sg1 g (TL.numL n)) (neg1 g n) 1 := by
  refine ⟨by decide, Int.gcd_one_right _, ?_, by rw [neg1_abs]; exact l, by decide⟩
  unfold txt tail1
  rw [if_pos rfl, List.append_nil, neg1_abs, sgn_neg1 h]
theorem fit_two {g : Bool} {n m : Nat} (h : g = true → n ≠ 0) (l : (TL.numL n).length ≤ 60) (lm : (TL.numL m).length ≤ 60) (m2 : 2 ≤ m) (c : Int.gcd (neg1 g n) m = 1) : TFit (sg1 g (TL.numL n ++ 47 :: TL.numL m)) (neg1 g n) m := by
  refine ⟨by omega, c, ?_, by rw [neg1_abs]; exact l, lm⟩
  unfold txt tail1
  rw [if_neg (by omega), neg1_abs, sgn_neg1 h]
  rfl
/-- from a text that fits, back to its parts -/
theorem fit_inv {g : Bool} {b : List Nat} {t u : Int} (F : TFit (sg1 g b) t u) (hb : g = false → ¬ ∃ r, b = 45 :: r) : b = TL.numL t.natAbs ++ tail1 u ∧ t = neg1 g t.natAbs ∧ (g = true → t.natAbs ≠ 0) := by
  have e := F.eq
  unfold txt sgn at e
  cases g with
  | false =>
    have e' : b = (if t < 0 then [45] else []) ++ (TL.numL t.natAbs ++ tail1 u) := e
    by_cases h : t < 0
    · rw [if_pos h] at e'
      exact absurd ⟨_, e'⟩ (hb rfl)
    · rw [if_neg h, List.nil_append] at e'
      exact ⟨e', by unfold neg1; simp; omega, fun z => Bool.noConfusion z⟩
  | true =>
    have e' : 45 :: b = (if t < 0 then [45] else []) ++ (TL.numL t.natAbs ++ tail1 u) := e
    by_cases h : t < 0
    · rw [if_pos h] at e'
      exact ⟨(List.cons.inj e').2, by unfold neg1; simp; omega, fun _ => by omega⟩
    · rw [if_neg h, List.nil_append] at e'
      exact absurd ⟨_, e'.symm⟩ num_head45
theorem tail_no {t : Nat} {u : Int} {b : List Nat} (e : b = TL.numL t ++ tail1 u) (h : 47 ∉ b) : u = 1 ∧ b = TL.numL t := by
  unfold tail1 at e
  by_cases c : u = 1
  · rw [if_pos c, List.append_nil] at e
    exact ⟨c, e⟩
  · rw [if_neg c] at e
    exact absurd (by rw [e]; simp) h
theorem tail_yes {t : Nat} {u : Int} {p q : List Nat} (e : p ++ 47 :: q = TL.numL t ++ tail1 u) (h : 47 ∉ p) : u ≠ 1 ∧ p = TL.numL t ∧ q = TL.numL u.natAbs := by
  unfold tail1 at e
  by_cases c : u = 1
  · rw [if_pos c, List.append_nil] at e
    exact absurd (show 47 ∈ TL.numL t by rw [← e]; simp) (num_no (by decide))
  · rw [if_neg c] at e
    exact ⟨c, cut_uniq e h (num_no (by decide))⟩
theorem low_id {t u a b : Int} (h1 : 1 ≤ u) (c : Int.gcd t u = 1) (L : Low t u a b) : a = t ∧ b = u := by
  have ha : u ∣ b := by
    have : (u : Int) ∣ t * b := ⟨a, by rw [Int.mul_comm u a]; exact L.val.symm⟩
    exact dvd_cop this c
  have hb : b ∣ u := by
    have : (b : Int) ∣ a * u := ⟨t, by rw [L.val, Int.mul_comm]⟩
    exact dvd_cop this L.cop
  have e : b = u := Int.dvd_antisymm (by have := L.pos; omega) (by omega) hb ha
  have v := L.val
  rw [e] at v
  exact ⟨Int.eq_of_mul_eq_mul_right (by omega) v, e⟩
/-- what the law works out from a, b is the text of the fraction in lowest terms -/
theorem low_parts {a b t u : Int} (hb : b ≠ 0) (L : Low a b t u) : ∃ k : Int, k ≠ 0 ∧ a = t * k ∧ b = u * k ∧ Int.gcd a b = k.natAbs := by
  have h1 : u ∣ b := by
    have : u ∣ t * b := ⟨a, by rw [L.val, Int.mul_comm]⟩
    exact dvd_cop this L.cop
  obtain ⟨k, hk⟩ := h1
  have u0 : u ≠ 0 := by have := L.pos; omega
  have hk0 : k ≠ 0 := fun e => hb (by rw [hk, e, Int.mul_zero])
  have ha : a = t * k := by
    have v := L.val
    rw [hk, Int.mul_left_comm, ] at v
    refine Int.eq_of_mul_eq_mul_left u0 ?_
    rw [v, Int.mul_comm]
  refine ⟨k, hk0, ha, hk, ?_⟩
  rw [ha, hk, Int.gcd_mul_right, L.cop, Nat.one_mul]
/-! ### ASCII -/
def Asc (a : List Nat) : Prop := ∀ c ∈ a, c < 128
theorem digit_asc : ∀ c : Nat, c < 128 → Unicode.isDigit c = (decide (48 ≤ c) && decide (c ≤ 57)) := by decide +kernel
theorem isascii_S (a : List Nat) : Txt.isascii (SX.S a) = true ↔ Asc a := by
  unfold Txt.isascii Asc
  rw [show (SX.S a).cps = a.toArray from rfl, List.all_toArray, List.all_eq_true]
  exact ⟨fun h c hc => of_decide_eq_true (h c hc), fun h c hc => decide_eq_true (h c hc)⟩
theorem isdigit_S {a : List Nat} (h : Asc a) : Txt.isdigit (SX.S a) = true ↔ a ≠ [] ∧ NumText.AllDigits a := by
  unfold Txt.isdigit
  rw [show (SX.S a).cps = a.toArray from rfl, List.all_toArray, SX.S_len, Bool.and_eq_true, List.all_eq_true, decide_eq_true_eq]
  constructor
  · rintro ⟨h1, h2⟩
    refine ⟨fun e => by rw [e] at h1; exact absurd h1 (by decide), fun c hc => ?_⟩
    have := h2 c hc
    rw [digit_asc c (h c hc), Bool.and_eq_true, decide_eq_true_eq, decide_eq_true_eq] at this
    exact this
  · rintro ⟨h1, h2⟩
    refine ⟨List.length_pos_iff.mpr h1, fun c hc => ?_⟩
    rw [digit_asc c (h c hc), Bool.and_eq_true, decide_eq_true_eq, decide_eq_true_eq]
    exact h2 c hc
theorem rp_yes (b : List Nat) : Txt.removeprefix (SX.S (45 :: b)) (SX.S [45]) = SX.S b := by
  unfold Txt.removeprefix
  have e : Builtin.Str.subAt (SX.S (45 :: b)) (SX.S [45]) 0 = true := by
    unfold Builtin.Str.subAt
    rw [beq_iff_eq]
    show (45 :: b).toArray.extract 0 (0 + 1) = [45].toArray
    apply Array.toList_inj.mp
    simp
  rw [if_pos e]
  unfold Txt.affix
  show (if (SX.S (45 :: b)).length - 1 == (SX.S (45 :: b)).length then _ else _) = _
  rw [SX.S_len, List.length_cons, if_neg (by simp)]
  apply TL.ext_tl
  rw [TL.tl_strSub]
  show ((45 :: b).drop 1).take _ = b
  rw [List.drop_succ_cons, List.drop_zero]
  refine List.take_of_length_le ?_
  show b.length ≤ (b.length + 1) - 1
  omega
theorem rp_no {a : List Nat} (h : ¬ ∃ b, a = 45 :: b) : Txt.removeprefix (SX.S a) (SX.S [45]) = SX.S a := by
  unfold Txt.removeprefix
  have e : ¬ Builtin.Str.subAt (SX.S a) (SX.S [45]) 0 = true := by
    unfold Builtin.Str.subAt
    rw [beq_iff_eq]
    intro q
    have q1 : (a.toArray.extract 0 (0 + 1)) = [45].toArray := q
    have q2 : a.take 1 = [45] := by
      have := congrArg Array.toList q1
      simpa using this
    cases a with
    | nil => cases q2
    | cons c r =>
      have : c = 45 := (List.cons.inj q2).1
      exact h ⟨r, by rw [this]⟩
  rw [if_neg e]
  rfl
theorem int_dig {p : List Nat} (h : Dig p) : intText? (SX.S p) = some ((NumText.digitsVal p : Nat) : Int) := intText_digits (x := SX.S p) h.dig h.ne (by rw [SX.S_len]; have := h.len; omega)
theorem int_neg {p : List Nat} (h : Dig p) : intText? (SX.S (45 :: p)) = some (-((NumText.digitsVal p : Nat) : Int)) := intText_neg (x := SX.S (45 :: p)) (cs := p) rfl h.dig h.ne (by rw [SX.S_len, List.length_cons]; have := h.len; omega)
theorem int_sg {g : Bool} {p : List Nat} (h : Dig p) : intText? (SX.S (sg1 g p)) = some (neg1 g (NumText.digitsVal p)) := by
  cases g with
  | false => exact int_dig h
  | true => exact int_neg h
theorem dig_len {p : List Nat} (h : Dig p) : NumText.digitsVal p < 10 ^ 60 := Nat.lt_of_lt_of_le (val_lt h.dig) (Nat.pow_le_pow_right (by decide) h.len)
theorem numL_len60 {n : Nat} (h : n < 10 ^ 60) : (TL.numL n).length ≤ 60 := TL.numL_len (by decide) h
end Sq

-- needs HandS.FStr
-- needs HandS.StrMore
-- needs HandS.Iter
-- needs HandS.Comp
namespace Sq
open PySem L2 PyProof.Rows
/-- c * k, c one sign -/
theorem fold_rep (c : Nat) : ∀ (n : Nat) (acc : Array Nat), (List.replicate n #[c]).foldl (· ++ ·) acc = acc ++ (List.replicate n c).toArray
  | 0, acc => by simp
  | n + 1, acc => by
    rw [List.replicate_succ, List.foldl_cons, fold_rep c n, List.replicate_succ, Array.append_assoc]
    congr 1
    apply Array.toList_inj.mp
    simp
theorem op_mulS {X : Cx} : OpR X (binaryOp .Mult) (fun x y H Q => ∃ (c : Nat) (k : Int), x = .str (SX.S [c]) ∧ y = .int k ∧ 2 ≤ k ∧ k ≤ 1000 ∧ Q (.str (SX.S (List.replicate k.toNat c))) H) := by
  intro pins s σ H x y v u Q I rx ry h
  obtain ⟨c, k, rfl, rfl, h1, h2, q⟩ := h
  obtain ⟨t, rfl⟩ := rx
  obtain ⟨t', rfl⟩ := ry
  have hl : (SX.S [c]).length = 1 := SX.S_len [c]
  refine PySem.P.mul_str ?_ ?_ ?_ ?_
  · rw [decide_eq_false (by omega), decide_eq_false (by omega)]
    rfl
  · intro _ _ hh
    rw [hl] at hh
    have : (1 : Int) ≤ (2 ^ 63 - 1) / k := by
      rw [Int.le_ediv_iff_mul_le (by omega)]
      omega
    omega
  · intro _ _
    rw [hl, Nat.one_mul]
    unfold PySem.Builtin.Str.tooLong
    have e : (sizeLine : Nat) = 16777216 := sizeLine_eq
    simp only [e]
    exact decide_eq_false (by omega)
  · rw [if_neg (by omega)]
    have c1 : (k == 1 || (SX.S [c]).length == 0) = false := by
      rw [hl, Bool.or_eq_false_iff]
      exact ⟨beq_eq_false_iff_ne.mpr (by omega), rfl⟩
    rw [if_neg (by rw [c1]; exact Bool.false_ne_true)]
    have e : (⟨(List.replicate k.toNat (SX.S [c]).cps).foldl (· ++ ·) #[]⟩ : Str) = SX.S (List.replicate k.toNat c) := by
      apply TL.ext_tl
      show ((List.replicate k.toNat #[c]).foldl (· ++ ·) #[]).toList = _
      rw [fold_rep]
      simp [SX.S, TL.tl]
    rw [e]
    refine ⟨?_, ⟨.str (SX.S (List.replicate k.toNat c)), H, I.tok _, ⟨_, rfl⟩, q⟩⟩
    rw [SX.S_len, List.length_replicate]
    have e : (sizeLine : Nat) = 16777216 := sizeLine_eq
    omega
/-- C.m is a staticmethod: its record at p, its def at f -/
structure SMet (K : PySem.W.Frag) (C : Addr) (mc : Value) (m : Str) (p f : Addr) : Prop where
  rd : PySem.W.readsIn K C mc = true
  ga : PySem.W.specialIn K (.ref C) "__getattribute__" = some (some (.builtin "type.__getattribute__"))
  at_ : PySem.W.findCls K (.ref C) mc m = some (.get (.builtin "staticmethod.__get__") (.ref p) .none (.ref C))
  rc : ∃ rest, PySem.W.recIn K p "staticmethod" = some (.ref f :: rest)
  kp : PySem.W.keepIn K (.ref f) = true
def tSmS (C : Addr) (sp : Sp) (W : L2.St → XK) (to : TE) (t : TA) : TE := fun σ H Q => to σ H fun x H1 => x = .ref C ∧ t σ H1 fun vs H2 => sp vs H2 Q (W σ)
/-- C.m(..), m a staticmethod, in a try's body: what leaves is wished for at the slots -/
theorem pe_smS {X : Cx} {CX : CXT} {k : Nat} {f p C : Addr} {mc : Value} {fd : FuncData} {ps : List Str} {sp : Sp} {W : L2.St → XK} {m : Str} {apos pos : Pos} {o e : Expr} {es : List Expr} {to : TE} {t : TA} {pl : Sem Bool}
    (ho : PE X o to) (me : SMet X.K C mc m p f) (G : FnOk X.prog X.w X.K X.mg X.base CX k f fd ps sp) (room : Room k X.A) (bi : Binds X.K fd ps []) (ok : ∀ σ, PassesAt CX X σ (W σ)) (ha : PA X (e :: es) t)
    (st : starEach (e :: es) X.env = (false, eval e X.env) :: starEach es X.env := by rfl) (np : (backTo pos (starEach es X.env)).any (·.1) = false := by rfl)
    (ev : eval (.Call (.Attribute o m apos) (e :: es) [] pos) X.env = (do let ov ← eval o X.env; standAt apos.atName; let (f, first) ← holding [ov] (getMethod ov m pl); callWith pos f first (backTo pos (starEach (e :: es) X.env)) (backToKw pos (keywordEach [] X.env))) := by rfl) :
    PE X (.Call (.Attribute o m apos) (e :: es) [] pos) (tSmS C sp W to t) := by
  refine ⟨fun pins s σ H Q I h => PySem.W.methodCall_KW (pl := pl) (thn (ho.run pins s σ H _ I h) fun u s1 hh => ?_) ev⟩
  obtain ⟨x, H1, I1, rx, ex, q⟩ := hh
  cases ex
  obtain rfl : u = Value.ref C := rx
  obtain ⟨rest, hp⟩ := me.rc
  refine PySem.W.method_cls I1.kIn me.ga (PySem.W.cls_bind I1.kIn me.rd me.at_ (wpAny_call (PySem.W.sm_get (s := { s1 with toks := s1.toks + 1 }) I1.kIn hp (PySem.W.handed_on rfl ?_))))
  refine PySem.W.callWith_K (first := []) (h₀ := X.base) I1.ok.mod.kin me.kp (thn (ha.run pos pins _ σ H1 _ (I1.tok _) q) fun us s2 h2 => ?_) st np
  obtain ⟨vs, H2, I2, r, q2⟩ := h2
  exact ⟨I2.kIn, run_fnS (us := us) (vs := vs) G room bi (ok σ) I2 r q2⟩
/-- is it a text -/
def IsS (K : PySem.W.Frag) (H : Hp) (x : V) (b : Bool) : Prop := ∃ t, TyX K H x t ∧ PySem.W.kitOne K t (.type "str") = some b
theorem IsS.str {K : PySem.W.Frag} {H : Hp} (z : Str) : IsS K H (.str z) true := ⟨.type "str", .base (.str z), kit_ty (by decide +kernel)⟩
theorem IsS.int {K : PySem.W.Frag} {H : Hp} (z : Int) : IsS K H (.int z) false := ⟨.type "int", .base (.int z), kit_ty (by decide +kernel)⟩
theorem IsS.non {K : PySem.W.Frag} {H : Hp} : IsS K H .non false := ⟨.type "NoneType", .base .non, kit_ty (by decide +kernel)⟩
theorem IsS.lst {K : PySem.W.Frag} {H : Hp} {a : Addr} {xs : List V} (e : H a = some (.lst xs)) : IsS K H (.ref a) false := ⟨.type "list", .base (.lst e), kit_ty (by decide +kernel)⟩
structure STx (mg : Str → Option Value) : Prop where
  b_str : mg "str" = none
  b_all : mg "all" = none
  b_len : mg "len" = none
  b_int : mg "int" = none
theorem itE {c : Prop} [Decidable c] {a b : Prop} (h : c) (x : a) : ite c a b := by
  rw [if_pos h]
  exact x
theorem line (n : Nat) (h : n ≤ 100000) : n ≤ sizeLine := by
  have e : (sizeLine : Nat) = 16777216 := sizeLine_eq
  omega
theorem c_minus : ("-" : Str) = SX.S [45] := by decide +kernel
theorem c_slash : ("/" : Str) = SX.S [47] := by decide +kernel
theorem c_zero : ("0" : Str) = SX.S [48] := by decide +kernel
theorem c_one : ("1" : Str) = SX.S [49] := by decide +kernel
theorem c_empty : ("" : Str) = SX.S [] := by decide +kernel
theorem dec_S {a b : List Nat} : decide (V.str (SX.S a) = V.str (SX.S b)) = decide (a = b) := by
  by_cases h : a = b
  · rw [h, decide_eq_true rfl, decide_eq_true rfl]
  · rw [decide_eq_false h, decide_eq_false]
    intro e
    exact h (SX.S_inj (V.str.inj e))
end Sq

namespace Sq
open PySem L2 PyProof.Rows
abbrev s_rd : Stmt := top 7
abbrev s_text : Stmt := inClass (top 12) 10
abbrev s_read : Stmt := inClass (top 12) 11
def spRd : Sp := fun vs H Q _ => ∃ a : List Nat, vs = [.str (SX.S a), .int 60] ∧ a.length ≤ 1000 ∧ (Dig a → Q (.bl true) H) ∧ (¬ Dig a → Q (.bl false) H)
def spText (C : Addr) : Sp := fun vs H Q _ => ∃ (x : Addr) (t u : Int), vs = [.ref x] ∧ RatAt C H x t u ∧ t.natAbs < 10 ^ 60 ∧ u.natAbs < 10 ^ 60 ∧ 1 ≤ u ∧ Q (.str (SX.S (txt t u))) H
/-- how read cuts -/
def Rd (a p q : List Nat) : Prop := (47 ∉ a ∧ p = a ∧ q = [49]) ∨ (a = p ++ 47 :: q ∧ 47 ∉ p)
theorem numL_one : TL.numL 1 = [49] := TL.numL_lt (by decide)
theorem sgn_no47 (t : Int) (n : Nat) : 47 ∉ sgn t ++ TL.numL n := by
  intro h
  rcases List.mem_append.mp h with h | h
  · unfold sgn at h
    split at h
    · simp at h
    · cases h
  · exact num_no (by decide) h
theorem rd_inv {a p q : List Nat} {t u : Int} (h : Rd a p q) (F : TFit a t u) : p = sgn t ++ TL.numL t.natAbs ∧ q = TL.numL u.natAbs := by
  have e := F.eq
  unfold txt tail1 at e
  rw [← List.append_assoc] at e
  rcases h with ⟨n, rfl, rfl⟩ | ⟨rfl, n⟩
  · by_cases c : u = 1
    · rw [if_pos c, List.append_nil] at e
      refine ⟨e, ?_⟩
      rw [c]
      exact numL_one.symm
    · rw [if_neg c] at e
      exact absurd (by rw [e]; simp) n
  · by_cases c : u = 1
    · rw [if_pos c, List.append_nil] at e
      exact absurd (by rw [← e]; simp) (sgn_no47 t t.natAbs)
    · rw [if_neg c] at e
      exact cut_uniq e n (sgn_no47 _ _)
theorem sg_cases (p : List Nat) : ∃ g d, p = sg1 g d ∧ (g = false → ¬ ∃ r, d = 45 :: r) := by
  by_cases h : ∃ r, p = 45 :: r
  · obtain ⟨r, rfl⟩ := h
    exact ⟨true, r, rfl, fun e => Bool.noConfusion e⟩
  · exact ⟨false, p, rfl, fun _ => h⟩
theorem rp_sg {g : Bool} {d : List Nat} (h : g = false → ¬ ∃ r, d = 45 :: r) : Txt.removeprefix (SX.S (sg1 g d)) (SX.S [45]) = SX.S d := by
  cases g with
  | false => exact rp_no (h rfl)
  | true => exact rp_yes d
theorem sg_num {g : Bool} {d : List Nat} {t : Int} (h : g = false → ¬ ∃ r, d = 45 :: r) (e : sg1 g d = sgn t ++ TL.numL t.natAbs) : d = TL.numL t.natAbs := by
  unfold sgn at e
  cases g with
  | false =>
    have e' : d = (if t < 0 then [45] else []) ++ TL.numL t.natAbs := e
    by_cases c : t < 0
    · rw [if_pos c] at e'
      exact absurd ⟨_, e'⟩ (h rfl)
    · rw [if_neg c, List.nil_append] at e'
      exact e'
  | true =>
    have e' : 45 :: d = (if t < 0 then [45] else []) ++ TL.numL t.natAbs := e
    by_cases c : t < 0
    · rw [if_pos c] at e'
      exact (List.cons.inj e').2
    · rw [if_neg c, List.nil_append] at e'
      have : 45 ∈ TL.numL t.natAbs := by rw [← e']; exact List.mem_cons_self
      exact absurd this (num_no (by decide))
theorem neg1_sgn {g : Bool} {d : List Nat} {t : Int} (h : g = false → ¬ ∃ r, d = 45 :: r) (e : sg1 g d = sgn t ++ TL.numL t.natAbs) : neg1 g t.natAbs = t := by
  have hd := sg_num h e
  rw [hd] at e
  unfold sgn at e
  cases g with
  | false =>
    have e' : TL.numL t.natAbs = (if t < 0 then [45] else []) ++ TL.numL t.natAbs := e
    by_cases c : t < 0
    · rw [if_pos c] at e'
      have := congrArg List.length e'
      simp at this
    · show ((t.natAbs : Nat) : Int) = t
      omega
  | true =>
    have e' : 45 :: TL.numL t.natAbs = (if t < 0 then [45] else []) ++ TL.numL t.natAbs := e
    by_cases c : t < 0
    · show -((t.natAbs : Nat) : Int) = t
      omega
    · rw [if_neg c, List.nil_append] at e'
      have := congrArg List.length e'
      simp at this
def spRead (K : PySem.W.Frag) (C CN : Addr) : Sp := fun vs H Q E => ∃ v, vs = [v] ∧ ((IsS K H v false ∧ (∀ d, H d = none → E (.ref CN) (some d) (upd H d (wordAt "text")))) ∨
  ∃ a : List Nat, v = .str (SX.S a) ∧ a.length ≤ 1000 ∧ (¬ (∃ t u, TFit a t u) → ∀ H', Same H H' → ∀ d, H' d = none → E (.ref CN) (some d) (upd H' d (wordAt "text"))) ∧
    ∀ t u, TFit a t u → ∀ r H', Same H H' → RatAt C H' r t u → Q (.ref r) H')
theorem log_ok {t : Int} (h : t.natAbs < 10 ^ 60) : t.natAbs.log2 < 1920 := Nat.lt_of_lt_of_le (PySem.Flt.log2_lt_of (k := 200) (by decide) (Nat.lt_of_lt_of_le h (by decide))) (by decide)
theorem big60 : 10 ^ 60 ≤ 2 ^ 8000 := Nat.le_trans (show 10 ^ 60 ≤ 2 ^ 200 by decide) (Nat.pow_le_pow_right (by decide) (by decide))
theorem sgn_len (t : Int) : (sgn t).length ≤ 1 := by
  unfold sgn
  split <;> simp
section
variable {P : Program} {w : World} {K : PySem.W.Frag} {mg : Str → Option Value} {base : Heap}
theorem sc_rd : FnScope ["text", "most"] ["text", "most"] (defScope s_rd) := ⟨rfl, rfl, rfl, by decide +kernel, rfl, by decide +kernel, by decide +kernel⟩
theorem ok_rd {f : Addr} {fd : FuncData} (F : Fun K "are_digits" "are_digits" s_rd f fd) (B : STx mg) : FnOk P w K mg base CX0 1 f fd ["text", "most"] spRd := by
  refine F.ok sc_rd (fun vs H Q E h => ?_) (fun cdv A outer s H vs Q E hr h => ?_)
  · obtain ⟨x, rfl, _⟩ := h
    rfl
  · obtain ⟨a, rfl, hl, kT, kF⟩ := h
    refine ⟨_, (pss_one (ps_ret (pe_and (pe_cmpR op_le (pe_callB call_len_str (by rfl) B.b_len PySem.boot_len (pa_cons (pv 0) pa_nil)) (pv 1) (nomark _)) (pe_and (pe_m0 PySem.F.slot_str_isascii PySem.F.type_str_isascii mt_isascii (pv 0)) (pe_one (pe_m0 PySem.F.slot_str_isdigit PySem.F.type_str_isdigit mt_isdigit (pv 0))))))), ?_⟩
    refine ⟨_, rfl, _, rfl, (by rw [SX.S_len]; exact line _ (by omega)), _, rfl, _, _, rfl, rfl, _, rfl, ?_⟩
    rw [SX.S_len]
    refine ite2 (fun c1 => ?_) (fun c1 => kF fun D => c1 (decide_eq_true (by have := D.len; omega)))
    have l1 : a.length ≤ 60 := by
      have := of_decide_eq_true c1
      omega
    refine ⟨_, rfl, ⟨_, rfl⟩, _, rfl, rfl, trivial, _, rfl, ?_⟩
    refine ite2 (fun c2 => ?_) (fun c2 => kF fun D => c2 ((isascii_S a).mpr fun c hc => by have := D.dig c hc; omega))
    have hA := (isascii_S a).mp c2
    refine ⟨_, rfl, ⟨_, rfl⟩, _, rfl, rfl, trivial, ?_⟩
    cases e : Txt.isdigit (SX.S a) with
    | true =>
      have := (isdigit_S hA).mp e
      exact kT ⟨this.1, l1, this.2⟩
    | false =>
      refine kF fun D => ?_
      rw [(isdigit_S hA).mpr ⟨D.ne, D.dig⟩] at e
      cases e
theorem sc_text : FnScope ["self"] ["self"] (defScope s_text) := ⟨rfl, rfl, rfl, by decide +kernel, rfl, by decide +kernel, by decide +kernel⟩
theorem ok_text {f C : Addr} {fd : FuncData} (F : Fun K "text" "Ratio.text" s_text f fd) (T : CTx K C) (B : STx mg) : FnOk P w K mg base CX0 1 f fd ["self"] (spText C) := by
  refine F.ok sc_text (fun vs H Q E h => ?_) (fun cdv A outer s H vs Q E hr h => ?_)
  · obtain ⟨x, t, u, rfl, _⟩ := h
    rfl
  · obtain ⟨x, t, u, rfl, ⟨dx, hx⟩, ht, hu, pu, k⟩ := h
    have nt := numL_len60 ht
    have nu := numL_len60 hu
    have st := sgn_len t
    refine ⟨_, (pss_cons (ps_if (pt_cmpR op_eq (pe_fld (pv 0) rfl) pe_int (nomark _))
        (pss_one (ps_ret (pe_callTy call_str_int (by rfl) B.b_str (by decide +kernel) (pa_cons (pe_fld (pv 0) rfl) pa_nil))))
        pss_nil)
      (pss_one (ps_ret (pe_joined (PJ.cons (pe_fmt (pe_fld (pv 0) rfl)) (PJ.cons pe_str (PJ.cons (pe_fmt (pe_fld (pv 0) rfl)) PJ.nil))))))), ?_⟩
    refine ⟨_, rfl, x, C, dx, _, _, rfl, hx, T.cl, T.nB, rf_bottom _ _, rfl, _, rfl, ?_⟩
    refine ite2 (fun c => ?_) (fun c => ?_)
    · have e : u = 1 := by simpa using c
      refine ⟨_, rfl, x, C, dx, _, _, rfl, hx, T.cl, T.nT, rf_top _ _, _, rfl, log_ok ht, ?_⟩
      have : Str.ofString (toString t) = SX.S (txt t u) := by
        rw [num_int]
        unfold txt tail1
        rw [if_pos e, List.append_nil]
      rw [this]
      exact k
    · have e : u ≠ 1 := by simpa using c
      refine ⟨_, rfl, x, C, dx, _, _, rfl, hx, T.cl, T.nT, rf_top _ _, .inr ⟨_, rfl, log_ok ht, _, rfl, ?_, _, rfl, ?_, _, rfl, x, C, dx, _, _, rfl, hx, T.cl, T.nB, rf_bottom _ _, .inr ⟨_, rfl, log_ok hu, _, rfl, ?_, ?_⟩⟩⟩
      all_goals (rw [num_int, show Str.empty = SX.S [] from rfl, SX.S_cat])
      · rw [SX.S_len]
        refine line _ ?_
        simp
        omega
      · rw [c_slash, SX.S_cat, SX.S_len]
        refine line _ ?_
        simp
        omega
      all_goals (rw [c_slash, SX.S_cat, num_int, SX.S_cat])
      · rw [SX.S_len]
        refine line _ ?_
        have := sgn_len u
        simp
        omega
      · have su : sgn u = [] := if_neg (by omega)
        have : ([] ++ (sgn t ++ TL.numL t.natAbs)) ++ [47] ++ (sgn u ++ TL.numL u.natAbs) = txt t u := by
          unfold txt tail1
          rw [if_neg e, su]
          simp
        rw [this]
        exact k
theorem sc_read : FnScope ["text", "top", "slash", "bottom", "found"] ["text"] (defScope s_read) := ⟨rfl, rfl, rfl, by decide +kernel, rfl, by decide +kernel, by decide +kernel⟩
theorem ok_read {f C CN fN fR frd ftext : Addr} {fd fdN fdR fdrd fdtext : FuncData} {tk : Tok} (GD : mg "MOST_DIGITS_READ" = some (.int 60 tk)) (F : Fun K "read" "Ratio.read" s_read f fd) (T : CTx K C) (I : ITx mg) (B : STx mg) (N : NTx K mg CN fN) (G : GTx mg CN) (m_C : mg "Ratio" = some (.ref C)) (M : Mk K C fR)
    (G_N : FnOk P w K mg base CX0 1 fN fdN ["self", "word"] (spWordInit CN)) (b_N : Binds K fdN ["self", "word"] [])
    (G_R : FnOk P w K mg base (L2.CX P w) 3 fR fdR ["self", "top", "bottom"] (spRatioInit K C CN)) (b_R : Binds K fdR ["self", "top", "bottom"] [])
    (G_rd : FnOk P w K mg base CX0 1 frd fdrd ["text", "most"] spRd) (m_rd : mg "are_digits" = some (.ref frd)) (k_rd : PySem.W.keepIn K (.ref frd) = true) (b_rd : Binds K fdrd ["text", "most"] [])
    (Me_text : Meth K C "text" ftext) (G_text : FnOk P w K mg base CX0 1 ftext fdtext ["self"] (spText C)) (b_text : Binds K fdtext ["self"] []) :
    FnOk P w K mg base (L2.CX P w) 5 f fd ["text"] (spRead K C CN) := by
  refine F.okX sc_read (fun vs H Q E h => ?_) (fun cdv A outer s H vs Q E hr h => ?_)
  · obtain ⟨x, rfl, _⟩ := h
    rfl
  · obtain ⟨v, rfl, h⟩ := h
    refine ⟨_, (pss_cons (ps_if (pt_not (pt_val (pe_callB call_isi (by rfl) I.b_isinstance (by decide +kernel) (pa_cons (pv 0) (pa_cons (pe_bltn (v := .ty "str") (by rfl) B.b_str (by decide +kernel) rfl) pa_nil)))))
        (pss_one (ps_raise rfl (takes_of rfl rfl rfl rfl) (pmk_oex N.oex N.iC N.tI G_N (hr.mono (by decide)) b_N .nil pass0 rfl G.m_NoRatio (pa_cons pe_str pa_nil))))
        pss_nil)
      (pss_cons (ps_asg (pe_partition (pv 0) pe_str) (pg_tup (by rfl) (pgs_cons (pg_name (i := 1) sc_read.nd rfl (Or.inl rfl)) (pgs_cons (pg_name (i := 2) sc_read.nd rfl (Or.inl rfl)) (pgs_cons (pg_name (i := 3) sc_read.nd rfl (Or.inl rfl)) pgs_nil)))))
      (C8.pss_cut (ps_if (pt_cmpR op_eq (pv 2) pe_str (nomark _))
        (pss_one (ps_set (i := 3) sc_read.nd rfl (Or.inl rfl) pe_str))
        pss_nil)
      (pss_cons (ps_if (pt_not (PW.pt (pw_and (pt_val (pe_call G_rd (hr.mono (by decide)) rfl m_rd k_rd b_rd .nil pass0 (pa_cons (pe_m1 PySem.F.slot_str_removeprefix PySem.F.type_str_removeprefix mt_removeprefix (pv 1) pe_str) (pa_cons (pe_glob (v := .int 60) rfl GD ⟨_, rfl⟩) pa_nil)))) (pw_and1 (pt_val (pe_call G_rd (hr.mono (by decide)) rfl m_rd k_rd b_rd .nil pass0 (pa_cons (pv 3) (pa_cons (pe_glob (v := .int 60) rfl GD ⟨_, rfl⟩) pa_nil))))))))
        (pss_one (ps_raise rfl (takes_of rfl rfl rfl rfl) (pmk_oex N.oex N.iC N.tI G_N (hr.mono (by decide)) b_N .nil pass0 rfl G.m_NoRatio (pa_cons pe_str pa_nil))))
        pss_nil)
      (pss_cons (ps_if (pt_cmpR op_eq (pe_callTy call_int_str (by rfl) B.b_int (by decide +kernel) (pa_cons (pv 3) pa_nil)) pe_int (nomark _))
        (pss_one (ps_raise rfl (takes_of rfl rfl rfl rfl) (pmk_oex N.oex N.iC N.tI G_N (hr.mono (by decide)) b_N .nil pass0 rfl G.m_NoRatio (pa_cons pe_str pa_nil))))
        pss_nil)
      (pss_cons (ps_set (i := 4) sc_read.nd rfl (Or.inl rfl) (pe_make M G_R (hr.mono (by decide)) rfl m_C b_R .nil passL (pa_cons (pe_callTy call_int_str (by rfl) B.b_int (by decide +kernel) (pa_cons (pv 1) pa_nil)) (pa_cons (pe_callTy call_int_str (by rfl) B.b_int (by decide +kernel) (pa_cons (pv 3) pa_nil)) pa_nil))))
      (pss_cons (ps_if (pt_cmpR op_ne (pe_meth0 (pv 4) T.cl Me_text G_text (hr.mono (by decide)) b_text .nil pass0) (pv 0) (nomark _))
        (pss_one (ps_raise rfl (takes_of rfl rfl rfl rfl) (pmk_oex N.oex N.iC N.tI G_N (hr.mono (by decide)) b_N .nil pass0 rfl G.m_NoRatio (pa_cons pe_str pa_nil))))
        pss_nil)
      (pss_one (ps_ret (pv 4)))))))))), ?_⟩
    rcases h with ⟨⟨ty, ht, hk⟩, kE⟩ | ⟨a, rfl, hl, kE, kQ⟩
    · refine ⟨_, rfl, _, _, _, _, false, rfl, .ty _, ht, hk, _, rfl, ?_⟩
      exact iteT ⟨by decide, mkO_read kE⟩
    · refine ⟨_, rfl, _, _, _, _, true, rfl, .ty _, .base (.str _), kit_ty (by decide +kernel), _, rfl, ?_⟩
      refine iteF ⟨_, rfl, ⟨_, rfl⟩, _, _, rfl, rfl, by rw [c_slash, SX.S_len]; rfl, (by rw [SX.S_len]; exact line _ (by omega)), fun tp htp => ?_⟩
      have s1 : Same H (upd H tp (.tup [.str (Txt.partition (SX.S a) ("/" : Str)).1, .str (Txt.partition (SX.S a) ("/" : Str)).2.1, .str (Txt.partition (SX.S a) ("/" : Str)).2.2])) := same_new (Same.refl H) htp
      refine ⟨tp, _, rfl, SqT.of upd_same, rfl, _, _, rfl, _, _, rfl, _, _, rfl, rfl, ?_⟩
      generalize upd H tp _ = H1 at *
      refine ⟨fun σ H' => ∃ (p q : List Nat) (z : Option V), σ = [some (.str (SX.S a)), some (.str (SX.S p)), z, some (.str (SX.S q)), none] ∧ H' = H1 ∧ Rd a p q, ?_, ?_⟩
      · rw [c_slash]
        rcases cut_at a with n | ⟨p, q, e, n⟩
        · rw [SX.partition_none (a := a) (b := [47]) (by simp) (SX.par_head_none n)]
          refine ⟨_, rfl, rfl, _, rfl, iteT ?_⟩
          refine ⟨a, [49], some (.str (SX.S [])), ?_, rfl, .inl ⟨n, rfl, rfl⟩⟩
          rw [c_one]
          rfl
        · have e2 : TL.par [47] [] a = some (p, q) := by
            rw [e]
            exact SX.par_head (c := 47) (sep := []) q n
          rw [SX.partition_some (a := a) (b := [47]) (by simp) e2]
          refine ⟨_, rfl, rfl, _, rfl, iteF ?_⟩
          exact ⟨p, q, _, rfl, rfl, .inr ⟨e, n⟩⟩
      · rintro σ H' ⟨p, q, z, rfl, rfl, hrd⟩
        have lp : p.length ≤ 1000 ∧ q.length ≤ 1000 := by
          rcases hrd with ⟨_, rfl, rfl⟩ | ⟨rfl, _⟩
          · exact ⟨hl, by simp⟩
          · simp at hl
            omega
        obtain ⟨g, d, rfl, hg⟩ := sg_cases p
        have ld : d.length ≤ 1000 := by
          cases g with
          | false => exact lp.1
          | true =>
            have : (45 :: d).length ≤ 1000 := lp.1
            rw [List.length_cons] at this
            omega
        have bad : (∀ t u, TFit a t u → False) → ∀ d, H' d = none → E (.ref CN) (some d) (upd H' d (wordAt "text")) := fun hn => kE (fun ⟨t, u, h⟩ => hn t u h) H' s1
        refine ⟨_, rfl, ⟨_, rfl⟩, _, _, rfl, rfl, (by rw [SX.S_len]; exact line _ (by have := lp.1; omega)), ?_⟩
        refine ⟨d, (by rw [c_minus, rp_sg hg]; rfl), ld, fun hd => ⟨_, rfl, iteT ?_⟩, fun hd => ⟨_, rfl, iteF (iteT ⟨by decide, mkO_read (bad fun t u f => ?_)⟩)⟩⟩
        · refine ⟨_, rfl, q, rfl, lp.2, fun hq => ⟨_, rfl, iteF ?_⟩, fun hq => ⟨_, rfl, iteT ⟨by decide, mkO_read (bad fun t u f => ?_)⟩⟩⟩
          · refine ⟨_, rfl, _, _, rfl, int_dig hq, (by rw [SX.S_len]; have := hq.len; omega), rfl, _, rfl, ?_⟩
            refine ite2 (fun c => ⟨by decide, mkO_read (bad fun t u f => ?_)⟩) (fun c => ?_)
            · have e : ((NumText.digitsVal q : Nat) : Int) = 0 := by simpa using c
              have e2 := (rd_inv hrd f).2
              rw [e2, TL.numL_val] at e
              have := f.pos
              omega
            · have c0 : ((NumText.digitsVal q : Nat) : Int) ≠ 0 := by simpa using c
              have b1 := dig_len hd
              have b2 := dig_len hq
              refine ⟨_, rfl, _, _, rfl, int_sg hd, (by rw [SX.S_len]; have := lp.1; have := hd.len; cases g <;> simp [sg1] <;> omega), _, rfl, _, _, rfl, int_dig hq, (by rw [SX.S_len]; have := hq.len; omega), ?_⟩
              refine fun y dy ny ndy ne => mk_go c0 (Nat.lt_of_lt_of_le (show ((NumText.digitsVal q : Nat) : Int).natAbs < 10 ^ 60 from by rw [Int.natAbs_natCast]; exact b2) big60) ny ndy ne fun t u H2 L R s2 => ⟨rfl, ?_⟩
              have bt : t.natAbs < 10 ^ 60 := Nat.lt_of_le_of_lt L.lt (by rw [neg1_abs]; exact b1)
              have bu : u.natAbs < 10 ^ 60 := Nat.lt_of_le_of_lt L.lu (by rw [Int.natAbs_natCast]; exact b2)
              obtain ⟨dy', hy'⟩ := id R
              refine ⟨_, rfl, y, dy', _, rfl, hy', rf_no _ _ (by decide +kernel) (by decide +kernel), y, t, u, rfl, R, bt, bu, L.pos, _, rfl, rfl, _, rfl, ?_⟩
              rw [dec_S]
              by_cases e : txt t u = a
              · rw [decide_eq_true e]
                refine iteF ⟨_, rfl, ?_⟩
                exact kQ t u ⟨L.pos, L.cop, e.symm, numL_len60 bt, numL_len60 bu⟩ _ _ (s1.trans s2) R
              · rw [decide_eq_false e]
                refine iteT ⟨by decide, mkO_read ?_⟩
                refine kE (fun ⟨t', u', f⟩ => e ?_) _ (s1.trans s2)
                have i := rd_inv hrd f
                have e1 := neg1_sgn hg i.1
                have e2 := sg_num hg i.1
                rw [e2, TL.numL_val, e1, i.2, TL.numL_val] at L
                have pu := f.pos
                rw [show ((u'.natAbs : Nat) : Int) = u' from by omega] at L
                obtain ⟨rfl, rfl⟩ := low_id f.pos f.cop L
                exact f.eq.symm
          · have e2 := (rd_inv hrd f).2
            exact hq (by rw [e2]; exact Dig.num f.lu)
        · have e1 := (rd_inv hrd f).1
          exact hd (by rw [sg_num hg e1]; exact Dig.num f.lt)
end
end Sq

namespace Sq
open PySem L2 PyProof.Rows
abbrev s_plain : Stmt := top 19
abbrev s_due : Stmt := top 20
abbrev s_same : Stmt := top 21
abbrev s_strange : Stmt := top 22
/-- a comprehension over a text -/
theorem lc_str {x : Str} {g : TG} {tt : TT} {te : TE} {vs : List Nat} {σ : L2.St} {H1 : Hp} {D : Addr} {Qd : Hp → Prop} (Pv : Nat → Hp → Prop) (h0 : Pv 0 (upd H1 D (.lst [])))
    (hs : ∀ i c H, x.cps[i]? = some c → Pv i H → g (.str ⟨#[c]⟩) (wipe σ vs) H fun σ2 H2 => wipe σ2 vs = wipe σ vs ∧ tt σ2 H2 fun b H3 =>
      if b = true then te σ2 H3 fun y H4 => ∃ acc, H4 D = some (.lst acc) ∧ acc.length < sizeLine ∧ Pv (i + 1) (upd H4 D (.lst (acc ++ [y]))) else Pv (i + 1) H3) (hd : ∀ H, Pv x.cps.size H → Qd H) :
    ∃ W : Nat → Nat → Hp → Prop, (∃ m, W 0 m (upd H1 D (.lst []))) ∧ ∀ i m H, W i m H →
      ((Its x).stop i H ∧ Qd H) ∨ ((Its x).go i H ∧ ∃ Nx : Hp → Prop, (∀ H', Nx H' → ∃ m', m' < m ∧ W (i + 1) m' H') ∧ ∀ y H', (Its x).yld i H y H' → g y (wipe σ vs) H' fun σ2 H2 => wipe σ2 vs = wipe σ vs ∧ tt σ2 H2 fun b H3 =>
        if b = true then te σ2 H3 fun y H4 => ∃ acc, H4 D = some (.lst acc) ∧ acc.length < sizeLine ∧ Nx (upd H4 D (.lst (acc ++ [y]))) else Nx H3) := by
  refine ⟨fun i m H => m = x.cps.size - i ∧ i ≤ x.cps.size ∧ Pv i H, ⟨x.cps.size, by simp, Nat.zero_le _, h0⟩, ?_⟩
  rintro i m H ⟨rfl, hi, p⟩
  by_cases hlt : i < x.cps.size
  · refine .inr ⟨hlt, Pv (i + 1), fun H' p' => ⟨x.cps.size - (i + 1), by omega, rfl, hlt, p'⟩, fun y H' z => ?_⟩
    obtain ⟨e, c, hc, rfl⟩ := z
    subst e
    exact hs i c _ hc p
  · have e : i = x.cps.size := by omega
    subst e
    exact .inl ⟨Nat.le_refl _, hd H p⟩
theorem c_digits : ("0123456789" : Str) = SX.S [48, 49, 50, 51, 52, 53, 54, 55, 56, 57] := by decide +kernel
def dg (c : Nat) : Bool := decide (c ∈ [48, 49, 50, 51, 52, 53, 54, 55, 56, 57])
theorem dg_iff {c : Nat} : dg c = true ↔ 48 ≤ c ∧ c ≤ 57 := by
  unfold dg
  rw [decide_eq_true_eq]
  simp only [List.mem_cons, List.not_mem_nil, or_false]
  omega
theorem dg_all {a : List Nat} : (a.map dg).all id = true ↔ NumText.AllDigits a := by
  rw [List.all_map, List.all_eq_true]
  exact ⟨fun h c hc => dg_iff.mp (h c hc), fun h c hc => dg_iff.mpr (h c hc)⟩
def spPlain : Sp := fun vs H Q _ => ∃ a : List Nat, vs = [.str (SX.S a)] ∧ a.length ≤ 1000 ∧ (Pl a → ∀ H', Same H H' → Q (.bl true) H') ∧ (¬ Pl a → ∀ H', Same H H' → Q (.bl false) H')
theorem Pl.dig {a : List Nat} (h : Pl a) : Dig a := by
  obtain ⟨n, rfl, l⟩ := h
  exact Dig.num l
theorem Pl.num {a : List Nat} (h : Pl a) : a = TL.numL (NumText.digitsVal a) := by
  obtain ⟨n, rfl, l⟩ := h
  rw [TL.numL_val]
theorem pl_iff {c : Nat} {r : List Nat} (l : (c :: r).length ≤ 60) (z : c ≠ 48 ∨ r = []) : Pl (c :: r) ↔ NumText.AllDigits (c :: r) := by
  constructor
  · intro h
    exact h.dig.dig
  · intro h
    refine ⟨_, pl_of ⟨by simp, l, h⟩ ?_, l⟩
    rcases z with z | rfl
    · exact .inl (fun e => z (Option.some.inj e))
    · by_cases c48 : c = 48
      · subst c48
        exact .inr rfl
      · exact .inl (fun e => c48 (Option.some.inj e))
theorem pl_zero {r : List Nat} (h : Pl (48 :: r)) : r = [] := by
  obtain ⟨n, e, l⟩ := h
  by_cases n0 : n = 0
  · rw [n0, numL_zero] at e
    exact (List.cons.inj e).2
  · exact absurd (by rw [← e]; rfl) (numL_head n0)
def spDue : Sp := fun vs H Q _ => ∃ a : List Nat, vs = [.str (SX.S a)] ∧ a.length ≤ 1000 ∧ (∀ t u, TFit a t u → ∀ p H', Same H H' → H' p = some (.tup [.int t, .int u]) → Q (.ref p) H') ∧ ((¬ ∃ t u, TFit a t u) → ∀ H', Same H H' → Q .non H')
def spSame : Sp := fun vs H Q _ => ∃ a : List Nat, vs = [.str (SX.S a)] ∧ a.length ≤ 1000 ∧ ∀ H', Same H H' → Q (.bl true) H'
def spStrange (K : PySem.W.Frag) : Sp := fun vs H Q _ => ∃ v, vs = [v] ∧ IsS K H v false ∧ ∀ H', Same H H' → Q (.str "text") H'
/-- the cuts of the law's due -/
theorem due_no {g : Bool} {b : List Nat} (hg : g = false → ¬ ∃ r, b = 45 :: r) (n : 47 ∉ b) {t u : Int} (F : TFit (sg1 g b) t u) : Pl b ∧ t = neg1 g (NumText.digitsVal b) ∧ u = 1 ∧ (g = true → NumText.digitsVal b ≠ 0) := by
  obtain ⟨e, et, e0⟩ := fit_inv F hg
  obtain ⟨u1, eb⟩ := tail_no e n
  have ev : NumText.digitsVal b = t.natAbs := by rw [eb, TL.numL_val]
  exact ⟨⟨_, eb, by rw [eb]; exact F.lt⟩, by rw [ev]; exact et, u1, by rw [ev]; exact e0⟩
theorem due_yes {g : Bool} {p q : List Nat} (hg : g = false → ¬ ∃ r, p ++ 47 :: q = 45 :: r) (n : 47 ∉ p) {t u : Int} (F : TFit (sg1 g (p ++ 47 :: q)) t u) :
    Pl p ∧ Pl q ∧ t = neg1 g (NumText.digitsVal p) ∧ u = (NumText.digitsVal q : Nat) ∧ u ≠ 1 ∧ (g = true → NumText.digitsVal p ≠ 0) ∧ 47 ∉ q := by
  obtain ⟨e, et, e0⟩ := fit_inv F hg
  obtain ⟨u1, ep, eq⟩ := tail_yes e n
  have ev : NumText.digitsVal p = t.natAbs := by rw [ep, TL.numL_val]
  have eu : NumText.digitsVal q = u.natAbs := by rw [eq, TL.numL_val]
  have pu := F.pos
  exact ⟨⟨_, ep, by rw [ep]; exact F.lt⟩, ⟨_, eq, by rw [eq]; exact F.lu⟩, by rw [ev]; exact et, by omega, u1, by rw [ev]; exact e0, by rw [eq]; exact num_no (by decide)⟩
theorem sg_ne {g : Bool} {b : List Nat} : (b = sg1 g b) ↔ g = false := by
  cases g with
  | false => exact ⟨fun _ => rfl, fun _ => rfl⟩
  | true => exact ⟨fun e => by have := congrArg List.length e; simp [sg1] at this, fun e => Bool.noConfusion e⟩
section
variable {P : Program} {w : World} {K : PySem.W.Frag} {mg : Str → Option Value} {base : Heap}
theorem sc_plain : FnScope ["_law_word", "_law_sign"] ["_law_word"] (defScope s_plain) := ⟨rfl, rfl, rfl, by decide +kernel, rfl, by decide +kernel, by decide +kernel⟩
theorem ok_plain {f : Addr} {fd : FuncData} (F : Fun K "_law_plain" "_law_plain" s_plain f fd) (B : STx mg) : FnOk P w K mg base CX0 1 f fd ["_law_word"] spPlain := by
  refine F.ok sc_plain (fun vs H Q E h => ?_) (fun cdv A outer s H vs Q E hr h => ?_)
  · obtain ⟨x, rfl, _⟩ := h
    rfl
  · obtain ⟨a, rfl, hl, kT, kF⟩ := h
    refine ⟨_, (pss_cons (ps_if (PW.pt (pw_or (pt_cmpR op_eq (pv 0) pe_str (nomark _)) (pw_or (pt_cmpR op_gt (pe_callB call_len_str (by rfl) B.b_len PySem.boot_len (pa_cons (pv 0) pa_nil)) pe_int (nomark _)) (pw_or1 (PW.pt (pw_and (pt_cmpR op_eq (pe_ix ix_str (pv 0) pe_int (fun _ _ => rfl)) pe_str (nomark _)) (pw_and1 (pt_cmpR op_ne (pv 0) pe_str (nomark _)))))))))
        (pss_one (ps_ret pe_bl))
        pss_nil)
      (pss_one (ps_ret (pe_callB (cr_all rfl) (by rfl) B.b_all (by decide +kernel) (pa_cons (pe_lc (own := [("_law_sign", 1)]) (g := gName 1) (tt := tYes) rfl sc_plain.nd (pi_str (pv 0)) (blkOk_by (N := ["_law_word", "_law_sign"]) (sc := defScope s_plain) (by decide +kernel)) (fun _ _ _ _ _ => pg_name (i := 1) sc_plain.nd rfl (Or.inl rfl)) (fun _ _ _ _ _ => pts_nil) (fun _ _ _ _ _ => pe_cmpR op_in_sign (pv 1) pe_str (by rfl))) pa_nil))))), ?_⟩
    refine ⟨_, rfl, rfl, _, rfl, ?_⟩
    rw [c_empty, dec_S]
    cases a with
    | nil => exact iteT (kF (fun h => h.dig.ne rfl) _ (Same.refl H))
    | cons c r =>
      refine iteF ⟨_, rfl, _, rfl, (by rw [SX.S_len]; exact line _ (by omega)), _, _, rfl, rfl, _, rfl, ?_⟩
      rw [SX.S_len]
      refine ite2 (fun c1 => kF (fun h => ?_) _ (Same.refl H)) (fun c1 => ?_)
      · have := h.dig.len
        have := of_decide_eq_true c1
        omega
      have l60 : (c :: r).length ≤ 60 := by
        have : ¬ ((((c :: r).length : Nat) : Int) > 60) := fun e => c1 (decide_eq_true e)
        omega
      refine ⟨_, rfl, _, _, c, rfl, rfl, (by rw [SX.S_len]; exact line _ (by omega)), (atI_nat (j := 0) rfl), rfl, _, rfl, ?_⟩
      rw [show (⟨#[c]⟩ : Str) = SX.S [c] from rfl, c_zero, dec_S]
      have walk : (c ≠ 48 ∨ r = []) → Pl (c :: r) ∨ ¬ Pl (c :: r) → True := fun _ _ => trivial
      have fin : (c ≠ 48 ∨ r = []) → ∀ (D : Addr) (H1 : Hp), Same H H1 → H1 D = some (.lst (((c :: r).map dg).map V.bl)) → Q (.bl (((c :: r).map dg).all id)) H1 := fun z D H1 s1 _ => by
        cases e : ((c :: r).map dg).all id with
        | true => exact kT ((pl_iff l60 z).mpr (dg_all.mp e)) H1 s1
        | false => exact kF (fun h => by rw [dg_all.mpr ((pl_iff l60 z).mp h)] at e; cases e) H1 s1
      have tail : (c ≠ 48 ∨ r = []) → tLc (iStr (tVar 0)) (gName 1) tYes (tOp (fun x y H Q => ∃ (c : Nat) (z : Str), x = .str ⟨#[c]⟩ ∧ y = .str z ∧ Q (.bl (decide (c ∈ z.cps.toList))) H) (tVar 1) (tC (.str "0123456789"))) [1] [some (.str (SX.S (c :: r))), none] H (fun x H1 => rAll K [x] H1 Q) := fun z => by
        refine ⟨_, rfl, _, rfl, fun D hD => ?_⟩
        refine lc_str (fun i H' => H' D = some (.lst ((((c :: r).take i).map dg).map V.bl)) ∧ Same H H') ⟨upd_same, same_new (Same.refl H) hD⟩ ?_ ?_
        · rintro i d H2 hi ⟨hD2, s2⟩
          have hi' : (c :: r)[i]? = some d := by
            have : ((c :: r).toArray)[i]? = some d := hi
            simpa using this
          refine ⟨rfl, _, rfl, d, _, rfl, rfl, ?_⟩
          refine ⟨_, hD2, ?_, ?_, same_at s2 hD⟩
          · rw [List.length_map, List.length_map, List.length_take]
            have := line 1000 (by decide)
            omega
          · rw [take_more hi', List.map_append, List.map_append]
            rw [c_digits]
            exact upd_same
        · rintro H2 ⟨hD2, s2⟩
          have e : (SX.S (c :: r)).cps.size = (c :: r).length := by simp [SX.S]
          rw [e, List.take_length] at hD2
          exact ⟨D, _, rfl, SqL.of hD2, fin z D H2 s2 hD2⟩
      by_cases c48 : c = 48
      · subst c48
        refine iteT ⟨_, rfl, rfl, _, rfl, ?_⟩
        rw [dec_S]
        by_cases r0 : r = []
        · subst r0
          exact iteF (tail (.inr rfl))
        · rw [decide_eq_false (show ¬ (48 :: r = [48]) from fun e => r0 (List.cons.inj e).2)]
          exact iteT (kF (fun h => r0 (pl_zero h)) _ (Same.refl H))
      · rw [decide_eq_false (show ¬ ([c] = [48]) from fun e => c48 (List.cons.inj e).1)]
        exact iteF (tail (.inl c48))
theorem sc_due : FnScope ["_law_text", "_law_bare", "_law_parts", "_law_top", "_law_bottom"] ["_law_text"] (defScope s_due) := ⟨rfl, rfl, rfl, by decide +kernel, rfl, by decide +kernel, by decide +kernel⟩
theorem ok_due {f fplain fgcd : Addr} {fd fdplain fdgcd : FuncData} (F : Fun K "_law_due" "_law_due" s_due f fd) (B : STx mg)
    (G_plain : FnOk P w K mg base CX0 1 fplain fdplain ["_law_word"] spPlain) (m_plain : mg "_law_plain" = some (.ref fplain)) (k_plain : PySem.W.keepIn K (.ref fplain) = true) (b_plain : Binds K fdplain ["_law_word"] [])
    (G_gcd : FnOk P w K mg base CX0 1 fgcd fdgcd ["_law_one", "_law_other"] spGcd) (m_gcd : mg "_law_gcd" = some (.ref fgcd)) (k_gcd : PySem.W.keepIn K (.ref fgcd) = true) (b_gcd : Binds K fdgcd ["_law_one", "_law_other"] []) : FnOk P w K mg base CX0 2 f fd ["_law_text"] spDue := by
  refine F.ok sc_due (fun vs H Q E h => ?_) (fun cdv A outer s H vs Q E hr h => ?_)
  · obtain ⟨x, rfl, _⟩ := h
    rfl
  · obtain ⟨a, rfl, hl, kY, kN⟩ := h
    refine ⟨_, (pss_cons (ps_set (i := 1) sc_due.nd rfl (Or.inl rfl) (pv 0))
      (C8.pss_cut (ps_if (pt_cmpR op_eq (pe_slice C8.sl_txt (pv 0) po_none (po_some pe_int)) pe_str (nomark _))
        (pss_one (ps_set (i := 1) sc_due.nd rfl (Or.inl rfl) (pe_slice C8.sl_txt (pv 0) (po_some pe_int) po_none)))
        pss_nil)
      (pss_cons (ps_set (i := 2) sc_due.nd rfl (Or.inl rfl) (pe_split (pv 1) pe_str))
      (pss_cons (ps_if (PW.pt (pw_or (pt_cmpR op_gt (pe_callB call_len_seq (by rfl) B.b_len (by decide +kernel) (pa_cons (pv 2) pa_nil)) pe_int (nomark _)) (pw_or1 (pt_not (pt_val (pe_call G_plain (hr.mono (by decide)) rfl m_plain k_plain b_plain .nil pass0 (pa_cons (pe_ix ix_list (pv 2) pe_int (fun _ _ => rfl)) pa_nil)))))))
        (pss_one (ps_ret pe_non))
        pss_nil)
      (pss_cons (ps_set (i := 3) sc_due.nd rfl (Or.inl rfl) (pe_callTy call_int_str (by rfl) B.b_int (by decide +kernel) (pa_cons (pe_ix ix_list (pv 2) pe_int (fun _ _ => rfl)) pa_nil)))
      (C8.pss_cut (ps_if (pt_cmpR op_ne (pv 1) (pv 0) (nomark _))
        (pss_cons (ps_if (pt_cmpR op_eq (pv 3) pe_int (nomark _))
        (pss_one (ps_ret pe_non))
        pss_nil)
      (pss_one (ps_set (i := 3) sc_due.nd rfl (Or.inl rfl) (pe_un un_neg (pv 3)))))
        pss_nil)
      (pss_cons (ps_if (pt_cmpR op_eq (pe_callB call_len_seq (by rfl) B.b_len (by decide +kernel) (pa_cons (pv 2) pa_nil)) pe_int (nomark _))
        (pss_one (ps_ret (pe_tup (pa_cons (pv 3) (pa_cons pe_int pa_nil)))))
        pss_nil)
      (pss_cons (ps_if (pt_not (pt_val (pe_call G_plain (hr.mono (by decide)) rfl m_plain k_plain b_plain .nil pass0 (pa_cons (pe_ix ix_list (pv 2) pe_int (fun _ _ => rfl)) pa_nil))))
        (pss_one (ps_ret pe_non))
        pss_nil)
      (pss_cons (ps_set (i := 4) sc_due.nd rfl (Or.inl rfl) (pe_callTy call_int_str (by rfl) B.b_int (by decide +kernel) (pa_cons (pe_ix ix_list (pv 2) pe_int (fun _ _ => rfl)) pa_nil)))
      (pss_cons (ps_if (PW.pt (pw_or (pt_cmpR op_lt (pv 4) pe_int (nomark _)) (pw_or1 (pt_cmpR op_ne (pe_call G_gcd (hr.mono (by decide)) rfl m_gcd k_gcd b_gcd .nil pass0 (pa_cons (pv 3) (pa_cons (pv 4) pa_nil))) pe_int (nomark _)))))
        (pss_one (ps_ret pe_non))
        pss_nil)
      (pss_one (ps_ret (pe_tup (pa_cons (pv 3) (pa_cons (pv 4) pa_nil))))))))))))))), ?_⟩
    obtain ⟨g, b, rfl, hg⟩ := sg_cases a
    have lb : b.length ≤ 1000 := by
      cases g with
      | false => exact hl
      | true =>
        have : (45 :: b).length ≤ 1000 := hl
        rw [List.length_cons] at this
        omega
    refine ⟨_, rfl, ?_⟩
    refine ⟨fun σ H' => σ = [some (.str (SX.S (sg1 g b))), some (.str (SX.S b)), none, none, none] ∧ H' = H, ?_, ?_⟩
    · refine ⟨_, rfl, _, rfl, _, rfl, (by rw [SX.S_len]; exact line _ (by omega)), rfl, _, rfl, ?_⟩
      rw [SX.slice_to (by decide), c_minus, dec_S]
      cases g with
      | true =>
        refine iteT ⟨_, rfl, _, rfl, _, rfl, (by rw [SX.S_len]; exact line _ (by omega)), ?_⟩
        rw [SX.slice_from (by decide)]
        exact ⟨rfl, rfl⟩
      | false =>
        rw [decide_eq_false (show ¬ ((sg1 false b).take (Int.toNat 1) = [45]) from fun e => by
          cases b with
          | nil => cases e
          | cons c r =>
            have : c = 45 := (List.cons.inj e).1
            exact hg rfl ⟨r, by rw [this]⟩)]
        exact iteF ⟨rfl, rfl⟩
    · rintro σ H' ⟨rfl, rfl⟩
      refine ⟨_, rfl, ⟨_, rfl⟩, _, _, rfl, rfl, (by rw [c_slash, SX.S_len]; rfl), (by rw [SX.S_len]; exact line _ (by omega)), fun lp hlp => ?_⟩
      rw [c_slash, SX.split_S (by simp) (by decide)]
      have none_of : (∀ t u, TFit (sg1 g b) t u → False) → ∀ H1, Same H' H1 → Q .non H1 := fun h => kN (fun ⟨t, u, F⟩ => h t u F)
      have l60 : ∀ {p : List Nat}, Dig p → (SX.S p).length ≤ 640 := fun h => by rw [SX.S_len]; have := h.len; omega
      have s0 := fun (xs : List V) => same_new (o := .lst xs) (Same.refl H') hlp
      rcases cut_at b with n | ⟨p, q, rfl, n⟩
      · rw [spl_no n]
        have hp1 : SqL K (upd H' lp (.lst (([b].map SX.S).map V.str))) lp [.str (SX.S b)] := SqL.of upd_same
        have s1 := s0 (([b].map SX.S).map V.str)
        generalize upd H' lp _ = H1 at *
        refine ⟨_, rfl, _, _, rfl, .inl hp1, _, _, rfl, rfl, _, rfl, iteF ?_⟩
        refine ⟨_, rfl, _, _, _, _, rfl, rfl, hp1, rfl, b, rfl, lb, fun pb H2 s2 => ⟨_, rfl, iteF ?_⟩, fun pb H2 s2 => ⟨_, rfl, iteT (none_of (fun t u F => pb (due_no hg n F).1) _ (s1.trans s2))⟩⟩
        have hp2 := s2.seq hp1
        refine ⟨_, rfl, _, _, _, _, rfl, rfl, hp2, rfl, _, _, rfl, int_dig pb.dig, l60 pb.dig, ?_⟩
        refine ⟨fun σ H3 => σ = [some (.str (SX.S (sg1 g b))), some (.str (SX.S b)), some (.ref lp), some (.int (neg1 g (NumText.digitsVal b))), none] ∧ (g = true → NumText.digitsVal b ≠ 0) ∧ H3 = H2, ?_, ?_⟩
        · refine ⟨_, rfl, _, rfl, rfl, _, rfl, ?_⟩
          rw [dec_S]
          cases g with
          | false =>
            rw [decide_eq_true (sg_ne.mpr rfl)]
            exact iteF ⟨rfl, fun z => Bool.noConfusion z, rfl⟩
          | true =>
            rw [decide_eq_false (fun e => Bool.noConfusion (sg_ne.mp e))]
            refine iteT ⟨_, rfl, rfl, _, rfl, ?_⟩
            refine ite2 (fun c => none_of (fun t u F => (due_no hg n F).2.2.2 rfl (by simpa using c)) _ (s1.trans s2)) (fun c => ⟨_, rfl, _, rfl, rfl, fun _ => by simpa using c, rfl⟩)
        · rintro σ H3 ⟨rfl, hg0, rfl⟩
          refine ⟨_, rfl, _, _, rfl, .inl hp2, rfl, _, rfl, iteT ?_⟩
          refine ⟨_, rfl, (by show 2 ≤ sizeLine; decide), fun rp hrp => ?_⟩
          have f := fit_one1 (g := g) (n := NumText.digitsVal b) hg0 (by rw [← pb.num]; exact pb.dig.len)
          rw [← pb.num] at f
          exact kY _ _ f rp _ (same_new (s1.trans s2) hrp) upd_same
      · have lpq : p.length ≤ 1000 ∧ q.length ≤ 1000 := by
          simp at lb
          omega
        rcases cut_at q with m | ⟨q1, q2, rfl, m⟩
        · rw [spl_yes n, spl_no m]
          have hp1 : SqL K (upd H' lp (.lst (([p, q].map SX.S).map V.str))) lp [.str (SX.S p), .str (SX.S q)] := SqL.of upd_same
          have s1 := s0 (([p, q].map SX.S).map V.str)
          generalize upd H' lp _ = H1 at *
          refine ⟨_, rfl, _, _, rfl, .inl hp1, _, _, rfl, rfl, _, rfl, iteF ?_⟩
          refine ⟨_, rfl, _, _, _, _, rfl, rfl, hp1, rfl, p, rfl, lpq.1, fun pb H2 s2 => ⟨_, rfl, iteF ?_⟩, fun pb H2 s2 => ⟨_, rfl, iteT (none_of (fun t u F => pb (due_yes hg n F).1) _ (s1.trans s2))⟩⟩
          have hp2 := s2.seq hp1
          refine ⟨_, rfl, _, _, _, _, rfl, rfl, hp2, rfl, _, _, rfl, int_dig pb.dig, l60 pb.dig, ?_⟩
          refine ⟨fun σ H3 => σ = [some (.str (SX.S (sg1 g (p ++ 47 :: q)))), some (.str (SX.S (p ++ 47 :: q))), some (.ref lp), some (.int (neg1 g (NumText.digitsVal p))), none] ∧ (g = true → NumText.digitsVal p ≠ 0) ∧ H3 = H2, ?_, ?_⟩
          · refine ⟨_, rfl, _, rfl, rfl, _, rfl, ?_⟩
            rw [dec_S]
            cases g with
            | false =>
              rw [decide_eq_true (sg_ne.mpr rfl)]
              exact iteF ⟨rfl, fun z => Bool.noConfusion z, rfl⟩
            | true =>
              rw [decide_eq_false (fun e => Bool.noConfusion (sg_ne.mp e))]
              refine iteT ⟨_, rfl, rfl, _, rfl, ?_⟩
              refine ite2 (fun c => none_of (fun t u F => (due_yes hg n F).2.2.2.2.2.1 rfl (by simpa using c)) _ (s1.trans s2)) (fun c => ⟨_, rfl, _, rfl, rfl, fun _ => by simpa using c, rfl⟩)
          · rintro σ H3 ⟨rfl, hg0, rfl⟩
            refine ⟨_, rfl, _, _, rfl, .inl hp2, rfl, _, rfl, iteF ?_⟩
            refine ⟨_, rfl, _, _, _, _, rfl, rfl, hp2, rfl, q, rfl, lpq.2, fun qb H4 s4 => ⟨_, rfl, iteF ?_⟩, fun qb H4 s4 => ⟨_, rfl, iteT (none_of (fun t u F => qb (due_yes hg n F).2.1) _ ((s1.trans s2).trans s4))⟩⟩
            have hp4 := s4.seq hp2
            have s5 := (s1.trans s2).trans s4
            refine ⟨_, rfl, _, _, _, _, rfl, rfl, hp4, rfl, _, _, rfl, int_dig qb.dig, l60 qb.dig, ?_⟩
            refine ⟨_, rfl, _, _, rfl, rfl, _, rfl, ?_⟩
            refine ite2 (fun c => none_of (fun t u F => ?_) _ s5) (fun c => ?_)
            · have h1 := (due_yes hg n F).2.2.2.1
              have h2 := (due_yes hg n F).2.2.2.2.1
              have h3 := F.pos
              have := of_decide_eq_true c
              omega
            · have c2 : ¬ (((NumText.digitsVal q : Nat) : Int) < 2) := fun e => c (decide_eq_true e)
              refine ⟨_, rfl, _, rfl, _, _, rfl, rfl, _, rfl, ?_⟩
              refine ite2 (fun d => none_of (fun t u F => ?_) _ s5) (fun d => ?_)
              · have h0 := F.cop
                have h1 := (due_yes hg n F).2.2.1
                have h2 := (due_yes hg n F).2.2.2.1
                rw [h1, h2] at h0
                rw [h0] at d
                exact absurd d (by decide)
              · have d1 : Int.gcd (neg1 g (NumText.digitsVal p)) ((NumText.digitsVal q : Nat) : Int) = 1 := by
                  by_cases e : Int.gcd (neg1 g (NumText.digitsVal p)) ((NumText.digitsVal q : Nat) : Int) = 1
                  · exact e
                  · refine absurd ?_ d
                    rw [dec_int]
                    have e2 : ¬ (((Int.gcd (neg1 g (NumText.digitsVal p)) ((NumText.digitsVal q : Nat) : Int) : Nat) : Int) = 1) := by omega
                    simpa using e2
                refine ⟨_, rfl, _, rfl, (by show 2 ≤ sizeLine; decide), fun rp hrp => ?_⟩
                have f := fit_two (g := g) (n := NumText.digitsVal p) (m := NumText.digitsVal q) hg0 (by rw [← pb.num]; exact pb.dig.len) (by rw [← qb.num]; exact qb.dig.len) (by omega) d1
                rw [← pb.num, ← qb.num] at f
                exact kY _ _ f rp _ (same_new s5 hrp) upd_same
        · obtain ⟨r1, r, e⟩ := spl_two (q2 := q2) n m
          rw [e]
          have hp1 : SqL K (upd H' lp (.lst (((p :: q1 :: r1 :: r).map SX.S).map V.str))) lp (((p :: q1 :: r1 :: r).map SX.S).map V.str) := SqL.of upd_same
          have s1 := s0 (((p :: q1 :: r1 :: r).map SX.S).map V.str)
          generalize upd H' lp _ = H1 at *
          refine ⟨_, rfl, _, _, rfl, .inl hp1, _, _, rfl, rfl, _, rfl, ?_⟩
          refine itE (decide_eq_true ?_) (none_of (fun t u F => (due_yes hg n F).2.2.2.2.2.2 (by simp)) _ s1)
          simp only [List.length_map, List.length_cons]
          omega
theorem sc_same : FnScope ["_law_text", "_law_due_here", "_law_found", "_law_word", "e"] ["_law_text"] (defScope s_same) := ⟨rfl, rfl, rfl, by decide +kernel, rfl, by decide +kernel, by decide +kernel⟩
theorem ok_same {f C CN fdue fread fisint pR : Addr} {fN : Addr} {fd fddue fdread fdisint : FuncData} (F : Fun K "_law_same" "_law_same" s_same f fd) (T : CTx K C) (Y : ITy K C) (I : ITx mg) (N : NTx K mg CN fN) (G : GTx mg CN) (m_C : mg "Ratio" = some (.ref C)) (te : PySem.W.exmOne K (.ref CN) (.ref CN) = some true) (xf : XfC K CN)
    (kn : PySem.W.kitOne K (.type "NoneType") (.ref C) = some false) (SM : SMet K C (.type "type") "read" pR fread)
    (G_read : FnOk P w K mg base (L2.CX P w) 5 fread fdread ["text"] (spRead K C CN)) (b_read : Binds K fdread ["text"] [])
    (G_due : FnOk P w K mg base CX0 2 fdue fddue ["_law_text"] spDue) (m_due : mg "_law_due" = some (.ref fdue)) (k_due : PySem.W.keepIn K (.ref fdue) = true) (b_due : Binds K fddue ["_law_text"] [])
    (G_isint : FnOk P w K mg base CX0 1 fisint fdisint ["_law_told"] (spIsInt K)) (m_isint : mg "_law_is_integer" = some (.ref fisint)) (k_isint : PySem.W.keepIn K (.ref fisint) = true) (b_isint : Binds K fdisint ["_law_told"] []) : FnOk P w K mg base (L2.CX P w) 6 f fd ["_law_text"] spSame := by
  refine F.okX sc_same (fun vs H Q E h => ?_) (fun cdv A outer s H vs Q E hr h => ?_)
  · obtain ⟨x, rfl, _⟩ := h
    rfl
  · obtain ⟨a, rfl, hl, k⟩ := h
    refine ⟨_, (C8.pss_cut (ps_set (i := 1) sc_same.nd rfl (Or.inl rfl) (pe_call G_due (hr.mono (by decide)) rfl m_due k_due b_due .nil pass0 (pa_cons (pv 0) pa_nil)))
      (pss_cons (ps_set (i := 2) sc_same.nd rfl (Or.inl rfl) pe_non)
      (pss_cons (ps_set (i := 3) sc_same.nd rfl (Or.inl rfl) pe_str)
      (C8.pss_cut (ps_try_as (i := 4) (tb := fun W => tAsg (tSmS C (spRead K C CN) (WE W) (tC (.ref C)) (tCons (tVar 0) tNil)) (gName 2)) (Wout := fun _ _ _ _ => False) rfl rfl sc_same.nd rfl rfl ⟨rfl, by decide, Or.inl G.m_NoRatio⟩ takes0
        (fun W pn xe tk _ => pss_one (ps_set (i := 2) sc_same.nd rfl (Or.inl rfl) (pe_smS (pe_glob (v := .ref C) rfl m_C rfl) SM G_read (hr.mono (by decide)) b_read (fun σ => passAt tk σ) (pa_cons (pv 0) pa_nil))))
        (fun a oe cls d pn hz hf => pss_one (ps_set (i := 3) sc_same.nd rfl (Or.inl rfl) (pe_xf xf N.nw hz hf (pv 4)))))
      (pss_cons (ps_if (pt_cmpR op_isN (pv 1) pe_non (nomark _))
        (pss_one (ps_ret (pe_and (pe_cmpR op_isN (pv 2) pe_non (nomark _)) (pe_one (pe_cmpR op_eq (pv 3) pe_str (nomark _))))))
        pss_nil)
      (pss_cons (ps_if (pt_not (pt_val (pe_callB call_isi (by rfl) I.b_isinstance (by decide +kernel) (pa_cons (pv 2) (pa_cons (pe_glob (v := .ref C) rfl m_C rfl) pa_nil)))))
        (pss_one (ps_ret pe_bl))
        pss_nil)
      (pss_one (ps_ret (pe_and (pe_cmpR op_eq (pe_fld (pv 2) rfl) (pe_ix ix_tup (pv 1) pe_int (fun _ _ => rfl)) (nomark _)) (pe_and (pe_cmpR op_eq (pe_fld (pv 2) rfl) (pe_ix ix_tup (pv 1) pe_int (fun _ _ => rfl)) (nomark _)) (pe_one (pe_call G_isint (hr.mono (by decide)) rfl m_isint k_isint b_isint .nil pass0 (pa_cons (pe_fld (pv 2) rfl) pa_nil))))))))))))), ?_⟩
    refine ⟨fun σ H' => ∃ v, σ = [some (.str (SX.S a)), some v, none, none, none] ∧ Same H H' ∧ ((∃ t u p, TFit a t u ∧ v = .ref p ∧ H' p = some (.tup [.int t, .int u])) ∨ ((¬ ∃ t u, TFit a t u) ∧ v = .non)), ?_, ?_⟩
    · exact ⟨_, rfl, a, rfl, hl, fun t u F p H1 s1 hp => ⟨_, rfl, s1, .inl ⟨t, u, p, F, rfl, hp⟩⟩, fun hn H1 s1 => ⟨_, rfl, s1, .inr ⟨hn, rfl⟩⟩⟩
    · rintro σ H1 ⟨v, rfl, s1, hv⟩
      refine ⟨fun σ H' => ∃ (x : V) (z : Str), σ = [some (.str (SX.S a)), some v, some x, some (.str z), none] ∧ Same H1 H' ∧ ((∃ t u r, TFit a t u ∧ x = .ref r ∧ RatAt C H' r t u) ∨ ((¬ ∃ t u, TFit a t u) ∧ x = .non ∧ z = "text")), ?_, ?_⟩
      · refine ⟨rfl, _, rfl, _, rfl, .inr ⟨a, rfl, hl, fun hn H2 s2 d hd => ?_, fun t u F r H2 s2 R => ?_⟩⟩
        · refine ⟨true, te, fun _ e he => ?_, fun q => Bool.noConfusion q⟩
          refine ⟨_, rfl, rfl, rfl, d, _, _, rfl, upd_same, rfl, ?_⟩
          exact ⟨_, _, rfl, same_new s2 hd, .inr ⟨hn, rfl, rfl⟩⟩
        · exact ⟨_, _, rfl, s2, .inl ⟨t, u, r, F, rfl, R⟩⟩
      · rintro σ H2 ⟨x, z, rfl, s2, hx⟩
        refine ⟨_, rfl, rfl, _, rfl, ?_⟩
        rcases hv with ⟨t, u, p, F, rfl, hp⟩ | ⟨hn, rfl⟩
        · rcases hx with ⟨t', u', r, F', rfl, R⟩ | ⟨hn, _⟩
          · refine iteF ?_
            have eT : t' = t ∧ u' = u := by
              have e1 : Rd a (sgn t ++ TL.numL t.natAbs) (TL.numL u.natAbs) := by
                by_cases c : u = 1
                · refine .inl ⟨?_, ?_, ?_⟩
                  · rw [F.eq]
                    unfold txt tail1
                    rw [if_pos c, List.append_nil]
                    exact sgn_no47 _ _
                  · rw [F.eq]
                    unfold txt tail1
                    rw [if_pos c, List.append_nil]
                  · rw [c]
                    exact numL_one
                · refine .inr ⟨?_, sgn_no47 _ _⟩
                  rw [F.eq]
                  unfold txt tail1
                  rw [if_neg c, List.append_assoc]
              obtain ⟨e2, e3⟩ := rd_inv e1 F'
              obtain ⟨g, d, e4, hg⟩ := sg_cases (sgn t ++ TL.numL t.natAbs)
              have h1 := neg1_sgn hg e4.symm
              have h2 := neg1_sgn hg (e4.symm.trans e2)
              have h3 := sg_num hg e4.symm
              have h4 := sg_num hg (e4.symm.trans e2)
              have h5 : t.natAbs = t'.natAbs := TL.numL_inj (h3.symm.trans h4)
              have h6 := TL.numL_inj e3
              have := F.pos
              have := F'.pos
              rw [h5] at h1
              exact ⟨h2.symm.trans h1, by omega⟩
            obtain ⟨rfl, rfl⟩ := eT
            obtain ⟨dx, hr0⟩ := id R
            have hp2 := s2 _ _ hp
            refine ⟨_, rfl, _, _, _, _, true, rfl, .own C, R.ty T Y, kit_self, true, rfl, iteF ?_⟩
            refine ⟨_, rfl, r, C, dx, _, _, rfl, hr0, T.cl, T.nT, rf_top _ _, _, rfl, _, _, _, _, rfl, rfl, SqT.of hp2, rfl, rfl, _, rfl, ?_⟩
            refine itE (by simp) ⟨_, rfl, r, C, dx, _, _, rfl, hr0, T.cl, T.nB, rf_bottom _ _, _, rfl, _, _, _, _, rfl, rfl, SqT.of hp2, rfl, rfl, _, rfl, ?_⟩
            refine itE (by simp) ⟨_, rfl, r, C, dx, _, _, rfl, hr0, T.cl, T.nT, rf_top _ _, _, rfl, .int _, ?_⟩
            exact k _ (s1.trans s2)
          · exact absurd ⟨t, u, F⟩ hn
        · rcases hx with ⟨t', u', r, F', rfl, R⟩ | ⟨_, rfl, rfl⟩
          · exact absurd ⟨t', u', F'⟩ hn
          · refine iteT ⟨_, rfl, rfl, _, rfl, iteT ⟨_, rfl, rfl, ?_⟩⟩
            rw [decide_eq_true rfl]
            exact k _ (s1.trans s2)
theorem sc_strange : FnScope ["_law_thing", "e"] ["_law_thing"] (defScope s_strange) := ⟨rfl, rfl, rfl, by decide +kernel, rfl, by decide +kernel, by decide +kernel⟩
theorem ok_strange {f C CN fread pR : Addr} {fN : Addr} {fd fdread : FuncData} (F : Fun K "_law_strange" "_law_strange" s_strange f fd) (N : NTx K mg CN fN) (G : GTx mg CN) (m_C : mg "Ratio" = some (.ref C)) (te : PySem.W.exmOne K (.ref CN) (.ref CN) = some true) (xf : XfC K CN)
    (SM : SMet K C (.type "type") "read" pR fread)
    (G_read : FnOk P w K mg base (L2.CX P w) 5 fread fdread ["text"] (spRead K C CN)) (b_read : Binds K fdread ["text"] []) : FnOk P w K mg base (L2.CX P w) 6 f fd ["_law_thing"] (spStrange K) := by
  refine F.okX sc_strange (fun vs H Q E h => ?_) (fun cdv A outer s H vs Q E hr h => ?_)
  · obtain ⟨x, rfl, _⟩ := h
    rfl
  · obtain ⟨v, rfl, hv, k⟩ := h
    refine ⟨_, (pss_cons (ps_try_as (i := 1) (tb := fun W => tDrop (tSmS C (spRead K C CN) (WE W) (tC (.ref C)) (tCons (tVar 0) tNil))) (Wout := fun _ _ _ _ => False) rfl rfl sc_strange.nd rfl rfl ⟨rfl, by decide, Or.inl G.m_NoRatio⟩ takes0
        (fun W pn xe tk _ => pss_one (ps_expr (pe_smS (pe_glob (v := .ref C) rfl m_C rfl) SM G_read (hr.mono (by decide)) b_read (fun σ => passAt tk σ) (pa_cons (pv 0) pa_nil))))
        (fun a oe cls d pn hz hf => pss_one (ps_ret (pe_xf xf N.nw hz hf (pv 1)))))
      (pss_one (ps_ret pe_str))), ?_⟩
    refine ⟨rfl, _, rfl, _, rfl, .inl ⟨hv, fun d hd => ?_⟩⟩
    refine ⟨true, te, fun _ e he => ?_, fun q => Bool.noConfusion q⟩
    exact ⟨_, rfl, rfl, rfl, d, _, _, rfl, upd_same, rfl, k _ (same_new (Same.refl _) hd)⟩
end
end Sq

namespace Sq
open PySem L2 PyProof.Rows
abbrev s_law : Stmt := top 23
theorem low_uniq {a b t u t' u' : Int} (hb : b ≠ 0) (L : Low a b t u) (L' : Low a b t' u') : t' = t ∧ u' = u := by
  obtain ⟨k, k0, ha, hk, _⟩ := low_parts hb L
  refine low_id L.pos L.cop ⟨L'.pos, L'.cop, ?_, ?_, ?_⟩
  · have v := L'.val
    rw [ha, hk] at v
    refine Int.eq_of_mul_eq_mul_right k0 ?_
    rw [Int.mul_assoc, v, Int.mul_assoc, Int.mul_assoc, Int.mul_comm k u']
  all_goals skip
  · have v := L'.val
    have : t' * u = t * u' := by
      rw [ha, hk] at v
      refine Int.eq_of_mul_eq_mul_right k0 ?_
      rw [Int.mul_assoc, v, Int.mul_assoc, Int.mul_assoc, Int.mul_comm k u']
    have d : t' ∣ t := by
      refine dvd_cop (y := u') ⟨u, ?_⟩ (by rw [Int.gcd_comm]; exact L'.cop)
      rw [Int.mul_comm u' t, ← this]
    by_cases z : t = 0
    · subst z
      rw [Int.zero_mul] at this
      rcases Int.mul_eq_zero.mp this with h | h
      · rw [h]
        exact Nat.le_refl _
      · have := L.pos
        omega
    · exact Nat.le_of_dvd (by omega) (Int.natAbs_dvd_natAbs.mpr d)
  · have v := L'.val
    have : t' * u = t * u' := by
      rw [ha, hk] at v
      refine Int.eq_of_mul_eq_mul_right k0 ?_
      rw [Int.mul_assoc, v, Int.mul_assoc, Int.mul_assoc, Int.mul_comm k u']
    have d : u' ∣ u := by
      refine dvd_cop (y := t') ⟨t, ?_⟩ L'.cop
      rw [this, Int.mul_comm]
    have := L.pos
    exact Nat.le_of_dvd (by omega) (Int.natAbs_dvd_natAbs.mpr d)
theorem low_ex (a : Int) {b : Int} (hb : b ≠ 0) : ∃ t u, Low a b t u := by
  by_cases h : b < 0
  · exact ⟨_, _, low_of hb (.inr ⟨rfl, h⟩)⟩
  · exact ⟨_, _, low_of hb (.inl ⟨rfl, by omega⟩)⟩
theorem abs_fdiv {a t k : Int} {n : Nat} (k0 : k ≠ 0) (ha : a = t * k) (hn : n = k.natAbs) : (if a < 0 then -a else a).fdiv (n : Int) = (t.natAbs : Int) := by
  have e : (if a < 0 then -a else a) = ((t.natAbs * k.natAbs : Nat) : Int) := by
    rw [← Int.natAbs_mul, ← ha]
    split <;> omega
  rw [e, hn]
  push_cast
  exact Int.mul_fdiv_cancel _ (by omega)
theorem sgn_mul {a b t u k : Int} (k0 : k ≠ 0) (ha : a = t * k) (hb : b = u * k) (hu : 1 ≤ u) : a * b < 0 ↔ t < 0 := by
  have e : a * b = t * (u * (k * k)) := by
    rw [ha, hb]
    rw [Int.mul_assoc, Int.mul_left_comm k u k]
  have p : 0 < u * (k * k) := Int.mul_pos (by omega) (by
    rcases Int.lt_or_gt_of_ne k0 with h | h
    · exact Int.mul_pos_of_neg_of_neg h h
    · exact Int.mul_pos h h)
  rw [e]
  generalize u * (k * k) = m at *
  constructor
  · intro h
    by_cases c : t < 0
    · exact c
    · have := Int.mul_nonneg (show 0 ≤ t by omega) (show 0 ≤ m by omega)
      omega
  · intro h
    exact Int.mul_neg_of_neg_of_pos h p
theorem StAt.keep {H H' : Hp} {p : Addr} (S : StAt H p) (s : Same H H') : StAt H' p := by
  obtain ⟨a, ns, i, l, m, c, h1, h2, r⟩ := S
  exact ⟨a, ns, i, l, m, c, s _ _ h1, s _ _ h2, r⟩
theorem small60 {a : Int} (h : a.natAbs < 2 ^ 120) : a.natAbs < 10 ^ 60 := Nat.lt_of_lt_of_le h (by decide)
theorem c_signs : ("0123456789-/ +.a1A_~" : Str) = SX.S [48, 49, 50, 51, 52, 53, 54, 55, 56, 57, 45, 47, 32, 43, 46, 97, 49, 65, 95, 126] := by decide +kernel
theorem sign_at {v : Int} (h0 : 0 ≤ v) (h1 : v < 20) : ∃ c, atI ("0123456789-/ +.a1A_~" : Str).cps.toList v = some c := by
  rw [c_signs]
  have hi : v.toNat < [48, 49, 50, 51, 52, 53, 54, 55, 56, 57, 45, 47, 32, 43, 46, 97, 49, 65, 95, 126].length := by
    simp
    omega
  have e : v = ((v.toNat : Nat) : Int) := by omega
  rw [e]
  exact ⟨_, atI_nat (List.getElem?_eq_getElem hi)⟩
theorem txt_len {t u : Int} (ht : t.natAbs < 10 ^ 60) (hu : u.natAbs < 10 ^ 60) : (txt t u).length ≤ 130 := by
  have h1 := numL_len60 ht
  have h2 := numL_len60 hu
  have h3 := sgn_len t
  unfold txt tail1
  split <;> simp <;> omega
section
variable {P : Program} {w : World} {K : PySem.W.Frag} {mg : Str → Option Value} {base : Heap}
theorem sc_law : FnScope ["_law_script", "_law_state_here", "_law_way", "_law_sign", "_law_spot", "_law_top", "_law_bottom", "_law_shared", "_law_due_here", "_law_text", "_law_at", "_law_changed", "_law_long"] ["_law_script"] (defScope s_law) := ⟨rfl, rfl, rfl, by decide +kernel, rfl, by decide +kernel, by decide +kernel⟩
theorem ok_law {f C CN fR ftext fstate fdraw fgreat fgcd fsame fstrange : Addr} {fd fdR fdtext fdstate fddraw fdgreat fdgcd fdsame fdstrange : FuncData} (F : Fun K "law" "law" s_law f fd) (T : CTx K C) (D : DTx mg) (B : STx mg) (m_C : mg "Ratio" = some (.ref C)) (M : Mk K C fR)
    (G_R : FnOk P w K mg base (L2.CX P w) 3 fR fdR ["self", "top", "bottom"] (spRatioInit K C CN)) (b_R : Binds K fdR ["self", "top", "bottom"] [])
    (Me_text : Meth K C "text" ftext) (G_text : FnOk P w K mg base CX0 1 ftext fdtext ["self"] (spText C)) (b_text : Binds K fdtext ["self"] [])
    (G_state : FnOk P w K mg base CX0 1 fstate fdstate ["_law_script"] (spState K)) (m_state : mg "_law_state" = some (.ref fstate)) (k_state : PySem.W.keepIn K (.ref fstate) = true) (b_state : Binds K fdstate ["_law_script"] [])
    (G_draw : FnOk P w K mg base CX0 1 fdraw fddraw ["_law_state_here", "_law_many"] spDraw) (m_draw : mg "_law_draw" = some (.ref fdraw)) (k_draw : PySem.W.keepIn K (.ref fdraw) = true) (b_draw : Binds K fddraw ["_law_state_here", "_law_many"] [])
    (G_great : FnOk P w K mg base CX0 2 fgreat fdgreat ["_law_state_here"] spGreat) (m_great : mg "_law_great" = some (.ref fgreat)) (k_great : PySem.W.keepIn K (.ref fgreat) = true) (b_great : Binds K fdgreat ["_law_state_here"] [])
    (G_gcd : FnOk P w K mg base CX0 1 fgcd fdgcd ["_law_one", "_law_other"] spGcd) (m_gcd : mg "_law_gcd" = some (.ref fgcd)) (k_gcd : PySem.W.keepIn K (.ref fgcd) = true) (b_gcd : Binds K fdgcd ["_law_one", "_law_other"] [])
    (G_same : FnOk P w K mg base (L2.CX P w) 6 fsame fdsame ["_law_text"] spSame) (m_same : mg "_law_same" = some (.ref fsame)) (k_same : PySem.W.keepIn K (.ref fsame) = true) (b_same : Binds K fdsame ["_law_text"] [])
    (G_strange : FnOk P w K mg base (L2.CX P w) 6 fstrange fdstrange ["_law_thing"] (spStrange K)) (m_strange : mg "_law_strange" = some (.ref fstrange)) (k_strange : PySem.W.keepIn K (.ref fstrange) = true) (b_strange : Binds K fdstrange ["_law_thing"] []) :
    FnOk P w K mg base CX0 7 f fd ["_law_script"] (spLaw K) := by
  refine F.ok sc_law (fun vs H Q E h => ?_) (fun cdv A outer s H vs Q E hr h => ?_)
  · obtain ⟨a, ns, rfl, _⟩ := h
    rfl
  · obtain ⟨sc, ns, rfl, hS, hl, k⟩ := h
    refine ⟨_, (pss_cons (ps_set (i := 1) sc_law.nd rfl (Or.inl rfl) (pe_call G_state (hr.mono (by decide)) rfl m_state k_state b_state .nil pass0 (pa_cons (pv 0) pa_nil)))
      (pss_cons (ps_set (i := 2) sc_law.nd rfl (Or.inl rfl) (pe_call G_draw (hr.mono (by decide)) rfl m_draw k_draw b_draw .nil pass0 (pa_cons (pv 1) (pa_cons pe_int pa_nil))))
      (pss_cons (ps_set (i := 3) sc_law.nd rfl (Or.inl rfl) (pe_ix ix_str pe_str (pe_call G_draw (hr.mono (by decide)) rfl m_draw k_draw b_draw .nil pass0 (pa_cons (pv 1) (pa_cons pe_int pa_nil))) (fun _ _ => rfl)))
      (pss_cons (ps_set (i := 4) sc_law.nd rfl (Or.inl rfl) (pe_call G_draw (hr.mono (by decide)) rfl m_draw k_draw b_draw .nil pass0 (pa_cons (pv 1) (pa_cons pe_int pa_nil))))
      (pss_cons (ps_set (i := 5) sc_law.nd rfl (Or.inl rfl) (pe_call G_great (hr.mono (by decide)) rfl m_great k_great b_great .nil pass0 (pa_cons (pv 1) pa_nil)))
      (pss_cons (ps_set (i := 6) sc_law.nd rfl (Or.inl rfl) (pe_call G_great (hr.mono (by decide)) rfl m_great k_great b_great .nil pass0 (pa_cons (pv 1) pa_nil)))
      (C8.pss_cut (ps_if (pt_cmpR op_eq (pv 6) pe_int (nomark _))
        (pss_one (ps_set (i := 6) sc_law.nd rfl (Or.inl rfl) pe_int))
        pss_nil)
      (pss_cons (ps_set (i := 7) sc_law.nd rfl (Or.inl rfl) (pe_call G_gcd (hr.mono (by decide)) rfl m_gcd k_gcd b_gcd .nil pass0 (pa_cons (pv 5) (pa_cons (pv 6) pa_nil))))
      (pss_cons (ps_set (i := 8) sc_law.nd rfl (Or.inl rfl) (pe_callTy call_str_int (by rfl) B.b_str (by decide +kernel) (pa_cons (pe_op op_fdivZ (pe_callB call_abs (by rfl) D.b_abs (by decide +kernel) (pa_cons (pv 5) pa_nil)) (pv 7)) pa_nil)))
      (C8.pss_cut (ps_if (pt_cmpR op_lt (pe_op op_mulW (pv 5) (pv 6)) pe_int (nomark _))
        (pss_one (ps_set (i := 8) sc_law.nd rfl (Or.inl rfl) (pe_op op_add_str pe_str (pv 8))))
        pss_nil)
      (C8.pss_cut (ps_if (pt_cmpR op_ne (pe_op op_fdivZ (pe_callB call_abs (by rfl) D.b_abs (by decide +kernel) (pa_cons (pv 6) pa_nil)) (pv 7)) pe_int (nomark _))
        (pss_one (ps_set (i := 8) sc_law.nd rfl (Or.inl rfl) (pe_op op_add_str (pe_op op_add_str (pv 8) pe_str) (pe_callTy call_str_int (by rfl) B.b_str (by decide +kernel) (pa_cons (pe_op op_fdivZ (pe_callB call_abs (by rfl) D.b_abs (by decide +kernel) (pa_cons (pv 6) pa_nil)) (pv 7)) pa_nil)))))
        pss_nil)
      (pss_cons (ps_set (i := 9) sc_law.nd rfl (Or.inl rfl) (pe_meth0 (pe_make M G_R (hr.mono (by decide)) rfl m_C b_R .nil passL (pa_cons (pv 5) (pa_cons (pv 6) pa_nil))) T.cl Me_text G_text (hr.mono (by decide)) b_text .nil pass0))
      (pss_cons (ps_if (PW.pt (pw_or (pt_cmpR op_ne (pv 9) (pv 8) (nomark _)) (pw_or1 (pt_not (pt_val (pe_call G_same (hr.mono (by decide)) rfl m_same k_same b_same .nil passL (pa_cons (pv 8) pa_nil)))))))
        (pss_one (ps_ret pe_bl))
        pss_nil)
      (C8.pss_cut (ps_set (i := 10) sc_law.nd rfl (Or.inl rfl) (pe_op op_mod (pe_callTy call_int1 (by rfl) D.b_int (by decide +kernel) (pa_cons (pv 4) pa_nil)) (pe_op op_add (pe_callB call_len_str (by rfl) B.b_len PySem.boot_len (pa_cons (pv 8) pa_nil)) pe_int)))
      (C8.pss_cut (ps_set (i := 11) sc_law.nd rfl (Or.inl rfl) (pe_op op_add_str (pe_op op_add_str (pe_slice C8.sl_txt (pv 8) po_none (po_some (pv 10))) (pv 3)) (pe_slice C8.sl_txt (pv 8) (po_some (pv 10)) po_none)))
      (C8.pss_cut (ps_if (pt_cmpR op_eq (pv 2) pe_int (nomark _))
        (pss_one (ps_set (i := 11) sc_law.nd rfl (Or.inl rfl) (pe_op op_add_str (pe_slice C8.sl_txt (pv 8) po_none (po_some (pv 10))) (pe_slice C8.sl_txt (pv 8) (po_some (pe_op op_add (pv 10) pe_int)) po_none))))
        pss_nil)
      (C8.pss_cut (ps_if (pt_cmpR op_eq (pv 2) pe_int (nomark _))
        (pss_one (ps_set (i := 11) sc_law.nd rfl (Or.inl rfl) (pe_op op_add_str (pe_op op_add_str (pe_slice C8.sl_txt (pv 8) po_none (po_some (pv 10))) (pv 3)) (pe_slice C8.sl_txt (pv 8) (po_some (pe_op op_add (pv 10) pe_int)) po_none))))
        pss_nil)
      (pss_cons (ps_if (PW.pt (pw_or (pt_not (pt_val (pe_call G_same (hr.mono (by decide)) rfl m_same k_same b_same .nil passL (pa_cons (pv 11) pa_nil)))) (pw_or (pt_not (pt_val (pe_call G_same (hr.mono (by decide)) rfl m_same k_same b_same .nil passL (pa_cons pe_str pa_nil)))) (pw_or (pt_not (pt_val (pe_call G_same (hr.mono (by decide)) rfl m_same k_same b_same .nil passL (pa_cons pe_str pa_nil)))) (pw_or1 (pt_not (pt_val (pe_call G_same (hr.mono (by decide)) rfl m_same k_same b_same .nil passL (pa_cons (pe_op op_add_str pe_str (pv 8)) pa_nil)))))))))
        (pss_one (ps_ret pe_bl))
        pss_nil)
      (pss_cons (ps_set (i := 12) sc_law.nd rfl (Or.inl rfl) (pe_op op_add_str (pe_op op_add_str pe_str (pe_op op_mulS pe_str (pe_op op_add pe_int (pe_call G_draw (hr.mono (by decide)) rfl m_draw k_draw b_draw .nil pass0 (pa_cons (pv 1) (pa_cons pe_int pa_nil)))))) pe_str))
      (pss_cons (ps_if (PW.pt (pw_or (pt_not (pt_val (pe_call G_same (hr.mono (by decide)) rfl m_same k_same b_same .nil passL (pa_cons (pv 12) pa_nil)))) (pw_or (pt_not (pt_val (pe_call G_same (hr.mono (by decide)) rfl m_same k_same b_same .nil passL (pa_cons (pe_op op_add_str (pe_op op_add_str pe_str (pv 12)) pe_str) pa_nil)))) (pw_or1 (pt_not (pt_val (pe_call G_same (hr.mono (by decide)) rfl m_same k_same b_same .nil passL (pa_cons (pe_op op_add_str pe_str (pv 12)) pa_nil))))))))
        (pss_one (ps_ret pe_bl))
        pss_nil)
      (pss_one (ps_ret (pe_and (pe_cmpR op_eq (pe_call G_strange (hr.mono (by decide)) rfl m_strange k_strange b_strange .nil passL (pa_cons (pv 5) pa_nil)) pe_str (nomark _)) (pe_and (pe_cmpR op_eq (pe_call G_strange (hr.mono (by decide)) rfl m_strange k_strange b_strange .nil passL (pa_cons pe_non pa_nil)) pe_str (nomark _)) (pe_one (pe_cmpR op_eq (pe_call G_strange (hr.mono (by decide)) rfl m_strange k_strange b_strange .nil passL (pa_cons (pe_lst (pa_cons (pv 8) pa_nil)) pa_nil)) pe_str (nomark _))))))))))))))))))))))))))), ?_⟩
    refine ⟨_, rfl, sc, ns, rfl, hS, hl, fun p H1 hp S1 s1 => ?_⟩
    refine ⟨_, rfl, p, _, rfl, by decide, by decide, S1, fun v1 H2 v10 v11 S2 B2 => ?_⟩
    refine ⟨_, rfl, p, _, rfl, by decide, by decide, S2, fun v2 H3 v20 v21 S3 B3 => ?_⟩
    obtain ⟨c, hc⟩ := sign_at v20 v21
    refine ⟨_, _, c, rfl, rfl, (by rw [c_signs, SX.S_len]; exact line _ (by decide)), hc, ?_⟩
    refine ⟨_, rfl, p, _, rfl, by decide, by decide, S3, fun v3 H4 v30 v31 S4 B4 => ?_⟩
    refine ⟨_, rfl, p, rfl, S4, fun a H5 ha S5 B5 => ?_⟩
    refine ⟨_, rfl, p, rfl, S5, fun b0 H6 hb0 S6 B6 => ?_⟩
    refine ⟨fun σ H' => ∃ b : Int, σ = [some (.ref sc), some (.ref p), some (.int v1), some (.str ⟨#[c]⟩), some (.int v3), some (.int a), some (.int b), none, none, none, none, none, none] ∧ H' = H6 ∧ b ≠ 0 ∧ b.natAbs < 2 ^ 120, ?_, ?_⟩
    · refine ⟨_, rfl, rfl, _, rfl, ite2 (fun c => ⟨1, rfl, rfl, by decide, by decide⟩) (fun c => ⟨b0, rfl, rfl, by simpa using c, hb0⟩)⟩
    · rintro σ H7 ⟨b, rfl, rfl, hb, sb⟩
      obtain ⟨t, u, L⟩ := low_ex a hb
      obtain ⟨kk, k0, ea, eb, eg⟩ := low_parts hb L
      have st : t.natAbs < 10 ^ 60 := Nat.lt_of_le_of_lt L.lt (small60 ha)
      have su : u.natAbs < 10 ^ 60 := Nat.lt_of_le_of_lt L.lu (small60 sb)
      have sg : Int.gcd a b < 2 ^ 120 := Nat.lt_of_le_of_lt (Nat.le_of_dvd (by omega) (Int.gcd_dvd_natAbs_right ..)) sb
      have gp : 0 < Int.gcd a b := Int.gcd_pos_of_ne_zero_right a hb
      have cz : ∀ i, CDivZ i ((Int.gcd a b : Nat) : Int) := fun i => ⟨by omega, by rw [Int.natAbs_natCast]; exact Nat.lt_of_lt_of_le sg (by decide)⟩
      have l1 := numL_len60 st
      have l2 := numL_len60 su
      have l3 := sgn_len t
      have pu := L.pos
      refine ⟨_, rfl, _, rfl, a, b, rfl, ?_⟩
      refine ⟨_, rfl, _, rfl, _, rfl, _, _, rfl, rfl, cz _, ?_⟩
      refine ⟨_, rfl, (by rw [abs_fdiv k0 ea eg, Int.natAbs_natCast]; exact log_ok st), ?_⟩
      rw [abs_fdiv k0 ea eg, SX.num_S]
      refine ⟨fun σ H' => σ = [some (.ref sc), some (.ref p), some (.int v1), some (.str ⟨#[c]⟩), some (.int v3), some (.int a), some (.int b), some (.int ((Int.gcd a b : Nat) : Int)), some (.str (SX.S (sgn t ++ TL.numL t.natAbs))), none, none, none, none] ∧ H' = H7, ?_, ?_⟩
      · refine ⟨_, rfl, _, rfl, _, _, rfl, rfl, mul_ok (Nat.lt_of_lt_of_le ha (by decide)) (Nat.lt_of_lt_of_le sb (by decide)), _, _, rfl, rfl, _, rfl, ?_⟩
        refine ite2 (fun c1 => ?_) (fun c1 => ?_)
        · have tn : t < 0 := (sgn_mul k0 ea eb pu).mp (of_decide_eq_true c1)
          refine ⟨_, rfl, _, _, rfl, rfl, (by rw [c_minus, SX.S_len, SX.S_len]; exact line _ (by simp; omega)), ?_⟩
          rw [c_minus, SX.S_cat]
          have : sgn t = [45] := if_pos tn
          rw [this]
          exact ⟨rfl, rfl⟩
        · have tn : ¬ t < 0 := fun e => c1 (decide_eq_true ((sgn_mul k0 ea eb pu).mpr e))
          have : sgn t = [] := if_neg tn
          rw [this]
          exact ⟨rfl, rfl⟩
      · rintro σ H8 ⟨rfl, rfl⟩
        refine ⟨fun σ H' => σ = [some (.ref sc), some (.ref p), some (.int v1), some (.str ⟨#[c]⟩), some (.int v3), some (.int a), some (.int b), some (.int ((Int.gcd a b : Nat) : Int)), some (.str (SX.S (txt t u))), none, none, none, none] ∧ H' = H8, ?_, ?_⟩
        · refine ⟨_, rfl, _, rfl, _, rfl, _, _, rfl, rfl, cz _, rfl, _, rfl, ?_⟩
          have eB := abs_fdiv k0 eb eg
          refine ite2 (fun c1 => ?_) (fun c1 => ?_)
          · have u1 : u ≠ 1 := fun e => by
              have h1 : V.int ((if b < 0 then -b else b).fdiv ((Int.gcd a b : Nat) : Int)) = V.int 1 := by
                rw [eB, e]
                rfl
              have h2 := congrArg not (decide_eq_true h1)
              exact Bool.noConfusion (h2.symm.trans c1)
            refine ⟨_, rfl, _, _, rfl, rfl, (by rw [c_slash, SX.S_len, SX.S_len]; exact line _ (by simp; omega)), _, rfl, _, rfl, _, rfl, _, _, rfl, rfl, cz _, ?_⟩
            refine ⟨_, rfl, (by rw [abs_fdiv k0 eb eg, Int.natAbs_natCast]; exact log_ok su), ?_⟩
            refine ⟨_, _, rfl, rfl, (by rw [abs_fdiv k0 eb eg, SX.num_S, c_slash, SX.S_cat, SX.S_len, SX.S_len]; exact line _ (by simp; omega)), ?_⟩
            rw [abs_fdiv k0 eb eg, SX.num_S, c_slash, SX.S_cat, SX.S_cat]
            have : sgn t ++ TL.numL t.natAbs ++ [47] ++ TL.numL u.natAbs = txt t u := by
              unfold txt tail1
              rw [if_neg u1]
              simp
            rw [this]
            exact ⟨rfl, rfl⟩
          · have u1 : u = 1 := by
              by_cases h1 : V.int ((if b < 0 then -b else b).fdiv ((Int.gcd a b : Nat) : Int)) = V.int 1
              · rw [eB] at h1
                have := V.int.inj h1
                omega
              · exact absurd (congrArg not (decide_eq_false h1)) c1
            have : sgn t ++ TL.numL t.natAbs = txt t u := by
              unfold txt tail1
              rw [if_pos u1, List.append_nil]
            rw [this]
            exact ⟨rfl, rfl⟩
        · rintro σ H9 ⟨rfl, rfl⟩
          have lt := txt_len st su
          generalize hX : txt t u = X at *
          refine ⟨_, rfl, _, rfl, fun y dy ny ndy ne => mk_go hb (Nat.lt_of_lt_of_le sb (by decide)) ny ndy ne fun t' u' H10 L' R s10 => ⟨rfl, ?_⟩⟩
          obtain ⟨rfl, rfl⟩ := low_uniq hb L L'
          obtain ⟨dy', hy'⟩ := id R
          refine ⟨y, dy', _, rfl, hy', rf_no _ _ (by decide +kernel) (by decide +kernel), y, _, _, rfl, R, st, su, pu, ?_⟩
          rw [hX]
          have S10 := S6.keep s10
          refine ⟨_, rfl, _, rfl, rfl, _, rfl, ?_⟩
          rw [decide_eq_true rfl]
          refine iteF ⟨_, rfl, X, rfl, by omega, fun H11 s11 => ⟨_, rfl, iteF ?_⟩⟩
          have S11 := S10.keep s11
          have cS : (⟨#[c]⟩ : Str) = SX.S [c] := rfl
          refine ⟨fun σ H' => ∃ m : Int, σ = [some (.ref sc), some (.ref p), some (.int v1), some (.str (SX.S [c])), some (.int v3), some (.int a), some (.int b), some (.int ((Int.gcd a b : Nat) : Int)), some (.str (SX.S X)), some (.str (SX.S X)), some (.int m), none, none] ∧ 0 ≤ m ∧ H' = H11, ?_, ?_⟩
          · exact ⟨_, rfl, .inl ⟨_, rfl, _, rfl, _, rfl, (by rw [SX.S_len]; exact line _ (by omega)), _, _, rfl, rfl, _, _, rfl, rfl, (by rw [SX.S_len]; omega), ⟨_, rfl, Int.emod_nonneg _ (by rw [SX.S_len]; omega), rfl⟩⟩⟩
          rintro σ H11 ⟨m, rfl, m0, rfl⟩
          have ln : ∀ (l : List Nat), l.length ≤ 1000 → (SX.S l).length ≤ sizeLine := fun l h => by rw [SX.S_len]; exact line _ (by omega)
          have lt1 : ∀ n : Nat, (X.take n).length ≤ 130 := fun n => by rw [List.length_take]; omega
          have ld1 : ∀ n : Nat, (X.drop n).length ≤ 130 := fun n => by rw [List.length_drop]; omega
          have l2' : ∀ (x y : List Nat), x.length ≤ 300 → y.length ≤ 300 → (SX.S x).length + (SX.S y).length ≤ sizeLine := fun x y h h' => by rw [SX.S_len, SX.S_len]; exact line _ (by omega)
          let MidP : List Nat → L2.St → Prop := fun y σ => σ = [some (.ref sc), some (.ref p), some (.int v1), some (.str (SX.S [c])), some (.int v3), some (.int a), some (.int b), some (.int ((Int.gcd a b : Nat) : Int)), some (.str (SX.S X)), some (.str (SX.S X)), some (.int m), some (.str (SX.S y)), none]
          refine ⟨fun σ H' => ∃ y : List Nat, MidP y σ ∧ y.length ≤ 300 ∧ H' = H11, ?_, ?_⟩
          · refine ⟨_, rfl, _, rfl, _, rfl, _, rfl, ln X (by omega), ?_⟩
            rw [SX.slice_to m0]
            refine ⟨_, rfl, _, _, rfl, rfl, l2' _ _ (by have := lt1 m.toNat; omega) (by simp), ?_⟩
            rw [SX.S_cat]
            refine ⟨_, rfl, _, rfl, _, rfl, _, rfl, ln X (by omega), ?_⟩
            rw [SX.slice_from m0]
            refine ⟨_, _, rfl, rfl, l2' _ _ (by have := lt1 m.toNat; rw [List.length_append]; simp; omega) (by have := ld1 m.toNat; omega), ?_⟩
            rw [SX.S_cat]
            refine ⟨_, rfl, ?_, rfl⟩
            have h1 := lt1 m.toNat
            have h2 := ld1 m.toNat
            simp only [List.length_append, List.length_cons, List.length_nil]
            omega
          rintro σ H11 ⟨y0, rfl, e0, rfl⟩
          refine ⟨fun σ H' => ∃ y : List Nat, MidP y σ ∧ y.length ≤ 300 ∧ H' = H11, ?_, ?_⟩
          · refine ⟨_, rfl, rfl, _, rfl, ite2 (fun _ => ?_) (fun _ => ⟨y0, rfl, e0, rfl⟩)⟩
            refine ⟨_, rfl, _, rfl, _, rfl, _, rfl, ln X (by omega), ?_⟩
            rw [SX.slice_to m0]
            refine ⟨_, rfl, _, rfl, _, _, rfl, rfl, _, rfl, _, rfl, ln X (by omega), ?_⟩
            rw [SX.slice_from (by omega)]
            refine ⟨_, _, rfl, rfl, l2' _ _ (by have := lt1 m.toNat; omega) (by have := ld1 (m + 1).toNat; omega), ?_⟩
            rw [SX.S_cat]
            exact ⟨_, rfl, by have := lt1 m.toNat; have := ld1 (m + 1).toNat; rw [List.length_append]; omega, rfl⟩
          · rintro σ H12 ⟨y1, rfl, e1, rfl⟩
            refine ⟨fun σ H' => ∃ y : List Nat, MidP y σ ∧ y.length ≤ 300 ∧ H' = H12, ?_, ?_⟩
            · refine ⟨_, rfl, rfl, _, rfl, ite2 (fun _ => ?_) (fun _ => ⟨y1, rfl, e1, rfl⟩)⟩
              refine ⟨_, rfl, _, rfl, _, rfl, _, rfl, ln X (by omega), ?_⟩
              rw [SX.slice_to m0]
              refine ⟨_, rfl, _, _, rfl, rfl, l2' _ _ (by have := lt1 m.toNat; omega) (by simp), ?_⟩
              rw [SX.S_cat]
              refine ⟨_, rfl, _, rfl, _, _, rfl, rfl, _, rfl, _, rfl, ln X (by omega), ?_⟩
              rw [SX.slice_from (by omega)]
              refine ⟨_, _, rfl, rfl, l2' _ _ (by have := lt1 m.toNat; rw [List.length_append]; simp; omega) (by have := ld1 (m + 1).toNat; omega), ?_⟩
              rw [SX.S_cat]
              exact ⟨_, rfl, by have := lt1 m.toNat; have := ld1 (m + 1).toNat; simp only [List.length_append, List.length_cons, List.length_nil]; omega, rfl⟩
            · rintro σ H13 ⟨y2, rfl, e2, rfl⟩
              refine ⟨_, rfl, y2, rfl, by omega, fun H14 s14 => ⟨_, rfl, iteF ?_⟩⟩
              refine ⟨[], (by rw [c_empty]; rfl), by decide, fun H15 s15 => ⟨_, rfl, iteF ?_⟩⟩
              refine ⟨[45, 48], (by rw [show ("-0" : Str) = SX.S [45, 48] from by decide +kernel]; rfl), by decide, fun H16 s16 => ⟨_, rfl, iteF ?_⟩⟩
              refine ⟨_, rfl, _, _, rfl, rfl, (by rw [c_minus]; exact l2' [45] _ (by simp) (by omega)), ?_⟩
              rw [c_minus, SX.S_cat]
              refine ⟨_, rfl, (by rw [List.length_append]; simp; omega), fun H17 s17 => ⟨_, rfl, iteF ?_⟩⟩
              have S17 := (((S11.keep s14).keep s15).keep s16).keep s17
              refine ⟨_, rfl, p, _, rfl, by decide, by decide, S17, fun v5 H18 v50 v51 S18 B18 => ?_⟩
              refine ⟨_, _, rfl, rfl, 48, _, (by rw [c_zero]), rfl, by omega, by omega, ?_⟩
              rw [c_one]
              have lr : (List.replicate (58 + v5).toNat 48).length ≤ 60 := by
                rw [List.length_replicate]
                omega
              generalize List.replicate (58 + v5).toNat 48 = rr at *
              refine ⟨_, _, rfl, rfl, l2' [49] rr (by simp) (by omega), ?_⟩
              rw [SX.S_cat]
              refine ⟨_, _, rfl, rfl, l2' _ [49] (by rw [List.length_append]; simp; omega) (by simp), ?_⟩
              rw [SX.S_cat]
              have lq : ([49] ++ rr ++ [49]).length ≤ 62 := by
                simp only [List.length_append, List.length_cons, List.length_nil]
                omega
              generalize [49] ++ rr ++ [49] = q at *
              refine ⟨_, rfl, q, rfl, by omega, fun H19 s19 => ⟨_, rfl, iteF ?_⟩⟩
              refine ⟨_, rfl, _, _, rfl, rfl, (l2' [45] _ (by simp) (by omega)), ?_⟩
              rw [SX.S_cat, show ("/7" : Str) = SX.S [47, 55] from by decide +kernel]
              refine ⟨_, _, rfl, rfl, l2' _ [47, 55] (by rw [List.length_append]; simp; omega) (by simp), ?_⟩
              rw [SX.S_cat]
              refine ⟨_, rfl, (by simp only [List.length_append, List.length_cons, List.length_nil]; omega), fun H20 s20 => ⟨_, rfl, iteF ?_⟩⟩
              refine ⟨_, rfl, _, _, rfl, rfl, (by rw [show ("3/" : Str) = SX.S [51, 47] from by decide +kernel]; exact l2' [51, 47] _ (by simp) (by omega)), ?_⟩
              rw [show ("3/" : Str) = SX.S [51, 47] from by decide +kernel, SX.S_cat]
              refine ⟨_, rfl, (by simp only [List.length_append, List.length_cons, List.length_nil]; omega), fun H21 s21 => ⟨_, rfl, iteF ?_⟩⟩
              refine ⟨_, rfl, _, rfl, .int _, fun H22 s22 => ⟨rfl, _, rfl, ?_⟩⟩
              refine itE (by simp) ⟨_, rfl, .non, fun H23 s23 => ⟨rfl, _, rfl, ?_⟩⟩
              refine itE (by simp) ⟨_, rfl, (by show 1 ≤ sizeLine; decide), fun lp hlp => ⟨_, rfl, .lst upd_same, fun H24 s24 => ⟨rfl, ?_⟩⟩⟩
              rw [decide_eq_true rfl]
              exact k _
end
end Sq

namespace Sq
open PySem PySem.Spec PyProof.Rows L2
theorem cls_some {K : PySem.W.Frag} {C : Addr} (h : PySem.W.hasDictIn K C = true) : (PySem.W.clsIn K C).isSome = true := by
  obtain ⟨cd, hc, _⟩ := PySem.W.any_some h
  rw [hc]
  rfl
theorem kit_own {K : PySem.W.Frag} {C : Addr} {t : Value} (h : PySem.W.hasDictIn K C = true) (ht : PySem.W.typeIn K (.ref C) = some (.type "type")) (hs : PySem.W.subIn K t (.ref C) = some true) : PySem.W.kitOne K t (.ref C) = some true := by
  unfold PySem.W.kitOne
  split
  · rfl
  · show (if ((PySem.W.clsIn K C).isSome && PySem.W.typeIn K (.ref C) == some (.type "type")) = true then PySem.W.subIn K t (.ref C) else none) = some true
    rw [cls_some h, ht]
    simpa using hs
theorem kit_tyo {K : PySem.W.Frag} {C : Addr} {T : String} {b : Bool} (h : PySem.W.hasDictIn K C = true) (ht : PySem.W.typeIn K (.ref C) = some (.type "type")) (hs : PySem.W.subIn K (.type T) (.ref C) = some b) : PySem.W.kitOne K (.type T) (.ref C) = some b := by
  unfold PySem.W.kitOne
  rw [if_neg (by simp)]
  show (if ((PySem.W.clsIn K C).isSome && PySem.W.typeIn K (.ref C) == some (.type "type")) = true then PySem.W.subIn K (.type T) (.ref C) else none) = some b
  rw [cls_some h, ht]
  simpa using hs
theorem kit_ty2 {K : PySem.W.Frag} {C : Addr} {T : String} {b : Bool} (hm : PySem.W.kitMeta T = true) (hs : PySem.W.subIn K (.ref C) (.type T) = some b) : PySem.W.kitOne K (.ref C) (.type T) = some b := by
  unfold PySem.W.kitOne
  rw [if_neg (by simp)]
  show (if PySem.W.kitMeta T = true then PySem.W.subIn K (.ref C) (.type T) else none) = some b
  rw [if_pos hm]
  exact hs
theorem all_mk {P : Program} {w : World} {K : PySem.W.Frag} {h : Heap} {mg : Str → Option Value} {fa : Addr} (X : K.In h) (G : h.Ns mainGlobals mg) (hfa : mg "law" = some (.ref fa))
    {CS CN fNI NaN fII CR fRI dRI fstate fdraw fgcd fisint fgreat frd ftext pread fread fplain fdue fsame fstrange fla : Addr} {odNI anNI ddN odII anII odRI anRI oe1RI odstate anstate oddraw andraw odgcd angcd odisint anisint odgreat angreat odrd anrd odtext antext odread anread odplain anplain oddue andue odsame ansame odstrange anstrange odla anla : Option Addr} {slNI slII slRI skRI slstate sldraw slgcd slisint slgreat slrd sltext slread slplain sldue slsame slstrange slla : Array (Option Value)} {ocNI kVNI dcNI pmNI cdNI ctNI ocII kVII dcII pmII cdII ctII ocRI kVRI dcRI pmRI cdRI ctRI oeRI ocstate kVstate dcstate pmstate cdstate ctstate ocdraw kVdraw dcdraw pmdraw cddraw ctdraw ocgcd kVgcd dcgcd pmgcd cdgcd ctgcd ocisint kVisint dcisint pmisint cdisint ctisint ocgreat kVgreat dcgreat pmgreat cdgreat ctgreat ocrd kVrd dcrd pmrd cdrd ctrd octext kVtext dctext pmtext cdtext cttext ocread kVread dcread pmread cdread ctread ocplain kVplain dcplain pmplain cdplain ctplain ocdue kVdue dcdue pmdue cddue ctdue ocsame kVsame dcsame pmsame cdsame ctsame ocstrange kVstrange dcstrange pmstrange cdstrange ctstrange ocla kVla dcla pmla cdla ctla : Value} {nRI : Nat} {tkRI tkGD : Tok} {nmN qN : Str} {bsN subN rsread : List Value} {snN : List Str} {abN : Bool} {colN : Option Bool} {m0N m1N m2N m3N m5N : Option Value}
    (aS : PySem.W.nsIn K mainGlobals "SeriesError" = some (some (.ref CS)))
    (x3S : PySem.W.typeIn K (.ref CS) = some (.type "type"))
    (y8S : PySem.W.hasDictIn K CS = true)
    (aN : PySem.W.nsIn K mainGlobals "NoRatio" = some (some (.ref CN)))
    (x3N : PySem.W.typeIn K (.ref CN) = some (.type "type"))
    (y8N : PySem.W.hasDictIn K CN = true)
    (aNI : PySem.W.findIn K (.ref CN) "__init__" = some (some (.ref fNI)))
    (lNI : K.lookup fNI = some ⟨ocNI, odNI, .func (PySem.W.fnOf "__init__" "NoRatio.__init__" (defArgs s_noRatioInit) (defBody s_noRatioInit) (defScope s_noRatioInit) .none kVNI dcNI pmNI anNI cdNI ctNI), slNI⟩)
    (cNI : PySem.W.codeIn K cdNI "NoRatio.__init__" = true)
    (kNI : PySem.W.keepIn K (.ref fNI) = true)
    (iNI : PySem.W.isFn K (.ref fNI) = true)
    (y5 : PySem.W.specialIn K (.builtin "object.__class__") "__get__" = some (some (.builtin "getset_descriptor.__get__")))
    (y6 : PySem.W.takesIn K (.builtin "object.__class__") = some true)
    (xLN : K.lookup CN = some (excClassObj nmN qN CN NaN bsN [.ref CS, .type "ValueError", .type "Exception", .type "BaseException", .type "object"] true snN subN abN colN ddN m0N m1N m2N m3N m5N "ValueError.__new__"))
    (x1N : PySem.W.findIn K (.ref CN) "__setattr__" = some (some (.builtin "object.__setattr__")))
    (x2N : PySem.W.subIn K (.ref CN) (.type "BaseException") = some true)
    (x4N : PySem.W.keepIn K (.ref CN) = true)
    (x5N : PySem.W.findIn K (.ref CN) "word" = some none)
    (x6N : PySem.W.typeIn K (.ref fNI) = some (.type "function"))
    (x7N : PySem.W.subIn K (.ref CN) (.ref CN) = some true)
    (x8N : PySem.W.subIn K (.ref CN) (.ref CS) = some true)
    (x9N : PySem.W.subIn K (.ref CN) (.type "ValueError") = some true)
    (y2N : PySem.W.findIn K (.ref CN) "__getattribute__" = some (some (.builtin "BaseException.__getattribute__")))
    (y3N : PySem.W.findIn K (.ref CN) "__getattr__" = some none)
    (y4N : PySem.W.findIn K (.ref CN) "__class__" = some (some (.builtin "object.__class__")))
    (y7N : PySem.W.mroIn K CN (.type "object") = some true)
    (aII : PySem.W.nsIn K mainGlobals "is_an_integer" = some (some (.ref fII)))
    (lII : K.lookup fII = some ⟨ocII, odII, .func (PySem.W.fnOf "is_an_integer" "is_an_integer" (defArgs s_isint) (defBody s_isint) (defScope s_isint) .none kVII dcII pmII anII cdII ctII), slII⟩)
    (cII : PySem.W.codeIn K cdII "is_an_integer" = true)
    (kII : PySem.W.keepIn K (.ref fII) = true)
    (aR : PySem.W.nsIn K mainGlobals "Ratio" = some (some (.ref CR)))
    (pgR : PySem.W.plainGet K CR Str.empty = true)
    (hdR : PySem.W.hasDictIn K CR = true)
    (poR : PySem.W.plainOver K CR = true)
    (saR : PySem.W.findIn K (.ref CR) "__setattr__" = some (some (.builtin "object.__setattr__")))
    (mkR : PySem.W.makesIn K CR = true)
    (kcR : PySem.W.keepIn K (.ref CR) = true)
    (nR_top : PySem.W.findIn K (.ref CR) "top" = some none)
    (nR_bottom : PySem.W.findIn K (.ref CR) "bottom" = some none)
    (q1R : PySem.W.findIn K (.ref CR) "__class__" = some (some (.builtin "object.__class__")))
    (q2R : PySem.W.mroIn K CR (.type "object") = some true)
    (q3R : PySem.W.typeIn K (.ref CR) = some (.type "type"))
    (aRI : PySem.W.findIn K (.ref CR) "__init__" = some (some (.ref fRI)))
    (lRI : K.lookup fRI = some ⟨ocRI, odRI, .func (PySem.W.fnOf "__init__" "Ratio.__init__" (defArgs s_ratioInit) (defBody s_ratioInit) (defScope s_ratioInit) (.ref dRI) kVRI dcRI pmRI anRI cdRI ctRI), slRI⟩)
    (cRI : PySem.W.codeIn K cdRI "Ratio.__init__" = true)
    (kRI : PySem.W.keepIn K (.ref fRI) = true)
    (iRI : PySem.W.isFn K (.ref fRI) = true)
    (eRI : K.lookup dRI = some ⟨oeRI, oe1RI, .seq #[Value.int 1 tkRI] nRI, skRI⟩)
    (w3 : PySem.W.subIn K (.ref CR) (.type "int") = some false)
    (w4 : PySem.W.subIn K (.ref CR) (.type "bool") = some false)
    (g_gcd : PySem.W.nsIn K mainGlobals "gcd" = some (some (.builtin "math.gcd")))
    (z_len : PySem.W.nsIn K mainGlobals "len" = some none)
    (z_abs : PySem.W.nsIn K mainGlobals "abs" = some none)
    (z_int : PySem.W.nsIn K mainGlobals "int" = some none)
    (z_range : PySem.W.nsIn K mainGlobals "range" = some none)
    (z_isinstance : PySem.W.nsIn K mainGlobals "isinstance" = some none)
    (z_bool : PySem.W.nsIn K mainGlobals "bool" = some none)
    (z_str : PySem.W.nsIn K mainGlobals "str" = some none)
    (z_all : PySem.W.nsIn K mainGlobals "all" = some none)
    (astate : PySem.W.nsIn K mainGlobals "_law_state" = some (some (.ref fstate)))
    (lstate : K.lookup fstate = some ⟨ocstate, odstate, .func (PySem.W.fnOf "_law_state" "_law_state" (defArgs s_state) (defBody s_state) (defScope s_state) .none kVstate dcstate pmstate anstate cdstate ctstate), slstate⟩)
    (cstate : PySem.W.codeIn K cdstate "_law_state" = true)
    (kstate : PySem.W.keepIn K (.ref fstate) = true)
    (adraw : PySem.W.nsIn K mainGlobals "_law_draw" = some (some (.ref fdraw)))
    (ldraw : K.lookup fdraw = some ⟨ocdraw, oddraw, .func (PySem.W.fnOf "_law_draw" "_law_draw" (defArgs s_draw) (defBody s_draw) (defScope s_draw) .none kVdraw dcdraw pmdraw andraw cddraw ctdraw), sldraw⟩)
    (cdraw : PySem.W.codeIn K cddraw "_law_draw" = true)
    (kdraw : PySem.W.keepIn K (.ref fdraw) = true)
    (agcd : PySem.W.nsIn K mainGlobals "_law_gcd" = some (some (.ref fgcd)))
    (lgcd : K.lookup fgcd = some ⟨ocgcd, odgcd, .func (PySem.W.fnOf "_law_gcd" "_law_gcd" (defArgs s_gcd) (defBody s_gcd) (defScope s_gcd) .none kVgcd dcgcd pmgcd angcd cdgcd ctgcd), slgcd⟩)
    (cgcd : PySem.W.codeIn K cdgcd "_law_gcd" = true)
    (kgcd : PySem.W.keepIn K (.ref fgcd) = true)
    (aisint : PySem.W.nsIn K mainGlobals "_law_is_integer" = some (some (.ref fisint)))
    (lisint : K.lookup fisint = some ⟨ocisint, odisint, .func (PySem.W.fnOf "_law_is_integer" "_law_is_integer" (defArgs s_lisint) (defBody s_lisint) (defScope s_lisint) .none kVisint dcisint pmisint anisint cdisint ctisint), slisint⟩)
    (cisint : PySem.W.codeIn K cdisint "_law_is_integer" = true)
    (kisint : PySem.W.keepIn K (.ref fisint) = true)
    (agreat : PySem.W.nsIn K mainGlobals "_law_great" = some (some (.ref fgreat)))
    (lgreat : K.lookup fgreat = some ⟨ocgreat, odgreat, .func (PySem.W.fnOf "_law_great" "_law_great" (defArgs s_great) (defBody s_great) (defScope s_great) .none kVgreat dcgreat pmgreat angreat cdgreat ctgreat), slgreat⟩)
    (cgreat : PySem.W.codeIn K cdgreat "_law_great" = true)
    (kgreat : PySem.W.keepIn K (.ref fgreat) = true)
    (ard : PySem.W.nsIn K mainGlobals "are_digits" = some (some (.ref frd)))
    (lrd : K.lookup frd = some ⟨ocrd, odrd, .func (PySem.W.fnOf "are_digits" "are_digits" (defArgs s_rd) (defBody s_rd) (defScope s_rd) .none kVrd dcrd pmrd anrd cdrd ctrd), slrd⟩)
    (crd : PySem.W.codeIn K cdrd "are_digits" = true)
    (krd : PySem.W.keepIn K (.ref frd) = true)
    (atext : PySem.W.findIn K (.ref CR) "text" = some (some (.ref ftext)))
    (ltext : K.lookup ftext = some ⟨octext, odtext, .func (PySem.W.fnOf "text" "Ratio.text" (defArgs s_text) (defBody s_text) (defScope s_text) .none kVtext dctext pmtext antext cdtext cttext), sltext⟩)
    (ctext : PySem.W.codeIn K cdtext "Ratio.text" = true)
    (ktext : PySem.W.keepIn K (.ref ftext) = true)
    (itext : PySem.W.isFn K (.ref ftext) = true)
    (smread : PySem.W.findCls K (.ref CR) (.type "type") "read" = some (.get (.builtin "staticmethod.__get__") (.ref pread) .none (.ref CR)))
    (rcread : PySem.W.recIn K pread "staticmethod" = some (.ref fread :: rsread))
    (rdread : PySem.W.readsIn K CR (.type "type") = true)
    (garead : PySem.W.specialIn K (.ref CR) "__getattribute__" = some (some (.builtin "type.__getattribute__")))
    (lread : K.lookup fread = some ⟨ocread, odread, .func (PySem.W.fnOf "read" "Ratio.read" (defArgs s_read) (defBody s_read) (defScope s_read) .none kVread dcread pmread anread cdread ctread), slread⟩)
    (cread : PySem.W.codeIn K cdread "Ratio.read" = true)
    (kread : PySem.W.keepIn K (.ref fread) = true)
    (aplain : PySem.W.nsIn K mainGlobals "_law_plain" = some (some (.ref fplain)))
    (lplain : K.lookup fplain = some ⟨ocplain, odplain, .func (PySem.W.fnOf "_law_plain" "_law_plain" (defArgs s_plain) (defBody s_plain) (defScope s_plain) .none kVplain dcplain pmplain anplain cdplain ctplain), slplain⟩)
    (cplain : PySem.W.codeIn K cdplain "_law_plain" = true)
    (kplain : PySem.W.keepIn K (.ref fplain) = true)
    (adue : PySem.W.nsIn K mainGlobals "_law_due" = some (some (.ref fdue)))
    (ldue : K.lookup fdue = some ⟨ocdue, oddue, .func (PySem.W.fnOf "_law_due" "_law_due" (defArgs s_due) (defBody s_due) (defScope s_due) .none kVdue dcdue pmdue andue cddue ctdue), sldue⟩)
    (cdue : PySem.W.codeIn K cddue "_law_due" = true)
    (kdue : PySem.W.keepIn K (.ref fdue) = true)
    (asame : PySem.W.nsIn K mainGlobals "_law_same" = some (some (.ref fsame)))
    (lsame : K.lookup fsame = some ⟨ocsame, odsame, .func (PySem.W.fnOf "_law_same" "_law_same" (defArgs s_same) (defBody s_same) (defScope s_same) .none kVsame dcsame pmsame ansame cdsame ctsame), slsame⟩)
    (csame : PySem.W.codeIn K cdsame "_law_same" = true)
    (ksame : PySem.W.keepIn K (.ref fsame) = true)
    (astrange : PySem.W.nsIn K mainGlobals "_law_strange" = some (some (.ref fstrange)))
    (lstrange : K.lookup fstrange = some ⟨ocstrange, odstrange, .func (PySem.W.fnOf "_law_strange" "_law_strange" (defArgs s_strange) (defBody s_strange) (defScope s_strange) .none kVstrange dcstrange pmstrange anstrange cdstrange ctstrange), slstrange⟩)
    (cstrange : PySem.W.codeIn K cdstrange "_law_strange" = true)
    (kstrange : PySem.W.keepIn K (.ref fstrange) = true)
    (ala : PySem.W.nsIn K mainGlobals "law" = some (some (.ref fla)))
    (lla : K.lookup fla = some ⟨ocla, odla, .func (PySem.W.fnOf "law" "law" (defArgs s_law) (defBody s_law) (defScope s_law) .none kVla dcla pmla anla cdla ctla), slla⟩)
    (cla : PySem.W.codeIn K cdla "law" = true)
    (kla : PySem.W.keepIn K (.ref fla) = true)
    (w_NoneType : PySem.W.subIn K (.type "NoneType") (.ref CR) = some false)
    (g_GD : PySem.W.nsIn K mainGlobals "MOST_DIGITS_READ" = some (some (.int 60 tkGD))) :
    ∃ fd : FuncData, (∀ (s : Shared) (v : Value), BindsTo s fd ⟨[v], []⟩ [("_law_script", v)]) ∧ ∀ base : Heap, K.In base → base.Ns mainGlobals mg → FnOk P w K mg base CX0 7 fa fd ["_law_script"] (spLaw K) := by
  have e := hfa.symm.trans (PySem.W.mg_of X G ala)
  cases e
  have m_S : mg "SeriesError" = some (.ref CS) := PySem.W.mg_of X G aS
  have m_N : mg "NoRatio" = some (.ref CN) := PySem.W.mg_of X G aN
  have F_NI := fun_mk (st := s_noRatioInit) lNI cNI kNI
  have b_NI := F_NI.binds (ps := ["self", "word"]) fun _ _ _ _ _ _ us hl => match us, hl with | [_, _], _ => rfl
  have NN : NTx K mg CN fNI := ⟨⟨⟨nmN, qN, NaN, bsN, _, snN, subN, abN, colN, ddN, m0N, m1N, m2N, m3N, m5N, xLN, rfl⟩, x1N, x2N, x3N, x4N⟩, x5N, aNI, x6N⟩
  have teN := PySem.W.exm_ref x2N y8N x3N x7N
  have xfN : XfC K CN := ⟨y2N, y3N, x2N, y8N⟩
  have eiN : EIx K CN := ⟨cls_some y8N, y2N, y3N, x2N, y4N, y5, y6, y7N⟩
  have F_II := fun_mk (st := s_isint) lII cII kII
  have b_II := F_II.binds (ps := ["value"]) fun _ _ _ _ _ _ us hl => match us, hl with | [_], _ => rfl
  have m_II : mg "is_an_integer" = some (.ref fII) := PySem.W.mg_of X G aII
  have m_R : mg "Ratio" = some (.ref CR) := PySem.W.mg_of X G aR
  have F_RI : FunD K "__init__" "Ratio.__init__" (defArgs s_ratioInit) (defBody s_ratioInit) (defScope s_ratioInit) [.int 1] [] fRI _ := ⟨⟨_, _, _, _, _, _, _, _, _, _, rfl, lRI, cRI, .inr ⟨by simp, dRI, _, [Value.int 1 tkRI], nRI, rfl, eRI, rfl, .cons ⟨_, rfl⟩ .nil⟩, .inl rfl⟩, kRI⟩
  have T : CTx K CR := ⟨⟨pgR, hdR, poR, saR⟩, nR_top, nR_bottom⟩
  have Y : ITy K CR := ⟨q1R, y5, y6, q2R, kit_ty2 (by decide +kernel) w3, kit_ty2 (by decide +kernel) w4⟩
  have GT : GTx mg CN := ⟨PySem.W.mg_of X G g_gcd, m_N⟩
  obtain ⟨ds0, v0, b_R⟩ := F_RI.binds1 (ps := ["self", "top", "bottom"]) 3 1 (by simp) rfl fun _ _ _ _ _ _ _ us its hl hi => match us, its, hl, hi with | [_, _, _], [_], _, _ => ⟨_, rfl, rfl⟩
  cases v0
  obtain ⟨ds1, v1, b_R1⟩ := F_RI.binds1 (ps := ["self", "top", "bottom"]) 2 0 (by simp) rfl fun _ _ _ _ _ _ _ us its hl hi => match us, its, hl, hi with | [_, _], [_], _, _ => ⟨_, rfl, rfl⟩
  have M : Mk K CR fRI := ⟨mkR, aRI, iRI, kcR⟩
  have z_len := PySem.W.mg_none_of X G z_len
  have z_abs := PySem.W.mg_none_of X G z_abs
  have z_int := PySem.W.mg_none_of X G z_int
  have z_range := PySem.W.mg_none_of X G z_range
  have z_isinstance := PySem.W.mg_none_of X G z_isinstance
  have z_bool := PySem.W.mg_none_of X G z_bool
  have z_str := PySem.W.mg_none_of X G z_str
  have z_all := PySem.W.mg_none_of X G z_all
  have D : DTx mg := ⟨z_len, z_abs, z_int, z_range⟩
  have I : ITx mg := ⟨z_isinstance, z_int, z_bool⟩
  have F_state := fun_mk (st := s_state) lstate cstate kstate
  have b_state := F_state.binds (ps := ["_law_script"]) fun _ _ _ _ _ _ us hl => match us, hl with | [_], _ => rfl
  have m_state : mg "_law_state" = some (.ref fstate) := PySem.W.mg_of X G astate
  have F_draw := fun_mk (st := s_draw) ldraw cdraw kdraw
  have b_draw := F_draw.binds (ps := ["_law_state_here", "_law_many"]) fun _ _ _ _ _ _ us hl => match us, hl with | [_, _], _ => rfl
  have m_draw : mg "_law_draw" = some (.ref fdraw) := PySem.W.mg_of X G adraw
  have F_gcd := fun_mk (st := s_gcd) lgcd cgcd kgcd
  have b_gcd := F_gcd.binds (ps := ["_law_one", "_law_other"]) fun _ _ _ _ _ _ us hl => match us, hl with | [_, _], _ => rfl
  have m_gcd : mg "_law_gcd" = some (.ref fgcd) := PySem.W.mg_of X G agcd
  have F_isint := fun_mk (st := s_lisint) lisint cisint kisint
  have b_isint := F_isint.binds (ps := ["_law_told"]) fun _ _ _ _ _ _ us hl => match us, hl with | [_], _ => rfl
  have m_isint : mg "_law_is_integer" = some (.ref fisint) := PySem.W.mg_of X G aisint
  have F_great := fun_mk (st := s_great) lgreat cgreat kgreat
  have b_great := F_great.binds (ps := ["_law_state_here"]) fun _ _ _ _ _ _ us hl => match us, hl with | [_], _ => rfl
  have m_great : mg "_law_great" = some (.ref fgreat) := PySem.W.mg_of X G agreat
  have F_rd := fun_mk (st := s_rd) lrd crd krd
  have b_rd := F_rd.binds (ps := ["text", "most"]) fun _ _ _ _ _ _ us hl => match us, hl with | [_, _], _ => rfl
  have m_rd : mg "are_digits" = some (.ref frd) := PySem.W.mg_of X G ard
  have F_text := fun_mk (st := s_text) ltext ctext ktext
  have b_text := F_text.binds (ps := ["self"]) fun _ _ _ _ _ _ us hl => match us, hl with | [_], _ => rfl
  have F_read := fun_mk (st := s_read) lread cread kread
  have b_read := F_read.binds (ps := ["text"]) fun _ _ _ _ _ _ us hl => match us, hl with | [_], _ => rfl
  have F_plain := fun_mk (st := s_plain) lplain cplain kplain
  have b_plain := F_plain.binds (ps := ["_law_word"]) fun _ _ _ _ _ _ us hl => match us, hl with | [_], _ => rfl
  have m_plain : mg "_law_plain" = some (.ref fplain) := PySem.W.mg_of X G aplain
  have F_due := fun_mk (st := s_due) ldue cdue kdue
  have b_due := F_due.binds (ps := ["_law_text"]) fun _ _ _ _ _ _ us hl => match us, hl with | [_], _ => rfl
  have m_due : mg "_law_due" = some (.ref fdue) := PySem.W.mg_of X G adue
  have F_same := fun_mk (st := s_same) lsame csame ksame
  have b_same := F_same.binds (ps := ["_law_text"]) fun _ _ _ _ _ _ us hl => match us, hl with | [_], _ => rfl
  have m_same : mg "_law_same" = some (.ref fsame) := PySem.W.mg_of X G asame
  have F_strange := fun_mk (st := s_strange) lstrange cstrange kstrange
  have b_strange := F_strange.binds (ps := ["_law_thing"]) fun _ _ _ _ _ _ us hl => match us, hl with | [_], _ => rfl
  have m_strange : mg "_law_strange" = some (.ref fstrange) := PySem.W.mg_of X G astrange
  have F_la := fun_mk (st := s_law) lla cla kla
  have b_la := F_la.binds (ps := ["_law_script"]) fun _ _ _ _ _ _ us hl => match us, hl with | [_], _ => rfl
  have GD : mg "MOST_DIGITS_READ" = some (.int 60 tkGD) := PySem.W.mg_of X G g_GD
  have B : STx mg := ⟨z_str, z_all, z_len, z_int⟩
  have Me_text : Meth K CR "text" ftext := ⟨atext, itext, ktext⟩
  have SM : SMet K CR (.type "type") "read" pread fread := ⟨rdread, garead, smread, ⟨rsread, rcread⟩, kread⟩
  have kn : PySem.W.kitOne K (.type "NoneType") (.ref CR) = some false := kit_tyo hdR q3R w_NoneType
  refine ⟨PySem.W.fnOf "law" "law" (defArgs s_law) (defBody s_law) (defScope s_law) .none kVla dcla pmla anla cdla ctla, fun s v => .of_eq rfl, fun base _ _ => ?_⟩
  have G_NI := ok_noRatioInit (P := P) (w := w) (mg := mg) (base := base) F_NI NN
  have G_II := ok_isint (P := P) (w := w) (base := base) F_II I
  have G_R := ok_ratioInit (P := P) (w := w) (base := base) F_RI T NN GT G_NI b_NI G_II m_II kII b_II
  have G_draw := ok_draw (P := P) (w := w) (base := base) F_draw D
  have G_state := ok_state (P := P) (w := w) (base := base) F_state D
  have G_gcd := ok_gcd (P := P) (w := w) (base := base) F_gcd D
  have G_isint := ok_lisint (P := P) (w := w) (base := base) F_isint I
  have G_great := ok_great (P := P) (w := w) (base := base) F_great D G_draw m_draw kdraw b_draw
  have G_rd := ok_rd (P := P) (w := w) (base := base) F_rd B
  have G_text := ok_text (mg := mg) (P := P) (w := w) (base := base) F_text T B
  have G_read := ok_read (P := P) (w := w) (base := base) GD F_read T I B NN GT m_R M G_NI b_NI G_R b_R G_rd m_rd krd b_rd Me_text G_text b_text
  have G_plain := ok_plain (P := P) (w := w) (base := base) F_plain B
  have G_due := ok_due (P := P) (w := w) (base := base) F_due B G_plain m_plain kplain b_plain G_gcd m_gcd kgcd b_gcd
  have G_same := ok_same (P := P) (w := w) (base := base) F_same T Y I NN GT m_R teN xfN kn SM G_read b_read G_due m_due kdue b_due G_isint m_isint kisint b_isint
  have G_strange := ok_strange (P := P) (w := w) (base := base) F_strange NN GT m_R teN xfN SM G_read b_read
  exact ok_law F_la T D B m_R M G_R b_R Me_text G_text b_text G_state m_state kstate b_state G_draw m_draw kdraw b_draw G_great m_great kgreat b_great G_gcd m_gcd kgcd b_gcd G_same m_same ksame b_same G_strange m_strange kstrange b_strange
theorem walk {l : PySem.W.OpenLaw} {q : Program} {loose : List Str} {XP : (Str → Option Value) → Heap → Prop} {YP : World → Heap → Prop} {d : DefRec} {K : Params → PySem.W.Frag} (hn : l.most = some 63) (hdf : d.params.defaults = [])
    (hY : ∀ (w : World) (h : Heap), YP w h → (K w.params).In h)
    (F : ∀ (w : World) (mg : Str → Option Value) (fa : Addr) (h : Heap), (K w.params).In h → h.Ns mainGlobals mg → mg d.name = some (.ref fa) →
      ∃ fd : FuncData, (∀ (s : Shared) (u : Value), BindsTo s fd ⟨[u], []⟩ [("_law_script", u)]) ∧ ∀ base : Heap, (K w.params).In base → base.Ns mainGlobals mg → FnOk l.prog w (K w.params) mg base CX0 7 fa fd ["_law_script"] (spLaw (K w.params))) :
    PySem.W.WalkO q loose XP YP l.row.toRowW d [] (fun f vs => PySem.call f vs) :=
  L2.walk_of (n := 63) (k := 7) (x := "_law_script") (CX := fun _ => CX0) (sp := fun w => spLaw (K w.params)) hn (by decide) hdf ⟨rfl, by decide, by decide⟩ hY F (fun _ _ a ns hl _ hS => ⟨a, ns, rfl, hS, hl, fun _ => rfl⟩) fun _ _ _ _ _ z => z
end Sq

open PySem PySem.W PyProof.Rows
set_option maxRecDepth 100000 in
set_option maxHeartbeats 0 in
theorem PySem.Challenge.cw_seriessquares_k03_ratio_texts_holds : PySem.Challenge.rw_seriessquares_k03_ratio_texts.Holds := by
  w_on; o_law; k_head; (case hw => w_witness2)
  k_fill
  refine Sq.walk (l := PySem.Challenge.rw_seriessquares_k03_ratio_texts) rfl rfl (fun w h Y => PySem.W.kIn_of Y) ?F
  case F =>
    intro w mg fa h KX G hmg
    refine' Sq.all_mk KX G hmg ?aS ?x3S ?y8S ?aN ?x3N ?y8N ?aNI ?lNI ?cNI ?kNI ?iNI ?y5 ?y6 ?xLN ?x1N ?x2N ?x4N ?x5N ?x6N ?x7N ?x8N ?x9N ?y2N ?y3N ?y4N ?y7N ?aII ?lII ?cII ?kII ?aR ?pgR ?hdR ?poR ?saR ?mkR ?kcR ?nR_top ?nR_bottom ?q1R ?q2R ?q3R ?aRI ?lRI ?cRI ?kRI ?iRI ?eRI ?w3 ?w4 ?g_gcd ?z_len ?z_abs ?z_int ?z_range ?z_isinstance ?z_bool ?z_str ?z_all ?astate ?lstate ?cstate ?kstate ?adraw ?ldraw ?cdraw ?kdraw ?agcd ?lgcd ?cgcd ?kgcd ?aisint ?lisint ?cisint ?kisint ?agreat ?lgreat ?cgreat ?kgreat ?ard ?lrd ?crd ?krd ?atext ?ltext ?ctext ?ktext ?itext ?smread ?rcread ?rdread ?garead ?lread ?cread ?kread ?aplain ?lplain ?cplain ?kplain ?adue ?ldue ?cdue ?kdue ?asame ?lsame ?csame ?ksame ?astrange ?lstrange ?cstrange ?kstrange ?ala ?lla ?cla ?kla ?w_NoneType ?g_GD
    (case aS => k_is)
    (case x3S => k_is)
    (case y8S => k_is)
    (case aN => k_is)
    (case x3N => k_is)
    (case y8N => k_is)
    (case aNI => k_is)
    (case lNI => k_is)
    (case cNI => k_is)
    (case kNI => k_is)
    (case iNI => k_is)
    (case y5 => k_is)
    (case y6 => k_is)
    (case xLN => k_is)
    (case x1N => k_is)
    (case x2N => k_is)
    (case x4N => k_is)
    (case x5N => k_is)
    (case x6N => k_is)
    (case x7N => k_is)
    (case x8N => k_is)
    (case x9N => k_is)
    (case y2N => k_is)
    (case y3N => k_is)
    (case y4N => k_is)
    (case y7N => k_is)
    (case aII => k_is)
    (case lII => k_is)
    (case cII => k_is)
    (case kII => k_is)
    (case aR => k_is)
    (case pgR => k_is)
    (case hdR => k_is)
    (case poR => k_is)
    (case saR => k_is)
    (case mkR => k_is)
    (case kcR => k_is)
    (case nR_top => k_is)
    (case nR_bottom => k_is)
    (case q1R => k_is)
    (case q2R => k_is)
    (case q3R => k_is)
    (case aRI => k_is)
    (case lRI => k_is)
    (case cRI => k_is)
    (case kRI => k_is)
    (case iRI => k_is)
    (case eRI => k_is)
    (case w3 => k_is)
    (case w4 => k_is)
    (case g_gcd => k_is)
    (case z_len => k_is)
    (case z_abs => k_is)
    (case z_int => k_is)
    (case z_range => k_is)
    (case z_isinstance => k_is)
    (case z_bool => k_is)
    (case z_str => k_is)
    (case z_all => k_is)
    (case astate => k_is)
    (case lstate => k_is)
    (case cstate => k_is)
    (case kstate => k_is)
    (case adraw => k_is)
    (case ldraw => k_is)
    (case cdraw => k_is)
    (case kdraw => k_is)
    (case agcd => k_is)
    (case lgcd => k_is)
    (case cgcd => k_is)
    (case kgcd => k_is)
    (case aisint => k_is)
    (case lisint => k_is)
    (case cisint => k_is)
    (case kisint => k_is)
    (case agreat => k_is)
    (case lgreat => k_is)
    (case cgreat => k_is)
    (case kgreat => k_is)
    (case ard => k_is)
    (case lrd => k_is)
    (case crd => k_is)
    (case krd => k_is)
    (case atext => k_is)
    (case ltext => k_is)
    (case ctext => k_is)
    (case ktext => k_is)
    (case itext => k_is)
    (case smread => k_is)
    (case rcread => k_is)
    (case rdread => k_is)
    (case garead => k_is)
    (case lread => k_is)
    (case cread => k_is)
    (case kread => k_is)
    (case aplain => k_is)
    (case lplain => k_is)
    (case cplain => k_is)
    (case kplain => k_is)
    (case adue => k_is)
    (case ldue => k_is)
    (case cdue => k_is)
    (case kdue => k_is)
    (case asame => k_is)
    (case lsame => k_is)
    (case csame => k_is)
    (case ksame => k_is)
    (case astrange => k_is)
    (case lstrange => k_is)
    (case cstrange => k_is)
    (case kstrange => k_is)
    (case ala => k_is)
    (case lla => k_is)
    (case cla => k_is)
    (case kla => k_is)
    (case w_NoneType => k_is)
    (case g_GD => k_is)

