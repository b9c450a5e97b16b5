import PyProof.Rows.All
import Wide.All
import OpenK.AllK
import Wide.FinOn
import HandS.ForMost
import HandS.ForExc
import HandS.Codes
import HandS.Wide
import HandS.Gcd
import HandS.Flow
import HandS.IsInst
import HandS.ExcInit
import HandS.ExcField
import HandS.ExcIs
import HandS.Defaults
import HandS.MakeKw
import HandS.MakeKwOnly
import HandS.TryOnly
import HandS.EndBits
import KE.KExcIs
import KE.KOpsOwn
import KE.KExcMore
import HandS.ExcValue
import PySem.Challenge.RW_seriessquares_k15_errors
set_option Elab.async false
set_option linter.all false
set_option maxRecDepth 100000
set_option maxHeartbeats 4000000
namespace Sq
open PySem L2
def top (i : Nat) : Stmt := PySem.Challenge.pw_seriessquares_k15_errors.main.body.getD i (.Pass ⟨0, 0, 0, 0⟩)
abbrev s_state : Stmt := top 24
abbrev s_draw : Stmt := top 25
/-- the heap stands but at p -/
def But (p : Addr) (H H' : Hp) : Prop := ∀ b o, H b = some o → b ≠ p → H' b = some o
theorem But.refl (p : Addr) (H : Hp) : But p H H := fun _ _ h _ => h
theorem But.trans {p : Addr} {H H1 H2 : Hp} (a : But p H H1) (b : But p H1 H2) : But p H H2 := fun c o h n => b c o (a c o h n) n
theorem But.upd {p : Addr} {H H1 : Hp} {o : HO} (a : But p H H1) : But p H (upd H1 p o) := fun c u h n => (upd_ne n).trans (a c u h n)
theorem But.new {p q : Addr} {H H1 : Hp} {o : HO} (a : But p H H1) (n : H1 q = none) : But p H (L2.upd H1 q o) := fun c u h nc => (upd_ne (ne_of_none (a c u h nc) n)).trans (a c u h nc)
theorem Same.but {p : Addr} {H H1 : Hp} (a : Same H H1) : But p H H1 := fun c u h _ => a c u h
/-- the five things of the state, and the script's ints -/
def St5 (H : Hp) (p a : Addr) (ns : List Int) (i l m c : Int) : Prop := H p = some (.lst [.ref a, .int i, .int l, .int m, .int c]) ∧ H a = some (.lst (ns.map V.int)) ∧ a ≠ p ∧ 0 ≤ i ∧ 0 ≤ m ∧ m < 2147483648
def StAt (H : Hp) (p : Addr) : Prop := ∃ a ns i l m c, St5 H p a ns i l m c
def spDraw : Sp := fun vs H Q _ => ∃ (p : Addr) (n : Int), vs = [.ref p, .int n] ∧ 0 < n ∧ n < 1073741824 ∧ StAt H p ∧ ∀ v H', 0 ≤ v → v < n → StAt H' p → But p H H' → Q (.int v) H'
theorem St5.set {H : Hp} {p a : Addr} {ns : List Int} {i l m c : Int} (S : St5 H p a ns i l m c) {i' l' m' c' : Int} (h0 : 0 ≤ i') (h1 : 0 ≤ m') (h2 : m' < 2147483648) :
    St5 (upd H p (.lst [.ref a, .int i', .int l', .int m', .int c'])) p a ns i' l' m' c' := ⟨upd_same, (upd_ne S.2.2.1).trans S.2.1, S.2.2.1, h0, h1, h2⟩
structure DTx (mg : Str → Option Value) : Prop where
  b_len : mg "len" = none
  b_abs : mg "abs" = none
  b_int : mg "int" = none
  b_range : mg "range" = none
section
variable {P : Program} {w : World} {K : PySem.W.Frag} {mg : Str → Option Value} {base : Heap}
theorem sc_draw : FnScope ["_law_state_here", "_law_many", "_law_item", "_law_found", "_law_twice"] ["_law_state_here", "_law_many"] (defScope s_draw) := ⟨rfl, rfl, rfl, by decide +kernel, rfl, by decide +kernel, by decide +kernel⟩
theorem ok_draw {f : Addr} {fd : FuncData} (F : Fun K "_law_draw" "_law_draw" s_draw f fd) (T : DTx mg) : FnOk P w K mg base CX0 1 f fd ["_law_state_here", "_law_many"] spDraw := by
  refine F.ok sc_draw (fun vs H Q E h => ?_) (fun cdv A outer s H vs Q E hr h => ?_)
  · obtain ⟨p, n, rfl, _⟩ := h
    rfl
  · obtain ⟨p, n, rfl, hn0, hn1, ⟨a, ns, i, l, m, c, S⟩, k⟩ := h
    refine ⟨_, (C8.pss_cut (ps_asg (pe_op op_add (pe_ix ix_list (pv 0) pe_int (fun _ _ => rfl)) pe_int) (pg_sub (pv 0) pe_int set_list))
      (C8.pss_cut (ps_if (PW.pt (pw_and (pt_cmpR op_le (pe_ix ix_list (pv 0) pe_int (fun _ _ => rfl)) pe_int (nomark _)) (pw_and1 (pt_cmpR op_lt (pe_ix ix_list (pv 0) pe_int (fun _ _ => rfl)) (pe_callB call_len_seq (by rfl) T.b_len (by decide +kernel) (pa_cons (pe_ix ix_list (pv 0) pe_int (fun _ _ => rfl)) pa_nil)) (nomark _)))))
        (pss_cons (ps_set (i := 2) sc_draw.nd rfl (Or.inl rfl) (pe_ix ix_list (pe_ix ix_list (pv 0) pe_int (fun _ _ => rfl)) (pe_ix ix_list (pv 0) pe_int (fun _ _ => rfl)) (fun _ _ => rfl)))
      (pss_cons (ps_asg (pe_op op_add (pe_ix ix_list (pv 0) pe_int (fun _ _ => rfl)) pe_int) (pg_sub (pv 0) pe_int set_list))
      (pss_one (ps_if (pt_cmpR op_ge (pe_callB call_abs (by rfl) T.b_abs (by decide +kernel) (pa_cons (pv 2) pa_nil)) (pe_op op_pow pe_int pe_int) (nomark _))
        (pss_one (ps_asg (pe_callB call_abs (by rfl) T.b_abs (by decide +kernel) (pa_cons (pv 2) pa_nil)) (pg_sub (pv 0) pe_int set_list)))
        (pss_cons (ps_asg pe_int (pg_sub (pv 0) pe_int set_list))
      (pss_one (ps_asg (pe_op op_mod (pe_callTy call_int1 (by rfl) T.b_int (by decide +kernel) (pa_cons (pe_op op_add (pe_op op_add (pe_op op_mul (pe_ix ix_list (pv 0) pe_int (fun _ _ => rfl)) pe_int) (pv 2)) (pe_op op_mul pe_int (pe_ix ix_list (pv 0) pe_int (fun _ _ => rfl)))) pa_nil)) pe_int) (pg_sub (pv 0) pe_int set_list))))))))
        pss_nil)
      (pss_cons (ps_if (pt_cmpR op_gt (pe_ix ix_list (pv 0) pe_int (fun _ _ => rfl)) pe_int (nomark _))
        (pss_cons (ps_set (i := 3) sc_draw.nd rfl (Or.inl rfl) (pe_op op_mod (pe_callTy call_int1 (by rfl) T.b_int (by decide +kernel) (pa_cons (pe_ix ix_list (pv 0) pe_int (fun _ _ => rfl)) pa_nil)) (pv 1)))
      (pss_cons (ps_asg (pe_op op_fdiv (pe_ix ix_list (pv 0) pe_int (fun _ _ => rfl)) (pv 1)) (pg_sub (pv 0) pe_int set_list))
      (pss_one (ps_ret (pv 3)))))
        pss_nil)
      (pss_cons (ps_asg (pe_op op_mod (pe_callTy call_int1 (by rfl) T.b_int (by decide +kernel) (pa_cons (pe_op op_add (pe_op op_add (pe_op op_mul (pe_ix ix_list (pv 0) pe_int (fun _ _ => rfl)) pe_int) (pe_op op_mul pe_int (pe_ix ix_list (pv 0) pe_int (fun _ _ => rfl)))) pe_int) pa_nil)) pe_int) (pg_sub (pv 0) pe_int set_list))
      (pss_cons (ps_set (i := 4) sc_draw.nd rfl (Or.inl rfl) (pe_op op_mod (pe_callTy call_int1 (by rfl) T.b_int (by decide +kernel) (pa_cons (pe_op op_mul (pe_ix ix_list (pv 0) pe_int (fun _ _ => rfl)) (pe_op op_add (pe_op op_fdiv (pe_ix ix_list (pv 0) pe_int (fun _ _ => rfl)) pe_int) pe_int)) pa_nil)) pe_int))
      (pss_one (ps_ret (pe_op op_mod (pe_op op_fdiv (pv 4) pe_int) (pv 1))))))))), ?_⟩
    obtain ⟨hp, ha, hap, h0, h1, h2⟩ := id S
    -- the count
    refine ⟨fun σ H' => σ = [some (.ref p), some (.int n), none, none, none] ∧ St5 H' p a ns i l m (c + 1) ∧ But p H H', ⟨_, rfl, _, _, _, _, rfl, rfl, SqL.of hp, rfl, _, _, rfl, rfl, _, rfl, _, _, _, _, rfl, rfl, hp, rfl, rfl, S.set h0 h1 h2, (But.refl _ _).upd⟩, ?_⟩
    rintro σ H1 ⟨rfl, S1, B1⟩
    obtain ⟨hp1, ha1, _⟩ := id S1
    -- the next number of the script
    refine ⟨fun σ H' => ∃ v2, σ = [some (.ref p), some (.int n), v2, none, none] ∧ (∃ i l m, St5 H' p a ns i l m (c + 1)) ∧ But p H H', ?_, ?_⟩
    · refine ⟨_, rfl, _, _, _, _, rfl, rfl, SqL.of hp1, rfl, _, _, rfl, rfl, _, rfl, ?_⟩
      refine ite2 (fun c1 => ?_) (fun c1 => iteF ⟨none, rfl, ⟨i, l, m, S1⟩, B1⟩)
      refine ⟨_, rfl, _, _, _, _, rfl, rfl, SqL.of hp1, rfl, _, rfl, _, _, _, _, rfl, rfl, SqL.of hp1, rfl, _, _, rfl, .inl (SqL.of ha1), _, _, rfl, rfl, _, rfl, ?_⟩
      refine ite2 (fun c2 => ?_) (fun c2 => ⟨none, rfl, ⟨i, l, m, S1⟩, B1⟩)
      have c2' : i.toNat < ns.length := by
        have := of_decide_eq_true c2
        rw [List.length_map] at this
        omega
      have hz : (ns.map V.int)[i.toNat]? = some (V.int ns[i.toNat]) := by
        rw [List.getElem?_map, List.getElem?_eq_getElem c2']
        rfl
      refine ⟨_, rfl, _, _, _, _, rfl, rfl, SqL.of hp1, rfl, _, rfl, _, _, _, _, rfl, rfl, SqL.of hp1, rfl, _, _, _, _, rfl, rfl, SqL.of ha1, at_of (j := i.toNat) (by omega) hz, ?_⟩
      generalize ns[i.toNat] = z
      refine ⟨_, rfl, _, _, _, _, rfl, rfl, SqL.of hp1, rfl, _, _, rfl, rfl, _, rfl, _, _, _, _, rfl, rfl, hp1, rfl, ?_⟩
      have S2 := S1.set (i' := i + 1) (l' := l) (m' := m) (c' := c + 1) (by omega) h1 h2
      refine ⟨_, rfl, _, rfl, _, _, rfl, rfl, ⟨by decide, by decide, by decide⟩, _, _, rfl, rfl, _, rfl, ?_⟩
      refine ite2 (fun c3 => ?_) (fun c3 => ?_)
      · refine ⟨_, rfl, _, rfl, _, rfl, _, _, _, _, rfl, rfl, S2.1, rfl, ?_⟩
        exact ⟨_, rfl, ⟨_, _, _, S2.set (by omega) h1 h2⟩, B1.upd.upd⟩
      · refine ⟨_, rfl, _, _, _, _, rfl, rfl, S2.1, rfl, ?_⟩
        have S3 := S2.set (i' := i + 1) (l' := 0) (m' := m) (c' := c + 1) (by omega) h1 h2
        refine ⟨_, rfl, _, _, _, _, rfl, rfl, SqL.of S3.1, rfl, _, _, rfl, rfl, .inr (by decide), _, rfl, _, _, rfl, rfl, _, rfl, _, _, _, _, rfl, rfl, SqL.of S3.1, rfl, _, _, rfl, rfl, .inl (by decide), _, _, rfl, rfl, .inl ⟨_, rfl, ?_⟩⟩
        refine ⟨_, _, rfl, rfl, (by show (0 : Int) < 2147483629; decide), _, rfl, _, _, _, _, rfl, rfl, S3.1, rfl, ?_⟩
        exact ⟨_, rfl, ⟨_, _, _, S3.set (by omega) (Int.emod_nonneg _ (by decide)) (Int.lt_trans (Int.emod_lt_of_pos _ (by decide)) (by decide))⟩, B1.upd.upd.upd⟩
    · rintro σ H2 ⟨v2, rfl, ⟨i, l, m, S2⟩, B2⟩
      obtain ⟨hp2, ha2, hap2, h02, h12, h22⟩ := id S2
      refine ⟨_, rfl, _, _, _, _, rfl, rfl, SqL.of hp2, rfl, _, _, rfl, rfl, _, rfl, ?_⟩
      refine ite2 (fun c1 => ?_) (fun c1 => ?_)
      · refine ⟨_, rfl, _, _, _, _, rfl, rfl, SqL.of hp2, rfl, .inl ⟨_, rfl, _, rfl, _, _, rfl, rfl, hn0, ?_⟩⟩
        refine ⟨_, rfl, _, _, _, _, rfl, rfl, SqL.of hp2, rfl, _, rfl, _, _, rfl, rfl, ⟨hn0, hn1⟩, _, rfl, _, _, _, _, rfl, rfl, hp2, rfl, ?_⟩
        exact ⟨_, rfl, k _ _ (Int.emod_nonneg _ (by omega)) (Int.emod_lt_of_pos _ hn0) ⟨a, ns, _, _, _, _, S2.set h02 h12 h22⟩ B2.upd⟩
      · refine ⟨_, rfl, _, _, _, _, rfl, rfl, SqL.of hp2, rfl, _, _, rfl, rfl, .inr (by decide), _, rfl, _, _, _, _, rfl, rfl, SqL.of hp2, rfl, _, _, rfl, rfl, .inl (by decide), _, _, rfl, rfl, _, _, rfl, rfl, .inl ⟨_, rfl, ?_⟩⟩
        refine ⟨_, _, rfl, rfl, (by show (0 : Int) < 2147483647; decide), _, rfl, _, _, _, _, rfl, rfl, hp2, rfl, ?_⟩
        have m0 : 0 ≤ (m * 48271 + 7919 * (c + 1) + 1) % 2147483647 := Int.emod_nonneg _ (by decide)
        have m1 : (m * 48271 + 7919 * (c + 1) + 1) % 2147483647 < 2147483647 := Int.emod_lt_of_pos _ (by decide)
        have S3 := S2.set (i' := i) (l' := l) (m' := (m * 48271 + 7919 * (c + 1) + 1) % 2147483647) (c' := c + 1) h02 m0 (by omega)
        refine ⟨_, rfl, _, _, _, _, rfl, rfl, SqL.of S3.1, rfl, _, rfl, _, _, _, _, rfl, rfl, SqL.of S3.1, rfl, _, _, rfl, rfl, ⟨by decide, by decide⟩, _, _, rfl, rfl, _, _, rfl, rfl, .inl ⟨Int.lt_of_lt_of_le (by decide) m0, Int.lt_trans m1 (by decide)⟩, .inl ⟨_, rfl, ?_⟩⟩
        refine ⟨_, _, rfl, rfl, (by show (0 : Int) < 2147483399; decide), ?_⟩
        refine ⟨_, rfl, _, _, rfl, rfl, ⟨by decide, by decide⟩, _, rfl, _, _, rfl, rfl, hn0, ?_⟩
        exact k _ _ (Int.emod_nonneg _ (by omega)) (Int.emod_lt_of_pos _ hn0) ⟨a, ns, _, _, _, _, S3⟩ B2.upd
end
end Sq
namespace Sq
open PySem L2
/-- the state is made: the items' list is a new one -/
def spState (K : PySem.W.Frag) : Sp := fun vs H Q _ => ∃ (s : Addr) (ns : List Int), vs = [.ref s] ∧ SqL K H s (ns.map V.int) ∧ ns.length ≤ 63 ∧ ∀ p H', H p = none → StAt H' p → Same H H' → Q (.ref p) H'
theorem same_new {H H1 : Hp} {q : Addr} {o : HO} (a : Same H H1) (n : H1 q = none) : Same H (L2.upd H1 q o) := fun c u h => (upd_ne (ne_of_none (a c u h) n)).trans (a c u h)
theorem same_at {H H1 : Hp} {q : Addr} {o : HO} (a : Same H H1) (n : H q = none) : Same H (L2.upd H1 q o) := fun c u h => (upd_ne (ne_of_none h n)).trans (a c u h)
theorem take_map (ns : List Int) (k : Nat) : cutV (ns.map V.int) none (some ((k : Nat) : Int)) = (ns.take k).map V.int := by
  unfold cutV
  rw [HT.sIx_none, HT.sIx_nat, List.drop_zero, List.length_map, List.map_take]
  rw [Nat.sub_zero]
  by_cases h : k ≤ ns.length
  · rw [Nat.min_eq_left h]
  · rw [Nat.min_eq_right (by omega), List.take_of_length_le (by simp), List.take_of_length_le (by simp; omega)]
theorem map_get {ns : List Int} {i : Nat} {y : V} (hi : (ns.map V.int)[i]? = some y) : ∃ z, ns[i]? = some z ∧ y = V.int z := by
  rw [List.getElem?_map] at hi
  cases e : ns[i]? with
  | none =>
    rw [e] at hi
    cases hi
  | some z =>
    rw [e] at hi
    exact ⟨z, rfl, (Option.some.inj hi).symm⟩
theorem take_more {α : Type} {l : List α} {i : Nat} {x : α} (h : l[i]? = some x) : l.take (i + 1) = l.take i ++ [x] := by
  rw [List.take_add_one, h]
  rfl
theorem seq_at {K : PySem.W.Frag} {H : Hp} {a b : Addr} {xs : List V} {o : HO} (h : SqL K H a xs) (n : b ≠ a) : SqL K (upd H b o) a xs := by
  rcases h with (h | ⟨o, h⟩) | h
  · exact .inl (.inl ((upd_ne n.symm).trans h))
  · exact .inl (.inr ⟨o, (upd_ne n.symm).trans h⟩)
  · exact .inr h
section
variable {P : Program} {w : World} {K : PySem.W.Frag} {mg : Str → Option Value} {base : Heap}
theorem sc_state : FnScope ["_law_script", "_law_items", "_law_item"] ["_law_script"] (defScope s_state) := ⟨rfl, rfl, rfl, by decide +kernel, rfl, by decide +kernel, by decide +kernel⟩
theorem ok_state {f : Addr} {fd : FuncData} (F : Fun K "_law_state" "_law_state" s_state f fd) (T : DTx mg) : FnOk P w K mg base CX0 1 f fd ["_law_script"] (spState K) := by
  refine F.ok sc_state (fun vs H Q E h => ?_) (fun cdv A outer s H vs Q E hr h => ?_)
  · obtain ⟨p, n, rfl, _⟩ := h
    rfl
  · obtain ⟨a, ns, rfl, hS, hl, k⟩ := h
    refine ⟨_, pss_cons (ps_setLc (i := 1) (own := [("_law_item", 2)]) (g := gName 2) (tt := tYes) rfl sc_state.nd rfl rfl (sw_true rfl rfl rfl (by decide +kernel))
        (pi_list (pe_slice sl_list (pv 0) po_none (po_some pe_int))) (blkOk_by (N := ["_law_script", "_law_items", "_law_item"]) (sc := defScope s_state) (by decide +kernel)) (fun _ _ _ _ _ => pg_name (i := 2) sc_state.nd rfl (Or.inl rfl)) (fun _ _ _ _ _ => pts_nil)
        (fun _ _ _ _ _ => pe_callTy call_int1 (by rfl) T.b_int (by decide +kernel) (pa_cons (pv 2) pa_nil)))
      (pss_one (ps_ret (pe_lst (pa_cons (pv 1) (pa_cons pe_int (pa_cons pe_int (pa_cons (pe_op op_add pe_int (pe_callB call_len_seq (by rfl) T.b_len (by decide +kernel) (pa_cons (pv 1) pa_nil))) (pa_cons pe_int pa_nil)))))))), ?_⟩
    refine ⟨_, rfl, _, rfl, _, _, rfl, hS, fun q hq => ?_⟩
    have et : cutV (ns.map V.int) none (some 63) = (ns.take 63).map V.int := take_map ns 63
    have hq1 : SqL K (upd H q (.lst (cutV (ns.map V.int) none (some 63)))) q ((ns.take 63).map V.int) := by
      rw [et]
      exact SqL.of upd_same
    refine ⟨_, rfl, ⟨_, hq1⟩, fun D hD => ?_⟩
    have hDq : D ≠ q := fun e => by
      rw [e, upd_same] at hD
      cases hD
    have hDH : H D = none := by
      rw [upd_ne hDq] at hD
      exact hD
    refine lc_list (K := K) (a := q) (xs := (ns.take 63).map V.int) (fun i H' => H' D = some (.lst ((ns.take i).map V.int)) ∧ Same H H' ∧ SqL K H' q ((ns.take 63).map V.int)) ?_ (fun i H' _ h => h.2.2) ?_ ?_
    · refine ⟨by simpa using upd_same, same_new (same_new (Same.refl H) hq) hD, ?_⟩
      exact Same.seq (same_new (Same.refl _) hD) hq1
    · rintro i y H2 hi ⟨hD2, s2, hq2⟩
      obtain ⟨z, hz, rfl⟩ := map_get hi
      refine ⟨rfl, _, rfl, .inl ⟨_, rfl, ?_⟩⟩
      have hi1 : i < (ns.take 63).length := (List.getElem?_eq_some_iff.mp hz).1
      have hi63 : i < 63 := by
        rw [List.length_take] at hi1
        omega
      have hz' : ns[i]? = some z := by
        rw [List.getElem?_take] at hz
        rw [if_pos hi63] at hz
        exact hz
      refine ⟨_, hD2, small1000 (by rw [List.length_map, List.length_take]; omega), ?_, same_at s2 hDH, ?_⟩
      · rw [take_more hz', List.map_append]
        exact upd_same
      · exact seq_at hq2 hDq
    · rintro H2 ⟨hD2, s2, hq2⟩
      refine ⟨_, rfl, _, rfl, _, _, rfl, .inl (SqL.of hD2), _, _, rfl, rfl, (by show 5 ≤ sizeLine; decide), fun p hp => ?_⟩
      have hpD : D ≠ p := ne_of_none hD2 hp
      refine k p _ (s2.free hp) ⟨D, (ns.take 63).take (ns.take 63).length, 0, 0, _, 0, upd_same, (upd_ne hpD).trans ?_, hpD, by omega, by omega, ?_⟩ (same_new s2 hp)
      · rw [hD2, List.take_take, List.length_map]
        congr 4
        simp
      · rw [List.length_map, List.length_take]
        omega
end
end Sq
namespace Sq
open PySem L2 PyProof.Rows
/-- isinstance(e, c), e the caught error with its own dict -/
structure EIx (K : PySem.W.Frag) (D : Addr) : Prop where
  hcl : (PySem.W.clsIn K D).isSome = true
  hga : PySem.W.findIn K (.ref D) "__getattribute__" = some (some (.builtin "BaseException.__getattribute__"))
  hgt : PySem.W.findIn K (.ref D) "__getattr__" = some none
  hsub : PySem.W.subIn K (.ref D) (.type "BaseException") = some true
  ha : PySem.W.findIn K (.ref D) "__class__" = some (some (.builtin "object.__class__"))
  hn : PySem.W.specialIn K (.builtin "object.__class__") "__get__" = some (some (.builtin "getset_descriptor.__get__"))
  htk : PySem.W.takesIn K (.builtin "object.__class__") = some true
  hm : PySem.W.mroIn K D (.type "object") = some true
def spLaw (K : PySem.W.Frag) : Sp := fun vs H Q _ => ∃ (a : Addr) (ns : List Int), vs = [.ref a] ∧ SqL K H a (ns.map V.int) ∧ ns.length ≤ 63 ∧ ∀ H', Q (.bl true) H'
end Sq

-- needs KE.KExcMore
-- needs HandS.ExcValue
namespace Sq
open PySem L2 PyProof.Rows
/-- an error of the class C, held as a value: with one field, or with none -/
def ErrAt (H : Hp) (a C : Addr) : Prop := (∃ (d : Addr) (f : Str) (y : V), H a = some (exo a C (some d)) ∧ H d = some (exd d [(f, y)]) ∧ (("told" : Str) == f) = false) ∨ H a = some (ExO (.ref C) a)
theorem ErrAt.same {H H' : Hp} {a C : Addr} (s : Same H H') (h : ErrAt H a C) : ErrAt H' a C := by
  rcases h with ⟨d, f, y, h1, h2, h3⟩ | h
  · exact .inl ⟨d, f, y, s _ _ h1, s _ _ h2, h3⟩
  · exact .inr (s _ _ h)
theorem ErrAt.inst {P : Program} {w : World} {H : Hp} {h : Heap} {a C : Addr} (hok : HOk P w H h) (e : ErrAt H a C) : ∃ oe od, PySem.W.InstAt h a oe C od ∧ PySem.W.shadowIn od "told" = some false := by
  rcases e with ⟨d, f, y, h1, h2, h3⟩ | e
  · obtain ⟨t1, ho⟩ := exo_at hok h1
    obtain ⟨mA, hns, hr⟩ := exd_at hok h2
    obtain ⟨od, hd, hl⟩ := lookIn_ns hns
    refine ⟨_, some od, ⟨ho, rfl, rfl, hd⟩, ?_⟩
    show (PySem.W.lookIn "told" od).map (·.isSome) = some false
    rw [hl]
    have q := hr "told"
    have e0 : List.lookup ("told" : Str) [(f, y)] = none := by
      simp [List.lookup, h3]
    rw [e0] at q
    rw [RelO.none_of q]
    rfl
  · have x : ObjOk P w H h a (.ext fun h => ∃ (oe : Obj) (vs : Array Value), h.get? a = some oe ∧ Zc (.ref C) none oe ∧ oe.data = .fields vs ∧ vs[1]? = some .none ∧ vs[2]? = some .none ∧ 4 < vs.size) := hok a _ e
    obtain ⟨oe, vs, ho, hz, hd, _⟩ := x.1
    exact ⟨oe, none, ⟨ho, hz.1, by unfold PySem.W.notCls; rw [hd], by rw [hz.2]; trivial⟩, rfl⟩
/-- isinstance(e, c), e an error that is held -/
def rIsV (K : PySem.W.Frag) : List V → Hp → VK → Prop := fun xs H Q => ∃ (a D : Addr) (c : V) (cv : Value) (b : Bool), xs = [.ref a, c] ∧ ErrAt H a D ∧ EIx K D ∧ ClsV c cv ∧ PySem.W.kitOne K (.ref D) cv = some b ∧ Q (.bl b) H
theorem call_isV {X : Cx} : CallR X (.builtin "isinstance") (rIsV X.K) := by
  intro pins s σ H xs us Q I r h
  obtain ⟨a, D, c, cv, b, rfl, he, C, hcv, e, q⟩ := h
  obtain ⟨x1, x2, rfl, r1, r2⟩ := vals2 r
  obtain rfl : x1 = Value.ref a := r1
  have e2 := hcv.eq r2
  subst e2
  obtain ⟨oe, od, J, _⟩ := he.inst I.hok
  exact PySem.W.kia_one (PySem.W.kitx_exc C.hcl C.hga C.hgt C.hsub C.ha C.hn C.htk C.hm) I.kIn J e (fun z => nomatch z) fun tk => ⟨.bl b, H, I.tok tk, rfl, q⟩
def spTold (z : Str) : Sp := fun vs H Q _ => ∃ x, vs = [x] ∧ Q (.str z) H
structure ToldBy (P : Program) (w : World) (K : PySem.W.Frag) (mg : Str → Option Value) (base : Heap) (D : Addr) (z : Str) : Prop where
  ei : EIx K D
  by_ : ∃ (f : Addr) (fd : FuncData), PySem.W.findIn K (.ref D) "told" = some (some (.ref f)) ∧ PySem.W.isFn K (.ref f) = true ∧ PySem.W.keepIn K (.ref f) = true ∧ FnOk P w K mg base CX0 1 f fd ["self"] (spTold z) ∧ Binds K fd ["self"] []
/-- e.told() -/
def tTold (P : Program) (w : World) (K : PySem.W.Frag) (mg : Str → Option Value) (base : Heap) (to : TE) : TE := fun σ H Q => to σ H fun x H1 => ∃ (a D : Addr) (z : Str), x = .ref a ∧ ErrAt H1 a D ∧ ToldBy P w K mg base D z ∧ Q (.str z) H1
section
variable {X : Cx} {CX : CXT} {k : Nat} {f C : Addr} {ps : List Str} {E : XK} {x : Str} {p pos apos : Pos} {o e : Expr} {es : List Expr} {to te : TE} {t : TA}
theorem pe_told {pl : Sem Bool} (ho : PE X o to) (hr : Room 1 X.A)
    (ht : eval (.Call (.Attribute o "told" apos) [] [] pos) X.env = (do
      let ov ← eval o X.env
      standAt apos.atName
      let (f, first) ← holding [ov] (getMethod ov "told" pl)
      callWith pos f first (backTo pos (starEach [] X.env)) (backToKw pos (keywordEach [] X.env))) := by rfl) :
    PE X (.Call (.Attribute o "told" apos) [] [] pos) (tTold X.prog X.w X.K X.mg X.base to) := by
  refine ⟨fun pins s σ H Q I h => ?_⟩
  refine PySem.W.methodCall_KW (pl := pl) (thn (ho.run pins s σ H _ I h) fun u s1 ⟨x, H1, I1, rx, a, D, z, ex, ea, ⟨C, f, fd, hf, hi, hk, F, hb⟩, q⟩ => ?_) ht
  subst ex
  obtain rfl : u = Value.ref a := rx
  obtain ⟨oe, od, J, sh⟩ := ea.inst I1.hok
  obtain ⟨m, fr⟩ := I1.fr
  exact PySem.W.method_exc fr I1.ok.mod.kin J C.hga C.hgt hf hi sh (PySem.W.callWith_K0 (first := [.ref a]) I1.kIn hk (run_fn (E := fun _ _ _ => False) (us := [.ref a]) (vs := [.ref a]) F hr hb .nil pass0 I1 (.cons rfl .nil) ⟨_, rfl, q⟩))
/-- the error at a keeps the one field f -/
def ErrF (H : Hp) (a C : Addr) (f : Str) (y : V) : Prop := ∃ d : Addr, H a = some (exo a C (some d)) ∧ H d = some (exd d [(f, y)])
theorem ErrF.same {H H' : Hp} {a C : Addr} {f : Str} {y : V} (s : Same H H') (h : ErrF H a C f y) : ErrF H' a C f y := by
  obtain ⟨d, h1, h2⟩ := h
  exact ⟨d, s _ _ h1, s _ _ h2⟩
theorem ErrF.at {H : Hp} {a C : Addr} {f : Str} {y : V} (h : ErrF H a C f y) (hf : (("told" : Str) == f) = false) : ErrAt H a C := by
  obtain ⟨d, h1, h2⟩ := h
  exact .inl ⟨d, f, y, h1, h2, hf⟩
/-- an __init__ that keeps its one argument -/
def spE (C : Addr) (f : Str) : Sp := fun vs H Q _ => ∃ (a : Addr) (y : V), vs = [.ref a, y] ∧ H a = some (exo a C none) ∧ ∀ H', ErrF H' a C f y → (∀ b o, H b = some o → b ≠ a → H' b = some o) → Q .non H'
/-- C(e): a new error with an __init__ of its own, as a value -/
def tOexV (C : Addr) (f : Str) (ta : TA) : TE := fun σ H Q => ta σ H fun vs H1 => ∃ y, vs = [y] ∧ ∀ a H', ErrF H' a C f y → Same H1 H' → Q (.ref a) H'
theorem pe_oexV {fI : Addr} {fd : FuncData} {fl : Str} (T : OexC X.K C) (iC : PySem.W.findIn X.K (.ref C) "__init__" = some (some (.ref fI))) (tI : PySem.W.typeIn X.K (.ref fI) = some (.type "function"))
    (F1 : FnOk X.prog X.w X.K X.mg X.base CX k fI fd ps (spE C fl)) (hr : Room (k + 1) X.A) (hb : Binds X.K fd ps []) (hx : Passes CX X (fun _ _ _ => False)) (hg : Gl X x) (hm : X.mg x = some (.ref C)) (ha : PA X (e :: es) t)
    (hdb : (x == ("__debug__" : Str)) = false := by decide) (he : starEach (e :: es) X.env = (false, eval e X.env) :: starEach es X.env := by rfl) (hpl : (backTo pos (starEach es X.env)).any (·.1) = false := by rfl) :
    PE X (.Call (.Name x p) (e :: es) [] pos) (tOexV C fl t) := by
  refine ⟨fun pins s σ H Q I h => ?_⟩
  obtain ⟨nm, q, N, bs, bm, sn, sub, ab, col, dd, k0, k1, k2, k3, k5, hC, hbm⟩ := T.cls
  refine wpAny_Call_Name_kw (ld_glob I hg hm ?_ hdb)
  refine PySem.W.callWith_K (h₀ := X.base) I.ok.mod.kin T.kC (thn (ha.run pos pins s σ H _ I h) fun us s1 ⟨vs, H1, I1, r1, y, hy, q0⟩ => ⟨I1.kIn, ?_⟩) he hpl
  show wpAny _ _ (call (.ref C) us) _ _ _
  obtain ⟨hp, g, dr, tk, os⟩ := s1
  have hsz : hp.objs.size ≤ hp.objs.size + 1 := Nat.le_succ _
  have hn : H1 (hp.objs.size + 1) = none := I1.hok.fresh hsz
  have hq : spE C fl (.ref (hp.objs.size + 1) :: vs) (upd H1 (hp.objs.size + 1) (exo (hp.objs.size + 1) C none)) (fun v H2 => v = .non ∧ Q (.ref (hp.objs.size + 1)) H2) (fun _ _ _ => False) :=
    ⟨_, y, by rw [hy], upd_same, fun H' e b => ⟨rfl, q0 _ H' e fun c o h => b c o ((upd_ne (ne_of_none h hn)).trans h) (ne_of_none h hn)⟩⟩
  have hz : vs.length ≤ 1000 := by
    rw [hy]
    exact Nat.succ_le_succ (Nat.zero_le _)
  have kk : ∀ b o, hp.get? b = some o → ((hp.push (PySem.W.kdv_tup us)).push (PySem.HandSPX.excO C hp.objs.size)).get? b = some o := fun b o e => Heap.get?_push_of_some _ (Heap.get?_push_of_some _ e)
  have hget : ((hp.push (PySem.W.kdv_tup us)).push (PySem.HandSPX.excO C hp.objs.size)).get? (hp.objs.size + 1) = some (PySem.HandSPX.excO C hp.objs.size) := by heap_get
  have I2 : Inv X pins σ (upd H1 (hp.objs.size + 1) (exo (hp.objs.size + 1) C none)) ⟨(hp.push (PySem.W.kdv_tup us)).push (PySem.HandSPX.excO C hp.objs.size), g, dr, tk, os⟩ :=
    I1.laid (t' := tk) (a := hp.objs.size + 1) (o := exo (hp.objs.size + 1) C none) (h' := (hp.push (PySem.W.kdv_tup us)).push (PySem.HandSPX.excO C hp.objs.size)) kk hsz (exo_ok hget)
  have r2 : Vals (V.ref (hp.objs.size + 1) :: vs) (Value.ref (hp.objs.size + 1) :: us) := .cons rfl r1
  have hl : (Value.ref (hp.objs.size + 1) :: us ++ []).length = ps.length := by
    have e := r2.length
    rw [F1.len _ _ _ _ hq] at e
    rw [List.append_nil]
    exact e.symm
  have hus : us.length ≤ sizeLine := by
    rw [← Paired.length r1, sizeLine_eq]
    omega
  have hb1 := hb ⟨(hp.push (PySem.W.kdv_tup us)).push (PySem.HandSPX.excO C hp.objs.size), g, dr, tk, os⟩ (Value.ref (hp.objs.size + 1) :: us) I2.kIn hl
  have hb2 : BindsTo ⟨(hp.push (PySem.W.kdv_tup us)).push (PySem.HandSPX.excO C hp.objs.size), g, dr, tk, os⟩ fd ⟨Value.ref (hp.objs.size + 1) :: us, []⟩ (ps.zip (Value.ref (hp.objs.size + 1) :: us)) := by
    have e : (Value.ref (hp.objs.size + 1) :: us) ++ [] = Value.ref (hp.objs.size + 1) :: us := List.append_nil _
    rw [e] at hb1
    exact hb1
  refine wpAny_call (PySem.HandSPX.call_own F.excBase_ValueError (fun Y => PySem.HandSPX.refsVE_contains Y bm hbm) (I1.kIn _ _ hC) (PySem.W.looks_findIn I1.kIn iC) (fun self => PySem.W.bind_fn I1.kIn self tI) hus
    (codeAny_mono (F1.run _ X.stack _ _ ⟨Value.ref (hp.objs.size + 1) :: us, []⟩ (Value.ref (hp.objs.size + 1) :: us) _ _ (fun _ _ _ => False) (hr.make C us []) (I2.env0.make C us []) hb2 r2 hq) fun r s' hq' => ?_))
  cases r with
  | error er => exact hx pins σ _ _ er s' I2 hq'
  | ok fl =>
    cases fl with
    | ret u =>
      obtain ⟨v, H', I3, rv, ev, q3⟩ := I2.after hq'
      subst ev
      exact ⟨rv, ⟨V.ref (hp.objs.size + 1), H', I3, rfl, q3⟩⟩
    | next => exact False.elim hq'
    | brk => exact False.elim hq'
    | cont => exact False.elim hq'
structure InitBy (P : Program) (w : World) (K : PySem.W.Frag) (mg : Str → Option Value) (base : Heap) (C : Addr) (fl : Str) : Prop where
  oex : OexC K C
  by_ : ∃ (f : Addr) (fd : FuncData), PySem.W.findIn K (.ref C) "__init__" = some (some (.ref f)) ∧ PySem.W.typeIn K (.ref f) = some (.type "function") ∧ FnOk P w K mg base CX0 1 f fd ["self", fl] (spE C fl) ∧ Binds K fd ["self", fl] []
  no : PySem.W.findIn K (.ref C) fl = some none
  xf : XfC K C
  nt : (("told" : Str) == fl) = false
theorem pe_newE {fl : Str} (J : InitBy X.prog X.w X.K X.mg X.base C fl) (hr : Room 2 X.A) (hg : Gl X x) (hm : X.mg x = some (.ref C)) (ha : PA X (e :: es) t)
    (hdb : (x == ("__debug__" : Str)) = false := by decide) (he : starEach (e :: es) X.env = (false, eval e X.env) :: starEach es X.env := by rfl) (hpl : (backTo pos (starEach es X.env)).any (·.1) = false := by rfl) :
    PE X (.Call (.Name x p) (e :: es) [] pos) (tOexV C fl t) := by
  obtain ⟨T, ⟨f, fd, iC, tI, F, b⟩, _⟩ := J
  exact pe_oexV T iC tI F hr b pass0 hg hm ha hdb he hpl
/-- C(): a new error of a class without an __init__, as a value -/
theorem pe_exc0 {bmB : List Value} {B newId initId : String} (F : ExcBaseFacts B newId initId bmB) (q : PySem.W.excIn X.K C bmB newId = true) (gC : X.mg x = some (.ref C)) (kC : PySem.W.keepIn X.K (.ref C) = true) (hg : Gl X x) (hdb : (x == ("__debug__" : Str)) = false := by decide) :
    PE X (.Call (.Name x p) [] [] pos) (fun _ H Q => ∀ a H', ErrAt H' a C → Same H H' → Q (.ref a) H') := by
  refine ⟨fun pins s σ H Q I h => ?_⟩
  refine wpAny_Call_Name_kw (ld_glob I hg gC (PySem.W.callWith_K0 I.kIn kC ?_) hdb)
  show wpAny _ _ (call (.ref C) []) _ _ _
  obtain ⟨bm, N, nm, qn, bs, hdct, sn, sub, ab, col, dd, k0, k1, k2, k3, k5, mN, hC, hN, hni, T⟩ := exc_obj I.kIn q
  obtain ⟨hp, g, d, t, os⟩ := s
  refine wpAny_call_exc_subT F T hC hN hni (fun h' a hm => ?_) (Nat.zero_le _)
  have hn : H a = none := I.hok.gone hm.new
  obtain ⟨t, ht, _, _⟩ := hm.there
  exact ⟨.ref a, upd H a (ExO (.ref C) a), I.laidN hm.keeps hm.new hn (exO_ok ht ⟨rfl, rfl⟩ rfl rfl rfl (show 4 < 6 by decide)), rfl, h a _ (.inr upd_same) (fun c u hc => (upd_ne (ne_of_none hc hn)).trans hc)⟩
/-- e.f, e an error that is held -/
def tErf (K : PySem.W.Frag) (n : Str) (to : TE) : TE := fun σ H Q => to σ H fun x H1 => ∃ (a D : Addr) (y : V), x = .ref a ∧ ErrF H1 a D n y ∧ XfC K D ∧ PySem.W.findIn K (.ref D) n = some none ∧ Q y H1
theorem pe_erf {n : Str} (ho : PE X o to) (hb : attributeBase o n X.env (eval o X.env) = eval o X.env := by rfl) : PE X (.Attribute o n pos) (tErf X.K n to) := by
  refine ⟨fun pins s σ H Q I h => ?_⟩
  refine attr_of hb (thn (ho.run pins s σ H _ I h) fun u s1 ⟨x, H1, I1, rx, a, D, y, ex, ⟨d, h1, h2⟩, T, hno, q⟩ => ?_)
  subst ex
  obtain rfl : u = Value.ref a := rx
  obtain ⟨t1, ha⟩ := exo_at I1.hok h1
  obtain ⟨mA, hns, hr⟩ := exd_at I1.hok h2
  obtain ⟨od, hd, hl⟩ := lookIn_ns hns
  obtain ⟨v, hv, rv⟩ := RelO.some_of (v := y) (o := mA n) (by have e := hr n; simpa [List.lookup] using e)
  have J : PySem.W.InstAt s1.heap a ({ cls := .ref D, dict := some d, data := .fields #[.ref t1, .none, .none, .none, .bool false, .none] } : Obj) D (some od) := ⟨ha, rfl, rfl, hd⟩
  exact HandSPX.exc_get I1.kIn J T.ga T.gg T.exC (PySem.W.findObj_own T.hdC hno rfl (by rw [hl, hv])) (handed_of rv) ⟨y, H1, I1.tok _, rv, q⟩
end
end Sq

namespace Sq
open PySem L2 PyProof.Rows
def nm : Nat → Str
  | 0 => "noratio"
  | 1 => "nofraction"
  | 2 => "nocell"
  | 3 => "noimage"
  | 4 => "notext"
  | 5 => "nopoly"
  | 6 => "noseries"
  | 7 => "noquotients"
  | 8 => "nopoints"
  | 9 => "noreduction"
  | 10 => "nolines"
  | 11 => "notknown"
  | 12 => "nofield"
  | 13 => "nonumber"
  | 14 => "otherfield"
  | 15 => "nocount"
  | 16 => "full"
  | 17 => "noback"
  | 18 => "noline"
  | 19 => "noundo"
  | 20 => "noredo"
  | _ => "serieserror"
structure ECx (K : PySem.W.Frag) (mg : Str → Option Value) (C : Nat → Addr) : Prop where
  ei : ∀ i, i < 22 → EIx K (C i)
  kit : ∀ i j, i < 22 → j < 21 → PySem.W.kitOne K (.ref (C i)) (.ref (C j)) = some (decide (i = j))
  kitS : ∀ i, i < 22 → PySem.W.kitOne K (.ref (C i)) (.ref (C 21)) = some true
  kitV : ∀ i, i < 22 → PySem.W.kitOne K (.ref (C i)) (.type "ValueError") = some true
  b_isinstance : mg "isinstance" = none
  b_int : mg "int" = none
  b_bool : mg "bool" = none
  b_ValueError : mg "ValueError" = none
  m0 : mg "NoRatio" = some (.ref (C 0))
  m1 : mg "NoFraction" = some (.ref (C 1))
  m2 : mg "NoCell" = some (.ref (C 2))
  m3 : mg "NoImage" = some (.ref (C 3))
  m4 : mg "NoText" = some (.ref (C 4))
  m5 : mg "NoPoly" = some (.ref (C 5))
  m6 : mg "NoSeries" = some (.ref (C 6))
  m7 : mg "NoQuotients" = some (.ref (C 7))
  m8 : mg "NoPoints" = some (.ref (C 8))
  m9 : mg "NoReduction" = some (.ref (C 9))
  m10 : mg "NoLines" = some (.ref (C 10))
  m11 : mg "NotKnown" = some (.ref (C 11))
  m12 : mg "NoField" = some (.ref (C 12))
  m13 : mg "NoNumber" = some (.ref (C 13))
  m14 : mg "OtherField" = some (.ref (C 14))
  m15 : mg "NoCount" = some (.ref (C 15))
  m16 : mg "Full" = some (.ref (C 16))
  m17 : mg "NoBack" = some (.ref (C 17))
  m18 : mg "NoLine" = some (.ref (C 18))
  m19 : mg "NoUndo" = some (.ref (C 19))
  m20 : mg "NoRedo" = some (.ref (C 20))
  m21 : mg "SeriesError" = some (.ref (C 21))
structure NCx (P : Program) (w : World) (K : PySem.W.Frag) (mg : Str → Option Value) (base : Heap) (C : Nat → Addr) : Prop where
  i0 : InitBy P w K mg base (C 0) "word"
  i1 : InitBy P w K mg base (C 1) "word"
  i2 : InitBy P w K mg base (C 2) "word"
  i3 : InitBy P w K mg base (C 3) "word"
  i4 : InitBy P w K mg base (C 4) "word"
  i5 : InitBy P w K mg base (C 5) "place"
  i6 : InitBy P w K mg base (C 6) "place"
  i7 : InitBy P w K mg base (C 7) "place"
  i8 : InitBy P w K mg base (C 8) "place"
  i9 : InitBy P w K mg base (C 9) "place"
  i10 : InitBy P w K mg base (C 10) "place"
  i11 : InitBy P w K mg base (C 11) "known"
  x12 : PySem.W.excIn K (C 12) [.type "ValueError", .type "Exception", .type "BaseException", .type "object"] "ValueError.__new__" = true
  k12 : PySem.W.keepIn K (.ref (C 12)) = true
  x13 : PySem.W.excIn K (C 13) [.type "ValueError", .type "Exception", .type "BaseException", .type "object"] "ValueError.__new__" = true
  k13 : PySem.W.keepIn K (.ref (C 13)) = true
  x14 : PySem.W.excIn K (C 14) [.type "ValueError", .type "Exception", .type "BaseException", .type "object"] "ValueError.__new__" = true
  k14 : PySem.W.keepIn K (.ref (C 14)) = true
  x15 : PySem.W.excIn K (C 15) [.type "ValueError", .type "Exception", .type "BaseException", .type "object"] "ValueError.__new__" = true
  k15 : PySem.W.keepIn K (.ref (C 15)) = true
  x16 : PySem.W.excIn K (C 16) [.type "ValueError", .type "Exception", .type "BaseException", .type "object"] "ValueError.__new__" = true
  k16 : PySem.W.keepIn K (.ref (C 16)) = true
  x17 : PySem.W.excIn K (C 17) [.type "ValueError", .type "Exception", .type "BaseException", .type "object"] "ValueError.__new__" = true
  k17 : PySem.W.keepIn K (.ref (C 17)) = true
  x18 : PySem.W.excIn K (C 18) [.type "ValueError", .type "Exception", .type "BaseException", .type "object"] "ValueError.__new__" = true
  k18 : PySem.W.keepIn K (.ref (C 18)) = true
  x19 : PySem.W.excIn K (C 19) [.type "ValueError", .type "Exception", .type "BaseException", .type "object"] "ValueError.__new__" = true
  k19 : PySem.W.keepIn K (.ref (C 19)) = true
  x20 : PySem.W.excIn K (C 20) [.type "ValueError", .type "Exception", .type "BaseException", .type "object"] "ValueError.__new__" = true
  k20 : PySem.W.keepIn K (.ref (C 20)) = true
  x21 : PySem.W.excIn K (C 21) [.type "ValueError", .type "Exception", .type "BaseException", .type "object"] "ValueError.__new__" = true
  k21 : PySem.W.keepIn K (.ref (C 21)) = true
abbrev s_told0 : Stmt := inClass (top 2) 1
abbrev s_init0 : Stmt := inClass (top 2) 0
abbrev s_told1 : Stmt := inClass (top 9) 1
abbrev s_init1 : Stmt := inClass (top 9) 0
abbrev s_told2 : Stmt := inClass (top 10) 1
abbrev s_init2 : Stmt := inClass (top 10) 0
abbrev s_told3 : Stmt := inClass (top 14) 1
abbrev s_init3 : Stmt := inClass (top 14) 0
abbrev s_told4 : Stmt := inClass (top 16) 1
abbrev s_init4 : Stmt := inClass (top 16) 0
abbrev s_told5 : Stmt := inClass (top 5) 1
abbrev s_init5 : Stmt := inClass (top 5) 0
abbrev s_told6 : Stmt := inClass (top 7) 1
abbrev s_init6 : Stmt := inClass (top 7) 0
abbrev s_told7 : Stmt := inClass (top 12) 1
abbrev s_init7 : Stmt := inClass (top 12) 0
abbrev s_told8 : Stmt := inClass (top 13) 1
abbrev s_init8 : Stmt := inClass (top 13) 0
abbrev s_told9 : Stmt := inClass (top 15) 1
abbrev s_init9 : Stmt := inClass (top 15) 0
abbrev s_told10 : Stmt := inClass (top 20) 1
abbrev s_init10 : Stmt := inClass (top 20) 0
abbrev s_told11 : Stmt := inClass (top 11) 1
abbrev s_init11 : Stmt := inClass (top 11) 0
abbrev s_told12 : Stmt := inClass (top 3) 0
abbrev s_told13 : Stmt := inClass (top 4) 0
abbrev s_told14 : Stmt := inClass (top 6) 0
abbrev s_told15 : Stmt := inClass (top 8) 0
abbrev s_told16 : Stmt := inClass (top 17) 0
abbrev s_told17 : Stmt := inClass (top 18) 0
abbrev s_told18 : Stmt := inClass (top 19) 0
abbrev s_told19 : Stmt := inClass (top 21) 0
abbrev s_told20 : Stmt := inClass (top 22) 0
abbrev s_told21 : Stmt := inClass (top 1) 0
abbrev s_more : Stmt := top 28
abbrev s_names : Stmt := top 27
abbrev s_made : Stmt := top 26
abbrev s_law : Stmt := top 29
def acc (i lo hi : Nat) : List V := if lo ≤ i ∧ i < hi then [.str (nm i)] else []
theorem acc0 (i lo : Nat) : acc i lo lo = [] := if_neg (by omega)
theorem acc_yes {i lo j : Nat} (h : lo ≤ j) (e : i = j) : acc i lo j ++ [.str (nm j)] = acc i lo (j + 1) := by
  subst e
  unfold acc
  rw [if_neg (by omega), if_pos (by omega)]
  rfl
theorem acc_no {i lo j : Nat} (e : i ≠ j) : acc i lo j = acc i lo (j + 1) := by
  unfold acc
  by_cases c : lo ≤ i ∧ i < j
  · rw [if_pos c, if_pos (by omega)]
  · rw [if_neg c, if_neg (by omega)]
theorem acc_len (i lo hi : Nat) : (acc i lo hi).length ≤ 1 := by
  unfold acc
  split <;> simp
theorem acc_cat (i : Nat) (h : i < 22) : acc i 0 11 ++ acc i 11 21 = if i < 21 then [.str (nm i)] else [] := by
  unfold acc
  by_cases c : i < 11
  · rw [if_pos (by omega), if_neg (by omega), if_pos (by omega)]
    rfl
  · by_cases c2 : i < 21
    · rw [if_neg (by omega), if_pos (by omega), if_pos c2]
      rfl
    · rw [if_neg (by omega), if_neg (by omega), if_neg c2]
      rfl
def spMore (C : Nat → Addr) : Sp := fun vs H Q _ => ∃ (a : Addr) (i : Nat), vs = [.ref a] ∧ i < 22 ∧ ErrAt H a (C i) ∧ ∀ q H', H q = none → H' q = some (.lst (acc i 11 21)) → Same H H' → Q (.ref q) H'
def spNames (C : Nat → Addr) : Sp := fun vs H Q _ => ∃ (a : Addr) (i : Nat), vs = [.ref a] ∧ i < 22 ∧ ErrAt H a (C i) ∧ ∀ q H', H' q = some (.lst (if i < 21 then [.str (nm i)] else [])) → Same H H' → Q (.ref q) H'
section
variable {P : Program} {w : World} {K : PySem.W.Frag} {mg : Str → Option Value} {base : Heap} {C : Nat → Addr}
theorem sc_told0 : FnScope ["self"] ["self"] (defScope s_told0) := ⟨rfl, rfl, rfl, by decide +kernel, rfl, by decide +kernel, by decide +kernel⟩
theorem ok_told0 {f : Addr} {fd : FuncData} (F : Fun K "told" "NoRatio.told" s_told0 f fd) : FnOk P w K mg base CX0 1 f fd ["self"] (spTold (("refused " : Str) ++ nm 0)) := by
  refine F.ok sc_told0 (fun vs H Q E h => ?_) (fun cdv A outer s H vs Q E hr h => ?_)
  · obtain ⟨x, rfl, _⟩ := h
    rfl
  · obtain ⟨x, rfl, k⟩ := h
    refine ⟨_, pss_one (ps_ret pe_str), ?_⟩
    exact (show (("refused " : Str) ++ nm 0) = "refused noratio" from by decide +kernel) ▸ k
theorem sc_init0 : FnScope ["self", "word"] ["self", "word"] (defScope s_init0) := ⟨rfl, rfl, rfl, by decide +kernel, rfl, by decide +kernel, by decide +kernel⟩
theorem ok_init0 {f C : Addr} {fd : FuncData} (F : Fun K "__init__" "NoRatio.__init__" s_init0 f fd) (T : OexC K C) (n : PySem.W.findIn K (.ref C) "word" = some none) : FnOk P w K mg base CX0 1 f fd ["self", "word"] (spE C "word") := by
  refine F.ok sc_init0 (fun vs H Q E h => ?_) (fun cdv A outer s H vs Q E hr h => ?_)
  · obtain ⟨x, y, rfl, _⟩ := h
    rfl
  · obtain ⟨a, y, rfl, ha, k⟩ := h
    refine ⟨_, pss_one (ps_ost (pv 0) (pv 1)), ?_⟩
    exact ⟨_, rfl, _, rfl, a, C, rfl, T, n, .inl ⟨ha, fun dx h1 h2 => k _ ⟨dx, upd_same, (upd_ne h2).trans upd_same⟩ fun b o hb hn => (upd_ne hn).trans ((upd_ne (ne_of_none hb h1)).trans hb)⟩⟩
theorem sc_told1 : FnScope ["self"] ["self"] (defScope s_told1) := ⟨rfl, rfl, rfl, by decide +kernel, rfl, by decide +kernel, by decide +kernel⟩
theorem ok_told1 {f : Addr} {fd : FuncData} (F : Fun K "told" "NoFraction.told" s_told1 f fd) : FnOk P w K mg base CX0 1 f fd ["self"] (spTold (("refused " : Str) ++ nm 1)) := by
  refine F.ok sc_told1 (fun vs H Q E h => ?_) (fun cdv A outer s H vs Q E hr h => ?_)
  · obtain ⟨x, rfl, _⟩ := h
    rfl
  · obtain ⟨x, rfl, k⟩ := h
    refine ⟨_, pss_one (ps_ret pe_str), ?_⟩
    exact (show (("refused " : Str) ++ nm 1) = "refused nofraction" from by decide +kernel) ▸ k
theorem sc_init1 : FnScope ["self", "word"] ["self", "word"] (defScope s_init1) := ⟨rfl, rfl, rfl, by decide +kernel, rfl, by decide +kernel, by decide +kernel⟩
theorem ok_init1 {f C : Addr} {fd : FuncData} (F : Fun K "__init__" "NoFraction.__init__" s_init1 f fd) (T : OexC K C) (n : PySem.W.findIn K (.ref C) "word" = some none) : FnOk P w K mg base CX0 1 f fd ["self", "word"] (spE C "word") := by
  refine F.ok sc_init1 (fun vs H Q E h => ?_) (fun cdv A outer s H vs Q E hr h => ?_)
  · obtain ⟨x, y, rfl, _⟩ := h
    rfl
  · obtain ⟨a, y, rfl, ha, k⟩ := h
    refine ⟨_, pss_one (ps_ost (pv 0) (pv 1)), ?_⟩
    exact ⟨_, rfl, _, rfl, a, C, rfl, T, n, .inl ⟨ha, fun dx h1 h2 => k _ ⟨dx, upd_same, (upd_ne h2).trans upd_same⟩ fun b o hb hn => (upd_ne hn).trans ((upd_ne (ne_of_none hb h1)).trans hb)⟩⟩
theorem sc_told2 : FnScope ["self"] ["self"] (defScope s_told2) := ⟨rfl, rfl, rfl, by decide +kernel, rfl, by decide +kernel, by decide +kernel⟩
theorem ok_told2 {f : Addr} {fd : FuncData} (F : Fun K "told" "NoCell.told" s_told2 f fd) : FnOk P w K mg base CX0 1 f fd ["self"] (spTold (("refused " : Str) ++ nm 2)) := by
  refine F.ok sc_told2 (fun vs H Q E h => ?_) (fun cdv A outer s H vs Q E hr h => ?_)
  · obtain ⟨x, rfl, _⟩ := h
    rfl
  · obtain ⟨x, rfl, k⟩ := h
    refine ⟨_, pss_one (ps_ret pe_str), ?_⟩
    exact (show (("refused " : Str) ++ nm 2) = "refused nocell" from by decide +kernel) ▸ k
theorem sc_init2 : FnScope ["self", "word"] ["self", "word"] (defScope s_init2) := ⟨rfl, rfl, rfl, by decide +kernel, rfl, by decide +kernel, by decide +kernel⟩
theorem ok_init2 {f C : Addr} {fd : FuncData} (F : Fun K "__init__" "NoCell.__init__" s_init2 f fd) (T : OexC K C) (n : PySem.W.findIn K (.ref C) "word" = some none) : FnOk P w K mg base CX0 1 f fd ["self", "word"] (spE C "word") := by
  refine F.ok sc_init2 (fun vs H Q E h => ?_) (fun cdv A outer s H vs Q E hr h => ?_)
  · obtain ⟨x, y, rfl, _⟩ := h
    rfl
  · obtain ⟨a, y, rfl, ha, k⟩ := h
    refine ⟨_, pss_one (ps_ost (pv 0) (pv 1)), ?_⟩
    exact ⟨_, rfl, _, rfl, a, C, rfl, T, n, .inl ⟨ha, fun dx h1 h2 => k _ ⟨dx, upd_same, (upd_ne h2).trans upd_same⟩ fun b o hb hn => (upd_ne hn).trans ((upd_ne (ne_of_none hb h1)).trans hb)⟩⟩
theorem sc_told3 : FnScope ["self"] ["self"] (defScope s_told3) := ⟨rfl, rfl, rfl, by decide +kernel, rfl, by decide +kernel, by decide +kernel⟩
theorem ok_told3 {f : Addr} {fd : FuncData} (F : Fun K "told" "NoImage.told" s_told3 f fd) : FnOk P w K mg base CX0 1 f fd ["self"] (spTold (("refused " : Str) ++ nm 3)) := by
  refine F.ok sc_told3 (fun vs H Q E h => ?_) (fun cdv A outer s H vs Q E hr h => ?_)
  · obtain ⟨x, rfl, _⟩ := h
    rfl
  · obtain ⟨x, rfl, k⟩ := h
    refine ⟨_, pss_one (ps_ret pe_str), ?_⟩
    exact (show (("refused " : Str) ++ nm 3) = "refused noimage" from by decide +kernel) ▸ k
theorem sc_init3 : FnScope ["self", "word"] ["self", "word"] (defScope s_init3) := ⟨rfl, rfl, rfl, by decide +kernel, rfl, by decide +kernel, by decide +kernel⟩
theorem ok_init3 {f C : Addr} {fd : FuncData} (F : Fun K "__init__" "NoImage.__init__" s_init3 f fd) (T : OexC K C) (n : PySem.W.findIn K (.ref C) "word" = some none) : FnOk P w K mg base CX0 1 f fd ["self", "word"] (spE C "word") := by
  refine F.ok sc_init3 (fun vs H Q E h => ?_) (fun cdv A outer s H vs Q E hr h => ?_)
  · obtain ⟨x, y, rfl, _⟩ := h
    rfl
  · obtain ⟨a, y, rfl, ha, k⟩ := h
    refine ⟨_, pss_one (ps_ost (pv 0) (pv 1)), ?_⟩
    exact ⟨_, rfl, _, rfl, a, C, rfl, T, n, .inl ⟨ha, fun dx h1 h2 => k _ ⟨dx, upd_same, (upd_ne h2).trans upd_same⟩ fun b o hb hn => (upd_ne hn).trans ((upd_ne (ne_of_none hb h1)).trans hb)⟩⟩
theorem sc_told4 : FnScope ["self"] ["self"] (defScope s_told4) := ⟨rfl, rfl, rfl, by decide +kernel, rfl, by decide +kernel, by decide +kernel⟩
theorem ok_told4 {f : Addr} {fd : FuncData} (F : Fun K "told" "NoText.told" s_told4 f fd) : FnOk P w K mg base CX0 1 f fd ["self"] (spTold (("refused " : Str) ++ nm 4)) := by
  refine F.ok sc_told4 (fun vs H Q E h => ?_) (fun cdv A outer s H vs Q E hr h => ?_)
  · obtain ⟨x, rfl, _⟩ := h
    rfl
  · obtain ⟨x, rfl, k⟩ := h
    refine ⟨_, pss_one (ps_ret pe_str), ?_⟩
    exact (show (("refused " : Str) ++ nm 4) = "refused notext" from by decide +kernel) ▸ k
theorem sc_init4 : FnScope ["self", "word"] ["self", "word"] (defScope s_init4) := ⟨rfl, rfl, rfl, by decide +kernel, rfl, by decide +kernel, by decide +kernel⟩
theorem ok_init4 {f C : Addr} {fd : FuncData} (F : Fun K "__init__" "NoText.__init__" s_init4 f fd) (T : OexC K C) (n : PySem.W.findIn K (.ref C) "word" = some none) : FnOk P w K mg base CX0 1 f fd ["self", "word"] (spE C "word") := by
  refine F.ok sc_init4 (fun vs H Q E h => ?_) (fun cdv A outer s H vs Q E hr h => ?_)
  · obtain ⟨x, y, rfl, _⟩ := h
    rfl
  · obtain ⟨a, y, rfl, ha, k⟩ := h
    refine ⟨_, pss_one (ps_ost (pv 0) (pv 1)), ?_⟩
    exact ⟨_, rfl, _, rfl, a, C, rfl, T, n, .inl ⟨ha, fun dx h1 h2 => k _ ⟨dx, upd_same, (upd_ne h2).trans upd_same⟩ fun b o hb hn => (upd_ne hn).trans ((upd_ne (ne_of_none hb h1)).trans hb)⟩⟩
theorem sc_told5 : FnScope ["self"] ["self"] (defScope s_told5) := ⟨rfl, rfl, rfl, by decide +kernel, rfl, by decide +kernel, by decide +kernel⟩
theorem ok_told5 {f : Addr} {fd : FuncData} (F : Fun K "told" "NoPoly.told" s_told5 f fd) : FnOk P w K mg base CX0 1 f fd ["self"] (spTold (("refused " : Str) ++ nm 5)) := by
  refine F.ok sc_told5 (fun vs H Q E h => ?_) (fun cdv A outer s H vs Q E hr h => ?_)
  · obtain ⟨x, rfl, _⟩ := h
    rfl
  · obtain ⟨x, rfl, k⟩ := h
    refine ⟨_, pss_one (ps_ret pe_str), ?_⟩
    exact (show (("refused " : Str) ++ nm 5) = "refused nopoly" from by decide +kernel) ▸ k
theorem sc_init5 : FnScope ["self", "place"] ["self", "place"] (defScope s_init5) := ⟨rfl, rfl, rfl, by decide +kernel, rfl, by decide +kernel, by decide +kernel⟩
theorem ok_init5 {f C : Addr} {fd : FuncData} (F : Fun K "__init__" "NoPoly.__init__" s_init5 f fd) (T : OexC K C) (n : PySem.W.findIn K (.ref C) "place" = some none) : FnOk P w K mg base CX0 1 f fd ["self", "place"] (spE C "place") := by
  refine F.ok sc_init5 (fun vs H Q E h => ?_) (fun cdv A outer s H vs Q E hr h => ?_)
  · obtain ⟨x, y, rfl, _⟩ := h
    rfl
  · obtain ⟨a, y, rfl, ha, k⟩ := h
    refine ⟨_, pss_one (ps_ost (pv 0) (pv 1)), ?_⟩
    exact ⟨_, rfl, _, rfl, a, C, rfl, T, n, .inl ⟨ha, fun dx h1 h2 => k _ ⟨dx, upd_same, (upd_ne h2).trans upd_same⟩ fun b o hb hn => (upd_ne hn).trans ((upd_ne (ne_of_none hb h1)).trans hb)⟩⟩
theorem sc_told6 : FnScope ["self"] ["self"] (defScope s_told6) := ⟨rfl, rfl, rfl, by decide +kernel, rfl, by decide +kernel, by decide +kernel⟩
theorem ok_told6 {f : Addr} {fd : FuncData} (F : Fun K "told" "NoSeries.told" s_told6 f fd) : FnOk P w K mg base CX0 1 f fd ["self"] (spTold (("refused " : Str) ++ nm 6)) := by
  refine F.ok sc_told6 (fun vs H Q E h => ?_) (fun cdv A outer s H vs Q E hr h => ?_)
  · obtain ⟨x, rfl, _⟩ := h
    rfl
  · obtain ⟨x, rfl, k⟩ := h
    refine ⟨_, pss_one (ps_ret pe_str), ?_⟩
    exact (show (("refused " : Str) ++ nm 6) = "refused noseries" from by decide +kernel) ▸ k
theorem sc_init6 : FnScope ["self", "place"] ["self", "place"] (defScope s_init6) := ⟨rfl, rfl, rfl, by decide +kernel, rfl, by decide +kernel, by decide +kernel⟩
theorem ok_init6 {f C : Addr} {fd : FuncData} (F : Fun K "__init__" "NoSeries.__init__" s_init6 f fd) (T : OexC K C) (n : PySem.W.findIn K (.ref C) "place" = some none) : FnOk P w K mg base CX0 1 f fd ["self", "place"] (spE C "place") := by
  refine F.ok sc_init6 (fun vs H Q E h => ?_) (fun cdv A outer s H vs Q E hr h => ?_)
  · obtain ⟨x, y, rfl, _⟩ := h
    rfl
  · obtain ⟨a, y, rfl, ha, k⟩ := h
    refine ⟨_, pss_one (ps_ost (pv 0) (pv 1)), ?_⟩
    exact ⟨_, rfl, _, rfl, a, C, rfl, T, n, .inl ⟨ha, fun dx h1 h2 => k _ ⟨dx, upd_same, (upd_ne h2).trans upd_same⟩ fun b o hb hn => (upd_ne hn).trans ((upd_ne (ne_of_none hb h1)).trans hb)⟩⟩
theorem sc_told7 : FnScope ["self"] ["self"] (defScope s_told7) := ⟨rfl, rfl, rfl, by decide +kernel, rfl, by decide +kernel, by decide +kernel⟩
theorem ok_told7 {f : Addr} {fd : FuncData} (F : Fun K "told" "NoQuotients.told" s_told7 f fd) : FnOk P w K mg base CX0 1 f fd ["self"] (spTold (("refused " : Str) ++ nm 7)) := by
  refine F.ok sc_told7 (fun vs H Q E h => ?_) (fun cdv A outer s H vs Q E hr h => ?_)
  · obtain ⟨x, rfl, _⟩ := h
    rfl
  · obtain ⟨x, rfl, k⟩ := h
    refine ⟨_, pss_one (ps_ret pe_str), ?_⟩
    exact (show (("refused " : Str) ++ nm 7) = "refused noquotients" from by decide +kernel) ▸ k
theorem sc_init7 : FnScope ["self", "place"] ["self", "place"] (defScope s_init7) := ⟨rfl, rfl, rfl, by decide +kernel, rfl, by decide +kernel, by decide +kernel⟩
theorem ok_init7 {f C : Addr} {fd : FuncData} (F : Fun K "__init__" "NoQuotients.__init__" s_init7 f fd) (T : OexC K C) (n : PySem.W.findIn K (.ref C) "place" = some none) : FnOk P w K mg base CX0 1 f fd ["self", "place"] (spE C "place") := by
  refine F.ok sc_init7 (fun vs H Q E h => ?_) (fun cdv A outer s H vs Q E hr h => ?_)
  · obtain ⟨x, y, rfl, _⟩ := h
    rfl
  · obtain ⟨a, y, rfl, ha, k⟩ := h
    refine ⟨_, pss_one (ps_ost (pv 0) (pv 1)), ?_⟩
    exact ⟨_, rfl, _, rfl, a, C, rfl, T, n, .inl ⟨ha, fun dx h1 h2 => k _ ⟨dx, upd_same, (upd_ne h2).trans upd_same⟩ fun b o hb hn => (upd_ne hn).trans ((upd_ne (ne_of_none hb h1)).trans hb)⟩⟩
theorem sc_told8 : FnScope ["self"] ["self"] (defScope s_told8) := ⟨rfl, rfl, rfl, by decide +kernel, rfl, by decide +kernel, by decide +kernel⟩
theorem ok_told8 {f : Addr} {fd : FuncData} (F : Fun K "told" "NoPoints.told" s_told8 f fd) : FnOk P w K mg base CX0 1 f fd ["self"] (spTold (("refused " : Str) ++ nm 8)) := by
  refine F.ok sc_told8 (fun vs H Q E h => ?_) (fun cdv A outer s H vs Q E hr h => ?_)
  · obtain ⟨x, rfl, _⟩ := h
    rfl
  · obtain ⟨x, rfl, k⟩ := h
    refine ⟨_, pss_one (ps_ret pe_str), ?_⟩
    exact (show (("refused " : Str) ++ nm 8) = "refused nopoints" from by decide +kernel) ▸ k
theorem sc_init8 : FnScope ["self", "place"] ["self", "place"] (defScope s_init8) := ⟨rfl, rfl, rfl, by decide +kernel, rfl, by decide +kernel, by decide +kernel⟩
theorem ok_init8 {f C : Addr} {fd : FuncData} (F : Fun K "__init__" "NoPoints.__init__" s_init8 f fd) (T : OexC K C) (n : PySem.W.findIn K (.ref C) "place" = some none) : FnOk P w K mg base CX0 1 f fd ["self", "place"] (spE C "place") := by
  refine F.ok sc_init8 (fun vs H Q E h => ?_) (fun cdv A outer s H vs Q E hr h => ?_)
  · obtain ⟨x, y, rfl, _⟩ := h
    rfl
  · obtain ⟨a, y, rfl, ha, k⟩ := h
    refine ⟨_, pss_one (ps_ost (pv 0) (pv 1)), ?_⟩
    exact ⟨_, rfl, _, rfl, a, C, rfl, T, n, .inl ⟨ha, fun dx h1 h2 => k _ ⟨dx, upd_same, (upd_ne h2).trans upd_same⟩ fun b o hb hn => (upd_ne hn).trans ((upd_ne (ne_of_none hb h1)).trans hb)⟩⟩
theorem sc_told9 : FnScope ["self"] ["self"] (defScope s_told9) := ⟨rfl, rfl, rfl, by decide +kernel, rfl, by decide +kernel, by decide +kernel⟩
theorem ok_told9 {f : Addr} {fd : FuncData} (F : Fun K "told" "NoReduction.told" s_told9 f fd) : FnOk P w K mg base CX0 1 f fd ["self"] (spTold (("refused " : Str) ++ nm 9)) := by
  refine F.ok sc_told9 (fun vs H Q E h => ?_) (fun cdv A outer s H vs Q E hr h => ?_)
  · obtain ⟨x, rfl, _⟩ := h
    rfl
  · obtain ⟨x, rfl, k⟩ := h
    refine ⟨_, pss_one (ps_ret pe_str), ?_⟩
    exact (show (("refused " : Str) ++ nm 9) = "refused noreduction" from by decide +kernel) ▸ k
theorem sc_init9 : FnScope ["self", "place"] ["self", "place"] (defScope s_init9) := ⟨rfl, rfl, rfl, by decide +kernel, rfl, by decide +kernel, by decide +kernel⟩
theorem ok_init9 {f C : Addr} {fd : FuncData} (F : Fun K "__init__" "NoReduction.__init__" s_init9 f fd) (T : OexC K C) (n : PySem.W.findIn K (.ref C) "place" = some none) : FnOk P w K mg base CX0 1 f fd ["self", "place"] (spE C "place") := by
  refine F.ok sc_init9 (fun vs H Q E h => ?_) (fun cdv A outer s H vs Q E hr h => ?_)
  · obtain ⟨x, y, rfl, _⟩ := h
    rfl
  · obtain ⟨a, y, rfl, ha, k⟩ := h
    refine ⟨_, pss_one (ps_ost (pv 0) (pv 1)), ?_⟩
    exact ⟨_, rfl, _, rfl, a, C, rfl, T, n, .inl ⟨ha, fun dx h1 h2 => k _ ⟨dx, upd_same, (upd_ne h2).trans upd_same⟩ fun b o hb hn => (upd_ne hn).trans ((upd_ne (ne_of_none hb h1)).trans hb)⟩⟩
theorem sc_told10 : FnScope ["self"] ["self"] (defScope s_told10) := ⟨rfl, rfl, rfl, by decide +kernel, rfl, by decide +kernel, by decide +kernel⟩
theorem ok_told10 {f : Addr} {fd : FuncData} (F : Fun K "told" "NoLines.told" s_told10 f fd) : FnOk P w K mg base CX0 1 f fd ["self"] (spTold (("refused " : Str) ++ nm 10)) := by
  refine F.ok sc_told10 (fun vs H Q E h => ?_) (fun cdv A outer s H vs Q E hr h => ?_)
  · obtain ⟨x, rfl, _⟩ := h
    rfl
  · obtain ⟨x, rfl, k⟩ := h
    refine ⟨_, pss_one (ps_ret pe_str), ?_⟩
    exact (show (("refused " : Str) ++ nm 10) = "refused nolines" from by decide +kernel) ▸ k
theorem sc_init10 : FnScope ["self", "place"] ["self", "place"] (defScope s_init10) := ⟨rfl, rfl, rfl, by decide +kernel, rfl, by decide +kernel, by decide +kernel⟩
theorem ok_init10 {f C : Addr} {fd : FuncData} (F : Fun K "__init__" "NoLines.__init__" s_init10 f fd) (T : OexC K C) (n : PySem.W.findIn K (.ref C) "place" = some none) : FnOk P w K mg base CX0 1 f fd ["self", "place"] (spE C "place") := by
  refine F.ok sc_init10 (fun vs H Q E h => ?_) (fun cdv A outer s H vs Q E hr h => ?_)
  · obtain ⟨x, y, rfl, _⟩ := h
    rfl
  · obtain ⟨a, y, rfl, ha, k⟩ := h
    refine ⟨_, pss_one (ps_ost (pv 0) (pv 1)), ?_⟩
    exact ⟨_, rfl, _, rfl, a, C, rfl, T, n, .inl ⟨ha, fun dx h1 h2 => k _ ⟨dx, upd_same, (upd_ne h2).trans upd_same⟩ fun b o hb hn => (upd_ne hn).trans ((upd_ne (ne_of_none hb h1)).trans hb)⟩⟩
theorem sc_told11 : FnScope ["self"] ["self"] (defScope s_told11) := ⟨rfl, rfl, rfl, by decide +kernel, rfl, by decide +kernel, by decide +kernel⟩
theorem ok_told11 {f : Addr} {fd : FuncData} (F : Fun K "told" "NotKnown.told" s_told11 f fd) : FnOk P w K mg base CX0 1 f fd ["self"] (spTold (("refused " : Str) ++ nm 11)) := by
  refine F.ok sc_told11 (fun vs H Q E h => ?_) (fun cdv A outer s H vs Q E hr h => ?_)
  · obtain ⟨x, rfl, _⟩ := h
    rfl
  · obtain ⟨x, rfl, k⟩ := h
    refine ⟨_, pss_one (ps_ret pe_str), ?_⟩
    exact (show (("refused " : Str) ++ nm 11) = "refused notknown" from by decide +kernel) ▸ k
theorem sc_init11 : FnScope ["self", "known"] ["self", "known"] (defScope s_init11) := ⟨rfl, rfl, rfl, by decide +kernel, rfl, by decide +kernel, by decide +kernel⟩
theorem ok_init11 {f C : Addr} {fd : FuncData} (F : Fun K "__init__" "NotKnown.__init__" s_init11 f fd) (T : OexC K C) (n : PySem.W.findIn K (.ref C) "known" = some none) : FnOk P w K mg base CX0 1 f fd ["self", "known"] (spE C "known") := by
  refine F.ok sc_init11 (fun vs H Q E h => ?_) (fun cdv A outer s H vs Q E hr h => ?_)
  · obtain ⟨x, y, rfl, _⟩ := h
    rfl
  · obtain ⟨a, y, rfl, ha, k⟩ := h
    refine ⟨_, pss_one (ps_ost (pv 0) (pv 1)), ?_⟩
    exact ⟨_, rfl, _, rfl, a, C, rfl, T, n, .inl ⟨ha, fun dx h1 h2 => k _ ⟨dx, upd_same, (upd_ne h2).trans upd_same⟩ fun b o hb hn => (upd_ne hn).trans ((upd_ne (ne_of_none hb h1)).trans hb)⟩⟩
theorem sc_told12 : FnScope ["self"] ["self"] (defScope s_told12) := ⟨rfl, rfl, rfl, by decide +kernel, rfl, by decide +kernel, by decide +kernel⟩
theorem ok_told12 {f : Addr} {fd : FuncData} (F : Fun K "told" "NoField.told" s_told12 f fd) : FnOk P w K mg base CX0 1 f fd ["self"] (spTold (("refused " : Str) ++ nm 12)) := by
  refine F.ok sc_told12 (fun vs H Q E h => ?_) (fun cdv A outer s H vs Q E hr h => ?_)
  · obtain ⟨x, rfl, _⟩ := h
    rfl
  · obtain ⟨x, rfl, k⟩ := h
    refine ⟨_, pss_one (ps_ret pe_str), ?_⟩
    exact (show (("refused " : Str) ++ nm 12) = "refused nofield" from by decide +kernel) ▸ k
theorem sc_told13 : FnScope ["self"] ["self"] (defScope s_told13) := ⟨rfl, rfl, rfl, by decide +kernel, rfl, by decide +kernel, by decide +kernel⟩
theorem ok_told13 {f : Addr} {fd : FuncData} (F : Fun K "told" "NoNumber.told" s_told13 f fd) : FnOk P w K mg base CX0 1 f fd ["self"] (spTold (("refused " : Str) ++ nm 13)) := by
  refine F.ok sc_told13 (fun vs H Q E h => ?_) (fun cdv A outer s H vs Q E hr h => ?_)
  · obtain ⟨x, rfl, _⟩ := h
    rfl
  · obtain ⟨x, rfl, k⟩ := h
    refine ⟨_, pss_one (ps_ret pe_str), ?_⟩
    exact (show (("refused " : Str) ++ nm 13) = "refused nonumber" from by decide +kernel) ▸ k
theorem sc_told14 : FnScope ["self"] ["self"] (defScope s_told14) := ⟨rfl, rfl, rfl, by decide +kernel, rfl, by decide +kernel, by decide +kernel⟩
theorem ok_told14 {f : Addr} {fd : FuncData} (F : Fun K "told" "OtherField.told" s_told14 f fd) : FnOk P w K mg base CX0 1 f fd ["self"] (spTold (("refused " : Str) ++ nm 14)) := by
  refine F.ok sc_told14 (fun vs H Q E h => ?_) (fun cdv A outer s H vs Q E hr h => ?_)
  · obtain ⟨x, rfl, _⟩ := h
    rfl
  · obtain ⟨x, rfl, k⟩ := h
    refine ⟨_, pss_one (ps_ret pe_str), ?_⟩
    exact (show (("refused " : Str) ++ nm 14) = "refused otherfield" from by decide +kernel) ▸ k
theorem sc_told15 : FnScope ["self"] ["self"] (defScope s_told15) := ⟨rfl, rfl, rfl, by decide +kernel, rfl, by decide +kernel, by decide +kernel⟩
theorem ok_told15 {f : Addr} {fd : FuncData} (F : Fun K "told" "NoCount.told" s_told15 f fd) : FnOk P w K mg base CX0 1 f fd ["self"] (spTold (("refused " : Str) ++ nm 15)) := by
  refine F.ok sc_told15 (fun vs H Q E h => ?_) (fun cdv A outer s H vs Q E hr h => ?_)
  · obtain ⟨x, rfl, _⟩ := h
    rfl
  · obtain ⟨x, rfl, k⟩ := h
    refine ⟨_, pss_one (ps_ret pe_str), ?_⟩
    exact (show (("refused " : Str) ++ nm 15) = "refused nocount" from by decide +kernel) ▸ k
theorem sc_told16 : FnScope ["self"] ["self"] (defScope s_told16) := ⟨rfl, rfl, rfl, by decide +kernel, rfl, by decide +kernel, by decide +kernel⟩
theorem ok_told16 {f : Addr} {fd : FuncData} (F : Fun K "told" "Full.told" s_told16 f fd) : FnOk P w K mg base CX0 1 f fd ["self"] (spTold (("refused " : Str) ++ nm 16)) := by
  refine F.ok sc_told16 (fun vs H Q E h => ?_) (fun cdv A outer s H vs Q E hr h => ?_)
  · obtain ⟨x, rfl, _⟩ := h
    rfl
  · obtain ⟨x, rfl, k⟩ := h
    refine ⟨_, pss_one (ps_ret pe_str), ?_⟩
    exact (show (("refused " : Str) ++ nm 16) = "refused full" from by decide +kernel) ▸ k
theorem sc_told17 : FnScope ["self"] ["self"] (defScope s_told17) := ⟨rfl, rfl, rfl, by decide +kernel, rfl, by decide +kernel, by decide +kernel⟩
theorem ok_told17 {f : Addr} {fd : FuncData} (F : Fun K "told" "NoBack.told" s_told17 f fd) : FnOk P w K mg base CX0 1 f fd ["self"] (spTold (("refused " : Str) ++ nm 17)) := by
  refine F.ok sc_told17 (fun vs H Q E h => ?_) (fun cdv A outer s H vs Q E hr h => ?_)
  · obtain ⟨x, rfl, _⟩ := h
    rfl
  · obtain ⟨x, rfl, k⟩ := h
    refine ⟨_, pss_one (ps_ret pe_str), ?_⟩
    exact (show (("refused " : Str) ++ nm 17) = "refused noback" from by decide +kernel) ▸ k
theorem sc_told18 : FnScope ["self"] ["self"] (defScope s_told18) := ⟨rfl, rfl, rfl, by decide +kernel, rfl, by decide +kernel, by decide +kernel⟩
theorem ok_told18 {f : Addr} {fd : FuncData} (F : Fun K "told" "NoLine.told" s_told18 f fd) : FnOk P w K mg base CX0 1 f fd ["self"] (spTold (("refused " : Str) ++ nm 18)) := by
  refine F.ok sc_told18 (fun vs H Q E h => ?_) (fun cdv A outer s H vs Q E hr h => ?_)
  · obtain ⟨x, rfl, _⟩ := h
    rfl
  · obtain ⟨x, rfl, k⟩ := h
    refine ⟨_, pss_one (ps_ret pe_str), ?_⟩
    exact (show (("refused " : Str) ++ nm 18) = "refused noline" from by decide +kernel) ▸ k
theorem sc_told19 : FnScope ["self"] ["self"] (defScope s_told19) := ⟨rfl, rfl, rfl, by decide +kernel, rfl, by decide +kernel, by decide +kernel⟩
theorem ok_told19 {f : Addr} {fd : FuncData} (F : Fun K "told" "NoUndo.told" s_told19 f fd) : FnOk P w K mg base CX0 1 f fd ["self"] (spTold (("refused " : Str) ++ nm 19)) := by
  refine F.ok sc_told19 (fun vs H Q E h => ?_) (fun cdv A outer s H vs Q E hr h => ?_)
  · obtain ⟨x, rfl, _⟩ := h
    rfl
  · obtain ⟨x, rfl, k⟩ := h
    refine ⟨_, pss_one (ps_ret pe_str), ?_⟩
    exact (show (("refused " : Str) ++ nm 19) = "refused noundo" from by decide +kernel) ▸ k
theorem sc_told20 : FnScope ["self"] ["self"] (defScope s_told20) := ⟨rfl, rfl, rfl, by decide +kernel, rfl, by decide +kernel, by decide +kernel⟩
theorem ok_told20 {f : Addr} {fd : FuncData} (F : Fun K "told" "NoRedo.told" s_told20 f fd) : FnOk P w K mg base CX0 1 f fd ["self"] (spTold (("refused " : Str) ++ nm 20)) := by
  refine F.ok sc_told20 (fun vs H Q E h => ?_) (fun cdv A outer s H vs Q E hr h => ?_)
  · obtain ⟨x, rfl, _⟩ := h
    rfl
  · obtain ⟨x, rfl, k⟩ := h
    refine ⟨_, pss_one (ps_ret pe_str), ?_⟩
    exact (show (("refused " : Str) ++ nm 20) = "refused noredo" from by decide +kernel) ▸ k
theorem sc_told21 : FnScope ["self"] ["self"] (defScope s_told21) := ⟨rfl, rfl, rfl, by decide +kernel, rfl, by decide +kernel, by decide +kernel⟩
theorem ok_told21 {f : Addr} {fd : FuncData} (F : Fun K "told" "SeriesError.told" s_told21 f fd) : FnOk P w K mg base CX0 1 f fd ["self"] (spTold (("refused " : Str) ++ nm 21)) := by
  refine F.ok sc_told21 (fun vs H Q E h => ?_) (fun cdv A outer s H vs Q E hr h => ?_)
  · obtain ⟨x, rfl, _⟩ := h
    rfl
  · obtain ⟨x, rfl, k⟩ := h
    refine ⟨_, pss_one (ps_ret pe_str), ?_⟩
    exact (show (("refused " : Str) ++ nm 21) = "refused serieserror" from by decide +kernel) ▸ k
theorem sc_more : FnScope ["_law_error", "_law_found"] ["_law_error"] (defScope s_more) := ⟨rfl, rfl, rfl, by decide +kernel, rfl, by decide +kernel, by decide +kernel⟩
theorem ok_more {f : Addr} {fd : FuncData} (F : Fun K "_law_more_names" "_law_more_names" s_more f fd) (E : ECx K mg C) : FnOk P w K mg base CX0 1 f fd ["_law_error"] (spMore C) := by
  refine F.ok sc_more (fun vs H Q E h => ?_) (fun cdv A outer s H vs Q E' hr h => ?_)
  · obtain ⟨x, i, rfl, _⟩ := h
    rfl
  · obtain ⟨a, i, rfl, hi, he, k⟩ := h
    refine ⟨_, (pss_cons (ps_set (i := 1) sc_more.nd rfl (Or.inl rfl) (pe_lst pa_nil))
      (C8.pss_cut (ps_if (pt_val (pe_callB call_isV (by rfl) E.b_isinstance (by decide +kernel) (pa_cons (pv 0) (pa_cons (pe_glob (v := .ref (C 11)) rfl E.m11 rfl) pa_nil))))
        (pss_one (ps_expr (pe_bm PySem.F.plainAttrs_list PySem.F.slot_list_append PySem.F.type_list_append mt_append (pv 1) (pa_cons pe_str pa_nil))))
        pss_nil)
      (C8.pss_cut (ps_if (pt_val (pe_callB call_isV (by rfl) E.b_isinstance (by decide +kernel) (pa_cons (pv 0) (pa_cons (pe_glob (v := .ref (C 12)) rfl E.m12 rfl) pa_nil))))
        (pss_one (ps_expr (pe_bm PySem.F.plainAttrs_list PySem.F.slot_list_append PySem.F.type_list_append mt_append (pv 1) (pa_cons pe_str pa_nil))))
        pss_nil)
      (C8.pss_cut (ps_if (pt_val (pe_callB call_isV (by rfl) E.b_isinstance (by decide +kernel) (pa_cons (pv 0) (pa_cons (pe_glob (v := .ref (C 13)) rfl E.m13 rfl) pa_nil))))
        (pss_one (ps_expr (pe_bm PySem.F.plainAttrs_list PySem.F.slot_list_append PySem.F.type_list_append mt_append (pv 1) (pa_cons pe_str pa_nil))))
        pss_nil)
      (C8.pss_cut (ps_if (pt_val (pe_callB call_isV (by rfl) E.b_isinstance (by decide +kernel) (pa_cons (pv 0) (pa_cons (pe_glob (v := .ref (C 14)) rfl E.m14 rfl) pa_nil))))
        (pss_one (ps_expr (pe_bm PySem.F.plainAttrs_list PySem.F.slot_list_append PySem.F.type_list_append mt_append (pv 1) (pa_cons pe_str pa_nil))))
        pss_nil)
      (C8.pss_cut (ps_if (pt_val (pe_callB call_isV (by rfl) E.b_isinstance (by decide +kernel) (pa_cons (pv 0) (pa_cons (pe_glob (v := .ref (C 15)) rfl E.m15 rfl) pa_nil))))
        (pss_one (ps_expr (pe_bm PySem.F.plainAttrs_list PySem.F.slot_list_append PySem.F.type_list_append mt_append (pv 1) (pa_cons pe_str pa_nil))))
        pss_nil)
      (C8.pss_cut (ps_if (pt_val (pe_callB call_isV (by rfl) E.b_isinstance (by decide +kernel) (pa_cons (pv 0) (pa_cons (pe_glob (v := .ref (C 16)) rfl E.m16 rfl) pa_nil))))
        (pss_one (ps_expr (pe_bm PySem.F.plainAttrs_list PySem.F.slot_list_append PySem.F.type_list_append mt_append (pv 1) (pa_cons pe_str pa_nil))))
        pss_nil)
      (C8.pss_cut (ps_if (pt_val (pe_callB call_isV (by rfl) E.b_isinstance (by decide +kernel) (pa_cons (pv 0) (pa_cons (pe_glob (v := .ref (C 17)) rfl E.m17 rfl) pa_nil))))
        (pss_one (ps_expr (pe_bm PySem.F.plainAttrs_list PySem.F.slot_list_append PySem.F.type_list_append mt_append (pv 1) (pa_cons pe_str pa_nil))))
        pss_nil)
      (C8.pss_cut (ps_if (pt_val (pe_callB call_isV (by rfl) E.b_isinstance (by decide +kernel) (pa_cons (pv 0) (pa_cons (pe_glob (v := .ref (C 18)) rfl E.m18 rfl) pa_nil))))
        (pss_one (ps_expr (pe_bm PySem.F.plainAttrs_list PySem.F.slot_list_append PySem.F.type_list_append mt_append (pv 1) (pa_cons pe_str pa_nil))))
        pss_nil)
      (C8.pss_cut (ps_if (pt_val (pe_callB call_isV (by rfl) E.b_isinstance (by decide +kernel) (pa_cons (pv 0) (pa_cons (pe_glob (v := .ref (C 19)) rfl E.m19 rfl) pa_nil))))
        (pss_one (ps_expr (pe_bm PySem.F.plainAttrs_list PySem.F.slot_list_append PySem.F.type_list_append mt_append (pv 1) (pa_cons pe_str pa_nil))))
        pss_nil)
      (C8.pss_cut (ps_if (pt_val (pe_callB call_isV (by rfl) E.b_isinstance (by decide +kernel) (pa_cons (pv 0) (pa_cons (pe_glob (v := .ref (C 20)) rfl E.m20 rfl) pa_nil))))
        (pss_one (ps_expr (pe_bm PySem.F.plainAttrs_list PySem.F.slot_list_append PySem.F.type_list_append mt_append (pv 1) (pa_cons pe_str pa_nil))))
        pss_nil)
      (pss_one (ps_ret (pv 1)))))))))))))), ?_⟩
    refine ⟨Nat.zero_le _, fun q hq => ?_⟩
    have s0 : Same H (upd H q (.lst [])) := fun c u h => (upd_ne (ne_of_none h hq)).trans h
    refine ⟨fun σ H' => σ = [some (.ref a), some (.ref q)] ∧ H' q = some (.lst (acc i 11 12)) ∧ Same H H', ?_, ?_⟩
    · refine ⟨_, rfl, a, C i, _, _, _, rfl, he.same s0, E.ei i hi, .own _, E.kit i 11 hi (by decide), _, rfl, ?_⟩
      refine ite2 (fun c => ?_) (fun c => ?_)
      · exact ⟨_, rfl, .inl ⟨rfl, _, SqL.of (show upd H q (.lst []) q = some (.lst (acc i 11 11)) from by rw [acc0]; exact upd_same)⟩, q, _, _, rfl, rfl, (show upd H q (.lst []) q = some (.lst (acc i 11 11)) from by rw [acc0]; exact upd_same), Nat.lt_of_le_of_lt (acc_len _ _ _) (by decide), rfl, (by rw [← acc_yes (by decide) (of_decide_eq_true c)]; exact upd_same), same_at s0 hq⟩
      · exact ⟨rfl, (by rw [← acc_no (fun e => c (decide_eq_true e)), acc0]; exact upd_same), s0⟩
    rintro σ H1 ⟨rfl, l1, s1⟩
    refine ⟨fun σ H' => σ = [some (.ref a), some (.ref q)] ∧ H' q = some (.lst (acc i 11 13)) ∧ Same H H', ?_, ?_⟩
    · refine ⟨_, rfl, a, C i, _, _, _, rfl, he.same s1, E.ei i hi, .own _, E.kit i 12 hi (by decide), _, rfl, ?_⟩
      refine ite2 (fun c => ?_) (fun c => ?_)
      · exact ⟨_, rfl, .inl ⟨rfl, _, SqL.of l1⟩, q, _, _, rfl, rfl, l1, Nat.lt_of_le_of_lt (acc_len _ _ _) (by decide), rfl, (by rw [← acc_yes (by decide) (of_decide_eq_true c)]; exact upd_same), same_at s1 hq⟩
      · exact ⟨rfl, (by rw [← acc_no (fun e => c (decide_eq_true e))]; exact l1), s1⟩
    rintro σ H2 ⟨rfl, l2, s2⟩
    refine ⟨fun σ H' => σ = [some (.ref a), some (.ref q)] ∧ H' q = some (.lst (acc i 11 14)) ∧ Same H H', ?_, ?_⟩
    · refine ⟨_, rfl, a, C i, _, _, _, rfl, he.same s2, E.ei i hi, .own _, E.kit i 13 hi (by decide), _, rfl, ?_⟩
      refine ite2 (fun c => ?_) (fun c => ?_)
      · exact ⟨_, rfl, .inl ⟨rfl, _, SqL.of l2⟩, q, _, _, rfl, rfl, l2, Nat.lt_of_le_of_lt (acc_len _ _ _) (by decide), rfl, (by rw [← acc_yes (by decide) (of_decide_eq_true c)]; exact upd_same), same_at s2 hq⟩
      · exact ⟨rfl, (by rw [← acc_no (fun e => c (decide_eq_true e))]; exact l2), s2⟩
    rintro σ H3 ⟨rfl, l3, s3⟩
    refine ⟨fun σ H' => σ = [some (.ref a), some (.ref q)] ∧ H' q = some (.lst (acc i 11 15)) ∧ Same H H', ?_, ?_⟩
    · refine ⟨_, rfl, a, C i, _, _, _, rfl, he.same s3, E.ei i hi, .own _, E.kit i 14 hi (by decide), _, rfl, ?_⟩
      refine ite2 (fun c => ?_) (fun c => ?_)
      · exact ⟨_, rfl, .inl ⟨rfl, _, SqL.of l3⟩, q, _, _, rfl, rfl, l3, Nat.lt_of_le_of_lt (acc_len _ _ _) (by decide), rfl, (by rw [← acc_yes (by decide) (of_decide_eq_true c)]; exact upd_same), same_at s3 hq⟩
      · exact ⟨rfl, (by rw [← acc_no (fun e => c (decide_eq_true e))]; exact l3), s3⟩
    rintro σ H4 ⟨rfl, l4, s4⟩
    refine ⟨fun σ H' => σ = [some (.ref a), some (.ref q)] ∧ H' q = some (.lst (acc i 11 16)) ∧ Same H H', ?_, ?_⟩
    · refine ⟨_, rfl, a, C i, _, _, _, rfl, he.same s4, E.ei i hi, .own _, E.kit i 15 hi (by decide), _, rfl, ?_⟩
      refine ite2 (fun c => ?_) (fun c => ?_)
      · exact ⟨_, rfl, .inl ⟨rfl, _, SqL.of l4⟩, q, _, _, rfl, rfl, l4, Nat.lt_of_le_of_lt (acc_len _ _ _) (by decide), rfl, (by rw [← acc_yes (by decide) (of_decide_eq_true c)]; exact upd_same), same_at s4 hq⟩
      · exact ⟨rfl, (by rw [← acc_no (fun e => c (decide_eq_true e))]; exact l4), s4⟩
    rintro σ H5 ⟨rfl, l5, s5⟩
    refine ⟨fun σ H' => σ = [some (.ref a), some (.ref q)] ∧ H' q = some (.lst (acc i 11 17)) ∧ Same H H', ?_, ?_⟩
    · refine ⟨_, rfl, a, C i, _, _, _, rfl, he.same s5, E.ei i hi, .own _, E.kit i 16 hi (by decide), _, rfl, ?_⟩
      refine ite2 (fun c => ?_) (fun c => ?_)
      · exact ⟨_, rfl, .inl ⟨rfl, _, SqL.of l5⟩, q, _, _, rfl, rfl, l5, Nat.lt_of_le_of_lt (acc_len _ _ _) (by decide), rfl, (by rw [← acc_yes (by decide) (of_decide_eq_true c)]; exact upd_same), same_at s5 hq⟩
      · exact ⟨rfl, (by rw [← acc_no (fun e => c (decide_eq_true e))]; exact l5), s5⟩
    rintro σ H6 ⟨rfl, l6, s6⟩
    refine ⟨fun σ H' => σ = [some (.ref a), some (.ref q)] ∧ H' q = some (.lst (acc i 11 18)) ∧ Same H H', ?_, ?_⟩
    · refine ⟨_, rfl, a, C i, _, _, _, rfl, he.same s6, E.ei i hi, .own _, E.kit i 17 hi (by decide), _, rfl, ?_⟩
      refine ite2 (fun c => ?_) (fun c => ?_)
      · exact ⟨_, rfl, .inl ⟨rfl, _, SqL.of l6⟩, q, _, _, rfl, rfl, l6, Nat.lt_of_le_of_lt (acc_len _ _ _) (by decide), rfl, (by rw [← acc_yes (by decide) (of_decide_eq_true c)]; exact upd_same), same_at s6 hq⟩
      · exact ⟨rfl, (by rw [← acc_no (fun e => c (decide_eq_true e))]; exact l6), s6⟩
    rintro σ H7 ⟨rfl, l7, s7⟩
    refine ⟨fun σ H' => σ = [some (.ref a), some (.ref q)] ∧ H' q = some (.lst (acc i 11 19)) ∧ Same H H', ?_, ?_⟩
    · refine ⟨_, rfl, a, C i, _, _, _, rfl, he.same s7, E.ei i hi, .own _, E.kit i 18 hi (by decide), _, rfl, ?_⟩
      refine ite2 (fun c => ?_) (fun c => ?_)
      · exact ⟨_, rfl, .inl ⟨rfl, _, SqL.of l7⟩, q, _, _, rfl, rfl, l7, Nat.lt_of_le_of_lt (acc_len _ _ _) (by decide), rfl, (by rw [← acc_yes (by decide) (of_decide_eq_true c)]; exact upd_same), same_at s7 hq⟩
      · exact ⟨rfl, (by rw [← acc_no (fun e => c (decide_eq_true e))]; exact l7), s7⟩
    rintro σ H8 ⟨rfl, l8, s8⟩
    refine ⟨fun σ H' => σ = [some (.ref a), some (.ref q)] ∧ H' q = some (.lst (acc i 11 20)) ∧ Same H H', ?_, ?_⟩
    · refine ⟨_, rfl, a, C i, _, _, _, rfl, he.same s8, E.ei i hi, .own _, E.kit i 19 hi (by decide), _, rfl, ?_⟩
      refine ite2 (fun c => ?_) (fun c => ?_)
      · exact ⟨_, rfl, .inl ⟨rfl, _, SqL.of l8⟩, q, _, _, rfl, rfl, l8, Nat.lt_of_le_of_lt (acc_len _ _ _) (by decide), rfl, (by rw [← acc_yes (by decide) (of_decide_eq_true c)]; exact upd_same), same_at s8 hq⟩
      · exact ⟨rfl, (by rw [← acc_no (fun e => c (decide_eq_true e))]; exact l8), s8⟩
    rintro σ H9 ⟨rfl, l9, s9⟩
    refine ⟨fun σ H' => σ = [some (.ref a), some (.ref q)] ∧ H' q = some (.lst (acc i 11 21)) ∧ Same H H', ?_, ?_⟩
    · refine ⟨_, rfl, a, C i, _, _, _, rfl, he.same s9, E.ei i hi, .own _, E.kit i 20 hi (by decide), _, rfl, ?_⟩
      refine ite2 (fun c => ?_) (fun c => ?_)
      · exact ⟨_, rfl, .inl ⟨rfl, _, SqL.of l9⟩, q, _, _, rfl, rfl, l9, Nat.lt_of_le_of_lt (acc_len _ _ _) (by decide), rfl, (by rw [← acc_yes (by decide) (of_decide_eq_true c)]; exact upd_same), same_at s9 hq⟩
      · exact ⟨rfl, (by rw [← acc_no (fun e => c (decide_eq_true e))]; exact l9), s9⟩
    rintro σ H10 ⟨rfl, l10, s10⟩
    exact ⟨_, rfl, k q _ hq l10 s10⟩
end
end Sq

namespace Sq
open PySem L2 PyProof.Rows
theorem iteD {c : Prop} [Decidable c] {a b : Prop} (h : c) (x : a) : ite c a b := by
  rw [if_pos h]
  exact x
theorem iteDn {c : Prop} [Decidable c] {a b : Prop} (h : ¬ c) (x : b) : ite c a b := by
  rw [if_neg h]
  exact x
def fld (n : Nat) (wd : Str) (pl : Int) : V := if n < 5 then .str wd else if n < 12 then .int pl else .non
def spMade (C : Nat → Addr) : Sp := fun vs H Q _ => ∃ (n : Nat) (wd : Str) (pl : Int), vs = [.int ((n : Nat) : Int), .str wd, .int pl] ∧ n < 21 ∧ ∀ p a H', H' p = some (.tup [.ref a, .str (nm n), fld n wd pl]) → ErrAt H' a (C n) → Same H H' → Q (.ref p) H'
section
variable {P : Program} {w : World} {K : PySem.W.Frag} {mg : Str → Option Value} {base : Heap} {C : Nat → Addr}
theorem sc_names : FnScope ["_law_error", "_law_found"] ["_law_error"] (defScope s_names) := ⟨rfl, rfl, rfl, by decide +kernel, rfl, by decide +kernel, by decide +kernel⟩
theorem ok_names {f fmore : Addr} {fd fdmore : FuncData} (F : Fun K "_law_names" "_law_names" s_names f fd) (E : ECx K mg C) (G_more : FnOk P w K mg base CX0 1 fmore fdmore ["_law_error"] (spMore C)) (b_more : Binds K fdmore ["_law_error"] []) (m_more : mg "_law_more_names" = some (.ref fmore)) (k_more : PySem.W.keepIn K (.ref fmore) = true) : FnOk P w K mg base CX0 2 f fd ["_law_error"] (spNames C) := by
  refine F.ok sc_names (fun vs H Q E h => ?_) (fun cdv A outer s H vs Q E' hr h => ?_)
  · obtain ⟨x, i, rfl, _⟩ := h
    rfl
  · obtain ⟨a, i, rfl, hi, he, k⟩ := h
    refine ⟨_, (pss_cons (ps_set (i := 1) sc_names.nd rfl (Or.inl rfl) (pe_lst pa_nil))
      (C8.pss_cut (ps_if (pt_val (pe_callB call_isV (by rfl) E.b_isinstance (by decide +kernel) (pa_cons (pv 0) (pa_cons (pe_glob (v := .ref (C 0)) rfl E.m0 rfl) pa_nil))))
        (pss_one (ps_expr (pe_bm PySem.F.plainAttrs_list PySem.F.slot_list_append PySem.F.type_list_append mt_append (pv 1) (pa_cons pe_str pa_nil))))
        pss_nil)
      (C8.pss_cut (ps_if (pt_val (pe_callB call_isV (by rfl) E.b_isinstance (by decide +kernel) (pa_cons (pv 0) (pa_cons (pe_glob (v := .ref (C 1)) rfl E.m1 rfl) pa_nil))))
        (pss_one (ps_expr (pe_bm PySem.F.plainAttrs_list PySem.F.slot_list_append PySem.F.type_list_append mt_append (pv 1) (pa_cons pe_str pa_nil))))
        pss_nil)
      (C8.pss_cut (ps_if (pt_val (pe_callB call_isV (by rfl) E.b_isinstance (by decide +kernel) (pa_cons (pv 0) (pa_cons (pe_glob (v := .ref (C 2)) rfl E.m2 rfl) pa_nil))))
        (pss_one (ps_expr (pe_bm PySem.F.plainAttrs_list PySem.F.slot_list_append PySem.F.type_list_append mt_append (pv 1) (pa_cons pe_str pa_nil))))
        pss_nil)
      (C8.pss_cut (ps_if (pt_val (pe_callB call_isV (by rfl) E.b_isinstance (by decide +kernel) (pa_cons (pv 0) (pa_cons (pe_glob (v := .ref (C 3)) rfl E.m3 rfl) pa_nil))))
        (pss_one (ps_expr (pe_bm PySem.F.plainAttrs_list PySem.F.slot_list_append PySem.F.type_list_append mt_append (pv 1) (pa_cons pe_str pa_nil))))
        pss_nil)
      (C8.pss_cut (ps_if (pt_val (pe_callB call_isV (by rfl) E.b_isinstance (by decide +kernel) (pa_cons (pv 0) (pa_cons (pe_glob (v := .ref (C 4)) rfl E.m4 rfl) pa_nil))))
        (pss_one (ps_expr (pe_bm PySem.F.plainAttrs_list PySem.F.slot_list_append PySem.F.type_list_append mt_append (pv 1) (pa_cons pe_str pa_nil))))
        pss_nil)
      (C8.pss_cut (ps_if (pt_val (pe_callB call_isV (by rfl) E.b_isinstance (by decide +kernel) (pa_cons (pv 0) (pa_cons (pe_glob (v := .ref (C 5)) rfl E.m5 rfl) pa_nil))))
        (pss_one (ps_expr (pe_bm PySem.F.plainAttrs_list PySem.F.slot_list_append PySem.F.type_list_append mt_append (pv 1) (pa_cons pe_str pa_nil))))
        pss_nil)
      (C8.pss_cut (ps_if (pt_val (pe_callB call_isV (by rfl) E.b_isinstance (by decide +kernel) (pa_cons (pv 0) (pa_cons (pe_glob (v := .ref (C 6)) rfl E.m6 rfl) pa_nil))))
        (pss_one (ps_expr (pe_bm PySem.F.plainAttrs_list PySem.F.slot_list_append PySem.F.type_list_append mt_append (pv 1) (pa_cons pe_str pa_nil))))
        pss_nil)
      (C8.pss_cut (ps_if (pt_val (pe_callB call_isV (by rfl) E.b_isinstance (by decide +kernel) (pa_cons (pv 0) (pa_cons (pe_glob (v := .ref (C 7)) rfl E.m7 rfl) pa_nil))))
        (pss_one (ps_expr (pe_bm PySem.F.plainAttrs_list PySem.F.slot_list_append PySem.F.type_list_append mt_append (pv 1) (pa_cons pe_str pa_nil))))
        pss_nil)
      (C8.pss_cut (ps_if (pt_val (pe_callB call_isV (by rfl) E.b_isinstance (by decide +kernel) (pa_cons (pv 0) (pa_cons (pe_glob (v := .ref (C 8)) rfl E.m8 rfl) pa_nil))))
        (pss_one (ps_expr (pe_bm PySem.F.plainAttrs_list PySem.F.slot_list_append PySem.F.type_list_append mt_append (pv 1) (pa_cons pe_str pa_nil))))
        pss_nil)
      (C8.pss_cut (ps_if (pt_val (pe_callB call_isV (by rfl) E.b_isinstance (by decide +kernel) (pa_cons (pv 0) (pa_cons (pe_glob (v := .ref (C 9)) rfl E.m9 rfl) pa_nil))))
        (pss_one (ps_expr (pe_bm PySem.F.plainAttrs_list PySem.F.slot_list_append PySem.F.type_list_append mt_append (pv 1) (pa_cons pe_str pa_nil))))
        pss_nil)
      (C8.pss_cut (ps_if (pt_val (pe_callB call_isV (by rfl) E.b_isinstance (by decide +kernel) (pa_cons (pv 0) (pa_cons (pe_glob (v := .ref (C 10)) rfl E.m10 rfl) pa_nil))))
        (pss_one (ps_expr (pe_bm PySem.F.plainAttrs_list PySem.F.slot_list_append PySem.F.type_list_append mt_append (pv 1) (pa_cons pe_str pa_nil))))
        pss_nil)
      (pss_one (ps_ret (pe_op op_cat (pv 1) (pe_call G_more (hr.mono (by decide)) rfl m_more k_more b_more .nil pass0 (pa_cons (pv 0) pa_nil))))))))))))))))), ?_⟩
    refine ⟨Nat.zero_le _, fun q hq => ?_⟩
    have s0 : Same H (upd H q (.lst [])) := fun c u h => (upd_ne (ne_of_none h hq)).trans h
    refine ⟨fun σ H' => σ = [some (.ref a), some (.ref q)] ∧ H' q = some (.lst (acc i 0 1)) ∧ Same H H', ?_, ?_⟩
    · refine ⟨_, rfl, a, C i, _, _, _, rfl, he.same s0, E.ei i hi, .own _, E.kit i 0 hi (by decide), _, rfl, ?_⟩
      refine ite2 (fun c => ?_) (fun c => ?_)
      · exact ⟨_, rfl, .inl ⟨rfl, _, SqL.of (show upd H q (.lst []) q = some (.lst (acc i 0 0)) from by rw [acc0]; exact upd_same)⟩, q, _, _, rfl, rfl, (show upd H q (.lst []) q = some (.lst (acc i 0 0)) from by rw [acc0]; exact upd_same), Nat.lt_of_le_of_lt (acc_len _ _ _) (by decide), rfl, (by rw [← acc_yes (by decide) (of_decide_eq_true c)]; exact upd_same), same_at s0 hq⟩
      · exact ⟨rfl, (by rw [← acc_no (fun e => c (decide_eq_true e)), acc0]; exact upd_same), s0⟩
    rintro σ H1 ⟨rfl, l1, s1⟩
    refine ⟨fun σ H' => σ = [some (.ref a), some (.ref q)] ∧ H' q = some (.lst (acc i 0 2)) ∧ Same H H', ?_, ?_⟩
    · refine ⟨_, rfl, a, C i, _, _, _, rfl, he.same s1, E.ei i hi, .own _, E.kit i 1 hi (by decide), _, rfl, ?_⟩
      refine ite2 (fun c => ?_) (fun c => ?_)
      · exact ⟨_, rfl, .inl ⟨rfl, _, SqL.of l1⟩, q, _, _, rfl, rfl, l1, Nat.lt_of_le_of_lt (acc_len _ _ _) (by decide), rfl, (by rw [← acc_yes (by decide) (of_decide_eq_true c)]; exact upd_same), same_at s1 hq⟩
      · exact ⟨rfl, (by rw [← acc_no (fun e => c (decide_eq_true e))]; exact l1), s1⟩
    rintro σ H2 ⟨rfl, l2, s2⟩
    refine ⟨fun σ H' => σ = [some (.ref a), some (.ref q)] ∧ H' q = some (.lst (acc i 0 3)) ∧ Same H H', ?_, ?_⟩
    · refine ⟨_, rfl, a, C i, _, _, _, rfl, he.same s2, E.ei i hi, .own _, E.kit i 2 hi (by decide), _, rfl, ?_⟩
      refine ite2 (fun c => ?_) (fun c => ?_)
      · exact ⟨_, rfl, .inl ⟨rfl, _, SqL.of l2⟩, q, _, _, rfl, rfl, l2, Nat.lt_of_le_of_lt (acc_len _ _ _) (by decide), rfl, (by rw [← acc_yes (by decide) (of_decide_eq_true c)]; exact upd_same), same_at s2 hq⟩
      · exact ⟨rfl, (by rw [← acc_no (fun e => c (decide_eq_true e))]; exact l2), s2⟩
    rintro σ H3 ⟨rfl, l3, s3⟩
    refine ⟨fun σ H' => σ = [some (.ref a), some (.ref q)] ∧ H' q = some (.lst (acc i 0 4)) ∧ Same H H', ?_, ?_⟩
    · refine ⟨_, rfl, a, C i, _, _, _, rfl, he.same s3, E.ei i hi, .own _, E.kit i 3 hi (by decide), _, rfl, ?_⟩
      refine ite2 (fun c => ?_) (fun c => ?_)
      · exact ⟨_, rfl, .inl ⟨rfl, _, SqL.of l3⟩, q, _, _, rfl, rfl, l3, Nat.lt_of_le_of_lt (acc_len _ _ _) (by decide), rfl, (by rw [← acc_yes (by decide) (of_decide_eq_true c)]; exact upd_same), same_at s3 hq⟩
      · exact ⟨rfl, (by rw [← acc_no (fun e => c (decide_eq_true e))]; exact l3), s3⟩
    rintro σ H4 ⟨rfl, l4, s4⟩
    refine ⟨fun σ H' => σ = [some (.ref a), some (.ref q)] ∧ H' q = some (.lst (acc i 0 5)) ∧ Same H H', ?_, ?_⟩
    · refine ⟨_, rfl, a, C i, _, _, _, rfl, he.same s4, E.ei i hi, .own _, E.kit i 4 hi (by decide), _, rfl, ?_⟩
      refine ite2 (fun c => ?_) (fun c => ?_)
      · exact ⟨_, rfl, .inl ⟨rfl, _, SqL.of l4⟩, q, _, _, rfl, rfl, l4, Nat.lt_of_le_of_lt (acc_len _ _ _) (by decide), rfl, (by rw [← acc_yes (by decide) (of_decide_eq_true c)]; exact upd_same), same_at s4 hq⟩
      · exact ⟨rfl, (by rw [← acc_no (fun e => c (decide_eq_true e))]; exact l4), s4⟩
    rintro σ H5 ⟨rfl, l5, s5⟩
    refine ⟨fun σ H' => σ = [some (.ref a), some (.ref q)] ∧ H' q = some (.lst (acc i 0 6)) ∧ Same H H', ?_, ?_⟩
    · refine ⟨_, rfl, a, C i, _, _, _, rfl, he.same s5, E.ei i hi, .own _, E.kit i 5 hi (by decide), _, rfl, ?_⟩
      refine ite2 (fun c => ?_) (fun c => ?_)
      · exact ⟨_, rfl, .inl ⟨rfl, _, SqL.of l5⟩, q, _, _, rfl, rfl, l5, Nat.lt_of_le_of_lt (acc_len _ _ _) (by decide), rfl, (by rw [← acc_yes (by decide) (of_decide_eq_true c)]; exact upd_same), same_at s5 hq⟩
      · exact ⟨rfl, (by rw [← acc_no (fun e => c (decide_eq_true e))]; exact l5), s5⟩
    rintro σ H6 ⟨rfl, l6, s6⟩
    refine ⟨fun σ H' => σ = [some (.ref a), some (.ref q)] ∧ H' q = some (.lst (acc i 0 7)) ∧ Same H H', ?_, ?_⟩
    · refine ⟨_, rfl, a, C i, _, _, _, rfl, he.same s6, E.ei i hi, .own _, E.kit i 6 hi (by decide), _, rfl, ?_⟩
      refine ite2 (fun c => ?_) (fun c => ?_)
      · exact ⟨_, rfl, .inl ⟨rfl, _, SqL.of l6⟩, q, _, _, rfl, rfl, l6, Nat.lt_of_le_of_lt (acc_len _ _ _) (by decide), rfl, (by rw [← acc_yes (by decide) (of_decide_eq_true c)]; exact upd_same), same_at s6 hq⟩
      · exact ⟨rfl, (by rw [← acc_no (fun e => c (decide_eq_true e))]; exact l6), s6⟩
    rintro σ H7 ⟨rfl, l7, s7⟩
    refine ⟨fun σ H' => σ = [some (.ref a), some (.ref q)] ∧ H' q = some (.lst (acc i 0 8)) ∧ Same H H', ?_, ?_⟩
    · refine ⟨_, rfl, a, C i, _, _, _, rfl, he.same s7, E.ei i hi, .own _, E.kit i 7 hi (by decide), _, rfl, ?_⟩
      refine ite2 (fun c => ?_) (fun c => ?_)
      · exact ⟨_, rfl, .inl ⟨rfl, _, SqL.of l7⟩, q, _, _, rfl, rfl, l7, Nat.lt_of_le_of_lt (acc_len _ _ _) (by decide), rfl, (by rw [← acc_yes (by decide) (of_decide_eq_true c)]; exact upd_same), same_at s7 hq⟩
      · exact ⟨rfl, (by rw [← acc_no (fun e => c (decide_eq_true e))]; exact l7), s7⟩
    rintro σ H8 ⟨rfl, l8, s8⟩
    refine ⟨fun σ H' => σ = [some (.ref a), some (.ref q)] ∧ H' q = some (.lst (acc i 0 9)) ∧ Same H H', ?_, ?_⟩
    · refine ⟨_, rfl, a, C i, _, _, _, rfl, he.same s8, E.ei i hi, .own _, E.kit i 8 hi (by decide), _, rfl, ?_⟩
      refine ite2 (fun c => ?_) (fun c => ?_)
      · exact ⟨_, rfl, .inl ⟨rfl, _, SqL.of l8⟩, q, _, _, rfl, rfl, l8, Nat.lt_of_le_of_lt (acc_len _ _ _) (by decide), rfl, (by rw [← acc_yes (by decide) (of_decide_eq_true c)]; exact upd_same), same_at s8 hq⟩
      · exact ⟨rfl, (by rw [← acc_no (fun e => c (decide_eq_true e))]; exact l8), s8⟩
    rintro σ H9 ⟨rfl, l9, s9⟩
    refine ⟨fun σ H' => σ = [some (.ref a), some (.ref q)] ∧ H' q = some (.lst (acc i 0 10)) ∧ Same H H', ?_, ?_⟩
    · refine ⟨_, rfl, a, C i, _, _, _, rfl, he.same s9, E.ei i hi, .own _, E.kit i 9 hi (by decide), _, rfl, ?_⟩
      refine ite2 (fun c => ?_) (fun c => ?_)
      · exact ⟨_, rfl, .inl ⟨rfl, _, SqL.of l9⟩, q, _, _, rfl, rfl, l9, Nat.lt_of_le_of_lt (acc_len _ _ _) (by decide), rfl, (by rw [← acc_yes (by decide) (of_decide_eq_true c)]; exact upd_same), same_at s9 hq⟩
      · exact ⟨rfl, (by rw [← acc_no (fun e => c (decide_eq_true e))]; exact l9), s9⟩
    rintro σ H10 ⟨rfl, l10, s10⟩
    refine ⟨fun σ H' => σ = [some (.ref a), some (.ref q)] ∧ H' q = some (.lst (acc i 0 11)) ∧ Same H H', ?_, ?_⟩
    · refine ⟨_, rfl, a, C i, _, _, _, rfl, he.same s10, E.ei i hi, .own _, E.kit i 10 hi (by decide), _, rfl, ?_⟩
      refine ite2 (fun c => ?_) (fun c => ?_)
      · exact ⟨_, rfl, .inl ⟨rfl, _, SqL.of l10⟩, q, _, _, rfl, rfl, l10, Nat.lt_of_le_of_lt (acc_len _ _ _) (by decide), rfl, (by rw [← acc_yes (by decide) (of_decide_eq_true c)]; exact upd_same), same_at s10 hq⟩
      · exact ⟨rfl, (by rw [← acc_no (fun e => c (decide_eq_true e))]; exact l10), s10⟩
    rintro σ H11 ⟨rfl, l11, s11⟩
    refine ⟨_, rfl, _, rfl, a, i, rfl, hi, he.same s11, fun q2 H12 _ l12 s12 => ⟨q, q2, _, _, rfl, rfl, s12 _ _ l11, l12, ?_, fun p hp => ?_⟩⟩
    · have h1 := acc_len i 0 11
      have h2 := acc_len i 11 21
      rw [sizeLine_eq]
      omega
    · exact k p _ (by rw [acc_cat i hi]; exact upd_same) (same_new (s11.trans s12) hp)
theorem sc_made : FnScope ["_law_number", "_law_word", "_law_place", "_law_made_here", "_law_names_here"] ["_law_number", "_law_word", "_law_place"] (defScope s_made) := ⟨rfl, rfl, rfl, by decide +kernel, rfl, by decide +kernel, by decide +kernel⟩
theorem ok_made {f : Addr} {fd : FuncData} (F : Fun K "_law_made" "_law_made" s_made f fd) (E : ECx K mg C) (N : NCx P w K mg base C) : FnOk P w K mg base CX0 3 f fd ["_law_number", "_law_word", "_law_place"] (spMade C) := by
  refine F.ok sc_made (fun vs H Q E h => ?_) (fun cdv A outer s H vs Q E' hr h => ?_)
  · obtain ⟨x, y, z, rfl, _⟩ := h
    rfl
  · obtain ⟨n, wd, pl, rfl, hn, k⟩ := h
    refine ⟨_, (pss_cons (ps_if (pt_cmpR op_lt (pv 0) pe_int (nomark _))
        (pss_cons (ps_set (i := 3) sc_made.nd rfl (Or.inl rfl) (pe_ix ix_list (pe_lst (pa_cons (pe_newE (N.i0) (hr.mono (by decide)) rfl E.m0 (pa_cons (pv 1) pa_nil)) (pa_cons (pe_newE (N.i1) (hr.mono (by decide)) rfl E.m1 (pa_cons (pv 1) pa_nil)) (pa_cons (pe_newE (N.i2) (hr.mono (by decide)) rfl E.m2 (pa_cons (pv 1) pa_nil)) (pa_cons (pe_newE (N.i3) (hr.mono (by decide)) rfl E.m3 (pa_cons (pv 1) pa_nil)) (pa_cons (pe_newE (N.i4) (hr.mono (by decide)) rfl E.m4 (pa_cons (pv 1) pa_nil)) pa_nil)))))) (pv 0) (fun _ _ => rfl)))
      (pss_one (ps_ret (pe_tup (pa_cons (pv 3) (pa_cons (pe_ix ix_list (pe_lst (pa_cons pe_str (pa_cons pe_str (pa_cons pe_str (pa_cons pe_str (pa_cons pe_str pa_nil)))))) (pv 0) (fun _ _ => rfl)) (pa_cons (pe_erf (pv 3)) pa_nil)))))))
        pss_nil)
      (pss_cons (ps_if (pt_cmpR op_lt (pv 0) pe_int (nomark _))
        (pss_cons (ps_set (i := 3) sc_made.nd rfl (Or.inl rfl) (pe_lst (pa_cons (pe_newE (N.i5) (hr.mono (by decide)) rfl E.m5 (pa_cons (pv 2) pa_nil)) (pa_cons (pe_newE (N.i6) (hr.mono (by decide)) rfl E.m6 (pa_cons (pv 2) pa_nil)) (pa_cons (pe_newE (N.i7) (hr.mono (by decide)) rfl E.m7 (pa_cons (pv 2) pa_nil)) (pa_cons (pe_newE (N.i8) (hr.mono (by decide)) rfl E.m8 (pa_cons (pv 2) pa_nil)) (pa_cons (pe_newE (N.i9) (hr.mono (by decide)) rfl E.m9 (pa_cons (pv 2) pa_nil)) (pa_cons (pe_newE (N.i10) (hr.mono (by decide)) rfl E.m10 (pa_cons (pv 2) pa_nil)) pa_nil))))))))
      (pss_cons (ps_set (i := 4) sc_made.nd rfl (Or.inl rfl) (pe_lst (pa_cons pe_str (pa_cons pe_str (pa_cons pe_str (pa_cons pe_str (pa_cons pe_str (pa_cons pe_str pa_nil))))))))
      (pss_one (ps_ret (pe_tup (pa_cons (pe_ix ix_list (pv 3) (pe_op op_sub (pv 0) pe_int) (fun _ _ => rfl)) (pa_cons (pe_ix ix_list (pv 4) (pe_op op_sub (pv 0) pe_int) (fun _ _ => rfl)) (pa_cons (pe_erf (pe_ix ix_list (pv 3) (pe_op op_sub (pv 0) pe_int) (fun _ _ => rfl))) pa_nil))))))))
        pss_nil)
      (pss_cons (ps_if (pt_cmpR op_eq (pv 0) pe_int (nomark _))
        (pss_cons (ps_set (i := 3) sc_made.nd rfl (Or.inl rfl) (pe_newE (N.i11) (hr.mono (by decide)) rfl E.m11 (pa_cons (pv 2) pa_nil)))
      (pss_one (ps_ret (pe_tup (pa_cons (pv 3) (pa_cons pe_str (pa_cons (pe_erf (pv 3)) pa_nil)))))))
        pss_nil)
      (pss_cons (ps_set (i := 3) sc_made.nd rfl (Or.inl rfl) (pe_lst (pa_cons (pe_exc0 PySem.F.excBase_ValueError N.x12 E.m12 N.k12 rfl) (pa_cons (pe_exc0 PySem.F.excBase_ValueError N.x13 E.m13 N.k13 rfl) (pa_cons (pe_exc0 PySem.F.excBase_ValueError N.x14 E.m14 N.k14 rfl) (pa_cons (pe_exc0 PySem.F.excBase_ValueError N.x15 E.m15 N.k15 rfl) (pa_cons (pe_exc0 PySem.F.excBase_ValueError N.x16 E.m16 N.k16 rfl) (pa_cons (pe_exc0 PySem.F.excBase_ValueError N.x17 E.m17 N.k17 rfl) (pa_cons (pe_exc0 PySem.F.excBase_ValueError N.x18 E.m18 N.k18 rfl) (pa_cons (pe_exc0 PySem.F.excBase_ValueError N.x19 E.m19 N.k19 rfl) (pa_cons (pe_exc0 PySem.F.excBase_ValueError N.x20 E.m20 N.k20 rfl) pa_nil)))))))))))
      (pss_cons (ps_set (i := 4) sc_made.nd rfl (Or.inl rfl) (pe_lst (pa_cons pe_str (pa_cons pe_str (pa_cons pe_str (pa_cons pe_str (pa_cons pe_str (pa_cons pe_str (pa_cons pe_str (pa_cons pe_str (pa_cons pe_str pa_nil)))))))))))
      (pss_one (ps_ret (pe_tup (pa_cons (pe_ix ix_list (pv 3) (pe_op op_sub (pv 0) pe_int) (fun _ _ => rfl)) (pa_cons (pe_ix ix_list (pv 4) (pe_op op_sub (pv 0) pe_int) (fun _ _ => rfl)) (pa_cons pe_non pa_nil))))))))))), ?_⟩
    have cs : n = 0 ∨ n = 1 ∨ n = 2 ∨ n = 3 ∨ n = 4 ∨ n = 5 ∨ n = 6 ∨ n = 7 ∨ n = 8 ∨ n = 9 ∨ n = 10 ∨ n = 11 ∨ n = 12 ∨ n = 13 ∨ n = 14 ∨ n = 15 ∨ n = 16 ∨ n = 17 ∨ n = 18 ∨ n = 19 ∨ n = 20 := by omega
    rcases cs with rfl | rfl | rfl | rfl | rfl | rfl | rfl | rfl | rfl | rfl | rfl | rfl | rfl | rfl | rfl | rfl | rfl | rfl | rfl | rfl | rfl
    · refine ⟨_, rfl, _, _, rfl, rfl, _, rfl, iteD (by decide) ?_⟩
      refine ⟨_, rfl, _, rfl, fun a0 H0 e0 s0 => ⟨_, rfl, _, rfl, fun a1 H1 e1 s1 => ⟨_, rfl, _, rfl, fun a2 H2 e2 s2 => ⟨_, rfl, _, rfl, fun a3 H3 e3 s3 => ⟨_, rfl, _, rfl, fun a4 H4 e4 s4 => ⟨(by show 5 ≤ sizeLine; decide), fun q hq => ⟨_, rfl, q, _, _, _, rfl, rfl, SqL.of upd_same, rfl, ?_⟩⟩⟩⟩⟩⟩⟩
      have ch := same_new (o := .lst [.ref a0, .ref a1, .ref a2, .ref a3, .ref a4]) ((s1).trans ((s2).trans ((s3).trans (s4)))) hq
      refine ⟨_, rfl, ⟨(by show 5 ≤ sizeLine; decide), fun q2 hq2 => ⟨_, rfl, q2, _, _, _, rfl, rfl, SqL.of upd_same, rfl, _, rfl, a0, C 0, _, rfl, e0.same (same_new ch hq2), N.i0.xf, N.i0.no, (by show 3 ≤ sizeLine; decide), fun p hp => ?_⟩⟩⟩
      exact k p a0 _ upd_same ((e0.same (same_new (same_new ch hq2) hp)).at N.i0.nt) (same_new (same_new (same_new (((((s0).trans s1).trans s2).trans s3).trans s4) hq) hq2) hp)
    · refine ⟨_, rfl, _, _, rfl, rfl, _, rfl, iteD (by decide) ?_⟩
      refine ⟨_, rfl, _, rfl, fun a0 H0 e0 s0 => ⟨_, rfl, _, rfl, fun a1 H1 e1 s1 => ⟨_, rfl, _, rfl, fun a2 H2 e2 s2 => ⟨_, rfl, _, rfl, fun a3 H3 e3 s3 => ⟨_, rfl, _, rfl, fun a4 H4 e4 s4 => ⟨(by show 5 ≤ sizeLine; decide), fun q hq => ⟨_, rfl, q, _, _, _, rfl, rfl, SqL.of upd_same, rfl, ?_⟩⟩⟩⟩⟩⟩⟩
      have ch := same_new (o := .lst [.ref a0, .ref a1, .ref a2, .ref a3, .ref a4]) ((s2).trans ((s3).trans (s4))) hq
      refine ⟨_, rfl, ⟨(by show 5 ≤ sizeLine; decide), fun q2 hq2 => ⟨_, rfl, q2, _, _, _, rfl, rfl, SqL.of upd_same, rfl, _, rfl, a1, C 1, _, rfl, e1.same (same_new ch hq2), N.i1.xf, N.i1.no, (by show 3 ≤ sizeLine; decide), fun p hp => ?_⟩⟩⟩
      exact k p a1 _ upd_same ((e1.same (same_new (same_new ch hq2) hp)).at N.i1.nt) (same_new (same_new (same_new (((((s0).trans s1).trans s2).trans s3).trans s4) hq) hq2) hp)
    · refine ⟨_, rfl, _, _, rfl, rfl, _, rfl, iteD (by decide) ?_⟩
      refine ⟨_, rfl, _, rfl, fun a0 H0 e0 s0 => ⟨_, rfl, _, rfl, fun a1 H1 e1 s1 => ⟨_, rfl, _, rfl, fun a2 H2 e2 s2 => ⟨_, rfl, _, rfl, fun a3 H3 e3 s3 => ⟨_, rfl, _, rfl, fun a4 H4 e4 s4 => ⟨(by show 5 ≤ sizeLine; decide), fun q hq => ⟨_, rfl, q, _, _, _, rfl, rfl, SqL.of upd_same, rfl, ?_⟩⟩⟩⟩⟩⟩⟩
      have ch := same_new (o := .lst [.ref a0, .ref a1, .ref a2, .ref a3, .ref a4]) ((s3).trans (s4)) hq
      refine ⟨_, rfl, ⟨(by show 5 ≤ sizeLine; decide), fun q2 hq2 => ⟨_, rfl, q2, _, _, _, rfl, rfl, SqL.of upd_same, rfl, _, rfl, a2, C 2, _, rfl, e2.same (same_new ch hq2), N.i2.xf, N.i2.no, (by show 3 ≤ sizeLine; decide), fun p hp => ?_⟩⟩⟩
      exact k p a2 _ upd_same ((e2.same (same_new (same_new ch hq2) hp)).at N.i2.nt) (same_new (same_new (same_new (((((s0).trans s1).trans s2).trans s3).trans s4) hq) hq2) hp)
    · refine ⟨_, rfl, _, _, rfl, rfl, _, rfl, iteD (by decide) ?_⟩
      refine ⟨_, rfl, _, rfl, fun a0 H0 e0 s0 => ⟨_, rfl, _, rfl, fun a1 H1 e1 s1 => ⟨_, rfl, _, rfl, fun a2 H2 e2 s2 => ⟨_, rfl, _, rfl, fun a3 H3 e3 s3 => ⟨_, rfl, _, rfl, fun a4 H4 e4 s4 => ⟨(by show 5 ≤ sizeLine; decide), fun q hq => ⟨_, rfl, q, _, _, _, rfl, rfl, SqL.of upd_same, rfl, ?_⟩⟩⟩⟩⟩⟩⟩
      have ch := same_new (o := .lst [.ref a0, .ref a1, .ref a2, .ref a3, .ref a4]) (s4) hq
      refine ⟨_, rfl, ⟨(by show 5 ≤ sizeLine; decide), fun q2 hq2 => ⟨_, rfl, q2, _, _, _, rfl, rfl, SqL.of upd_same, rfl, _, rfl, a3, C 3, _, rfl, e3.same (same_new ch hq2), N.i3.xf, N.i3.no, (by show 3 ≤ sizeLine; decide), fun p hp => ?_⟩⟩⟩
      exact k p a3 _ upd_same ((e3.same (same_new (same_new ch hq2) hp)).at N.i3.nt) (same_new (same_new (same_new (((((s0).trans s1).trans s2).trans s3).trans s4) hq) hq2) hp)
    · refine ⟨_, rfl, _, _, rfl, rfl, _, rfl, iteD (by decide) ?_⟩
      refine ⟨_, rfl, _, rfl, fun a0 H0 e0 s0 => ⟨_, rfl, _, rfl, fun a1 H1 e1 s1 => ⟨_, rfl, _, rfl, fun a2 H2 e2 s2 => ⟨_, rfl, _, rfl, fun a3 H3 e3 s3 => ⟨_, rfl, _, rfl, fun a4 H4 e4 s4 => ⟨(by show 5 ≤ sizeLine; decide), fun q hq => ⟨_, rfl, q, _, _, _, rfl, rfl, SqL.of upd_same, rfl, ?_⟩⟩⟩⟩⟩⟩⟩
      have ch := same_new (o := .lst [.ref a0, .ref a1, .ref a2, .ref a3, .ref a4]) (Same.refl _) hq
      refine ⟨_, rfl, ⟨(by show 5 ≤ sizeLine; decide), fun q2 hq2 => ⟨_, rfl, q2, _, _, _, rfl, rfl, SqL.of upd_same, rfl, _, rfl, a4, C 4, _, rfl, e4.same (same_new ch hq2), N.i4.xf, N.i4.no, (by show 3 ≤ sizeLine; decide), fun p hp => ?_⟩⟩⟩
      exact k p a4 _ upd_same ((e4.same (same_new (same_new ch hq2) hp)).at N.i4.nt) (same_new (same_new (same_new (((((s0).trans s1).trans s2).trans s3).trans s4) hq) hq2) hp)
    · refine ⟨_, rfl, _, _, rfl, rfl, _, rfl, iteDn (by decide) ⟨_, rfl, _, _, rfl, rfl, _, rfl, iteD (by decide) ?_⟩⟩
      refine ⟨_, rfl, _, rfl, fun a5 H5 e5 s5 => ⟨_, rfl, _, rfl, fun a6 H6 e6 s6 => ⟨_, rfl, _, rfl, fun a7 H7 e7 s7 => ⟨_, rfl, _, rfl, fun a8 H8 e8 s8 => ⟨_, rfl, _, rfl, fun a9 H9 e9 s9 => ⟨_, rfl, _, rfl, fun a10 H10 e10 s10 => ⟨(by show 6 ≤ sizeLine; decide), fun q hq => ⟨(by show 6 ≤ sizeLine; decide), fun q2 hq2 => ?_⟩⟩⟩⟩⟩⟩⟩⟩
      have ch := same_new (o := .lst [.ref a5, .ref a6, .ref a7, .ref a8, .ref a9, .ref a10]) ((s6).trans ((s7).trans ((s8).trans ((s9).trans (s10))))) hq
      have hqq := same_new (o := .lst [.str "nopoly", .str "noseries", .str "noquotients", .str "nopoints", .str "noreduction", .str "nolines"]) (Same.refl _) hq2 _ _ upd_same
      refine ⟨_, rfl, _, rfl, _, _, rfl, rfl, q, _, _, _, rfl, rfl, SqL.of hqq, rfl, _, rfl, _, rfl, _, _, rfl, rfl, q2, _, _, _, rfl, rfl, SqL.of upd_same, rfl, _, rfl, _, rfl, _, _, rfl, rfl, q, _, _, _, rfl, rfl, SqL.of hqq, rfl, a5, C 5, _, rfl, e5.same (same_new ch hq2), N.i5.xf, N.i5.no, (by show 3 ≤ sizeLine; decide), fun p hp => ?_⟩
      exact k p a5 _ upd_same ((e5.same (same_new (same_new ch hq2) hp)).at N.i5.nt) (same_new (same_new (same_new ((((((s5).trans s6).trans s7).trans s8).trans s9).trans s10) hq) hq2) hp)
    · refine ⟨_, rfl, _, _, rfl, rfl, _, rfl, iteDn (by decide) ⟨_, rfl, _, _, rfl, rfl, _, rfl, iteD (by decide) ?_⟩⟩
      refine ⟨_, rfl, _, rfl, fun a5 H5 e5 s5 => ⟨_, rfl, _, rfl, fun a6 H6 e6 s6 => ⟨_, rfl, _, rfl, fun a7 H7 e7 s7 => ⟨_, rfl, _, rfl, fun a8 H8 e8 s8 => ⟨_, rfl, _, rfl, fun a9 H9 e9 s9 => ⟨_, rfl, _, rfl, fun a10 H10 e10 s10 => ⟨(by show 6 ≤ sizeLine; decide), fun q hq => ⟨(by show 6 ≤ sizeLine; decide), fun q2 hq2 => ?_⟩⟩⟩⟩⟩⟩⟩⟩
      have ch := same_new (o := .lst [.ref a5, .ref a6, .ref a7, .ref a8, .ref a9, .ref a10]) ((s7).trans ((s8).trans ((s9).trans (s10)))) hq
      have hqq := same_new (o := .lst [.str "nopoly", .str "noseries", .str "noquotients", .str "nopoints", .str "noreduction", .str "nolines"]) (Same.refl _) hq2 _ _ upd_same
      refine ⟨_, rfl, _, rfl, _, _, rfl, rfl, q, _, _, _, rfl, rfl, SqL.of hqq, rfl, _, rfl, _, rfl, _, _, rfl, rfl, q2, _, _, _, rfl, rfl, SqL.of upd_same, rfl, _, rfl, _, rfl, _, _, rfl, rfl, q, _, _, _, rfl, rfl, SqL.of hqq, rfl, a6, C 6, _, rfl, e6.same (same_new ch hq2), N.i6.xf, N.i6.no, (by show 3 ≤ sizeLine; decide), fun p hp => ?_⟩
      exact k p a6 _ upd_same ((e6.same (same_new (same_new ch hq2) hp)).at N.i6.nt) (same_new (same_new (same_new ((((((s5).trans s6).trans s7).trans s8).trans s9).trans s10) hq) hq2) hp)
    · refine ⟨_, rfl, _, _, rfl, rfl, _, rfl, iteDn (by decide) ⟨_, rfl, _, _, rfl, rfl, _, rfl, iteD (by decide) ?_⟩⟩
      refine ⟨_, rfl, _, rfl, fun a5 H5 e5 s5 => ⟨_, rfl, _, rfl, fun a6 H6 e6 s6 => ⟨_, rfl, _, rfl, fun a7 H7 e7 s7 => ⟨_, rfl, _, rfl, fun a8 H8 e8 s8 => ⟨_, rfl, _, rfl, fun a9 H9 e9 s9 => ⟨_, rfl, _, rfl, fun a10 H10 e10 s10 => ⟨(by show 6 ≤ sizeLine; decide), fun q hq => ⟨(by show 6 ≤ sizeLine; decide), fun q2 hq2 => ?_⟩⟩⟩⟩⟩⟩⟩⟩
      have ch := same_new (o := .lst [.ref a5, .ref a6, .ref a7, .ref a8, .ref a9, .ref a10]) ((s8).trans ((s9).trans (s10))) hq
      have hqq := same_new (o := .lst [.str "nopoly", .str "noseries", .str "noquotients", .str "nopoints", .str "noreduction", .str "nolines"]) (Same.refl _) hq2 _ _ upd_same
      refine ⟨_, rfl, _, rfl, _, _, rfl, rfl, q, _, _, _, rfl, rfl, SqL.of hqq, rfl, _, rfl, _, rfl, _, _, rfl, rfl, q2, _, _, _, rfl, rfl, SqL.of upd_same, rfl, _, rfl, _, rfl, _, _, rfl, rfl, q, _, _, _, rfl, rfl, SqL.of hqq, rfl, a7, C 7, _, rfl, e7.same (same_new ch hq2), N.i7.xf, N.i7.no, (by show 3 ≤ sizeLine; decide), fun p hp => ?_⟩
      exact k p a7 _ upd_same ((e7.same (same_new (same_new ch hq2) hp)).at N.i7.nt) (same_new (same_new (same_new ((((((s5).trans s6).trans s7).trans s8).trans s9).trans s10) hq) hq2) hp)
    · refine ⟨_, rfl, _, _, rfl, rfl, _, rfl, iteDn (by decide) ⟨_, rfl, _, _, rfl, rfl, _, rfl, iteD (by decide) ?_⟩⟩
      refine ⟨_, rfl, _, rfl, fun a5 H5 e5 s5 => ⟨_, rfl, _, rfl, fun a6 H6 e6 s6 => ⟨_, rfl, _, rfl, fun a7 H7 e7 s7 => ⟨_, rfl, _, rfl, fun a8 H8 e8 s8 => ⟨_, rfl, _, rfl, fun a9 H9 e9 s9 => ⟨_, rfl, _, rfl, fun a10 H10 e10 s10 => ⟨(by show 6 ≤ sizeLine; decide), fun q hq => ⟨(by show 6 ≤ sizeLine; decide), fun q2 hq2 => ?_⟩⟩⟩⟩⟩⟩⟩⟩
      have ch := same_new (o := .lst [.ref a5, .ref a6, .ref a7, .ref a8, .ref a9, .ref a10]) ((s9).trans (s10)) hq
      have hqq := same_new (o := .lst [.str "nopoly", .str "noseries", .str "noquotients", .str "nopoints", .str "noreduction", .str "nolines"]) (Same.refl _) hq2 _ _ upd_same
      refine ⟨_, rfl, _, rfl, _, _, rfl, rfl, q, _, _, _, rfl, rfl, SqL.of hqq, rfl, _, rfl, _, rfl, _, _, rfl, rfl, q2, _, _, _, rfl, rfl, SqL.of upd_same, rfl, _, rfl, _, rfl, _, _, rfl, rfl, q, _, _, _, rfl, rfl, SqL.of hqq, rfl, a8, C 8, _, rfl, e8.same (same_new ch hq2), N.i8.xf, N.i8.no, (by show 3 ≤ sizeLine; decide), fun p hp => ?_⟩
      exact k p a8 _ upd_same ((e8.same (same_new (same_new ch hq2) hp)).at N.i8.nt) (same_new (same_new (same_new ((((((s5).trans s6).trans s7).trans s8).trans s9).trans s10) hq) hq2) hp)
    · refine ⟨_, rfl, _, _, rfl, rfl, _, rfl, iteDn (by decide) ⟨_, rfl, _, _, rfl, rfl, _, rfl, iteD (by decide) ?_⟩⟩
      refine ⟨_, rfl, _, rfl, fun a5 H5 e5 s5 => ⟨_, rfl, _, rfl, fun a6 H6 e6 s6 => ⟨_, rfl, _, rfl, fun a7 H7 e7 s7 => ⟨_, rfl, _, rfl, fun a8 H8 e8 s8 => ⟨_, rfl, _, rfl, fun a9 H9 e9 s9 => ⟨_, rfl, _, rfl, fun a10 H10 e10 s10 => ⟨(by show 6 ≤ sizeLine; decide), fun q hq => ⟨(by show 6 ≤ sizeLine; decide), fun q2 hq2 => ?_⟩⟩⟩⟩⟩⟩⟩⟩
      have ch := same_new (o := .lst [.ref a5, .ref a6, .ref a7, .ref a8, .ref a9, .ref a10]) (s10) hq
      have hqq := same_new (o := .lst [.str "nopoly", .str "noseries", .str "noquotients", .str "nopoints", .str "noreduction", .str "nolines"]) (Same.refl _) hq2 _ _ upd_same
      refine ⟨_, rfl, _, rfl, _, _, rfl, rfl, q, _, _, _, rfl, rfl, SqL.of hqq, rfl, _, rfl, _, rfl, _, _, rfl, rfl, q2, _, _, _, rfl, rfl, SqL.of upd_same, rfl, _, rfl, _, rfl, _, _, rfl, rfl, q, _, _, _, rfl, rfl, SqL.of hqq, rfl, a9, C 9, _, rfl, e9.same (same_new ch hq2), N.i9.xf, N.i9.no, (by show 3 ≤ sizeLine; decide), fun p hp => ?_⟩
      exact k p a9 _ upd_same ((e9.same (same_new (same_new ch hq2) hp)).at N.i9.nt) (same_new (same_new (same_new ((((((s5).trans s6).trans s7).trans s8).trans s9).trans s10) hq) hq2) hp)
    · refine ⟨_, rfl, _, _, rfl, rfl, _, rfl, iteDn (by decide) ⟨_, rfl, _, _, rfl, rfl, _, rfl, iteD (by decide) ?_⟩⟩
      refine ⟨_, rfl, _, rfl, fun a5 H5 e5 s5 => ⟨_, rfl, _, rfl, fun a6 H6 e6 s6 => ⟨_, rfl, _, rfl, fun a7 H7 e7 s7 => ⟨_, rfl, _, rfl, fun a8 H8 e8 s8 => ⟨_, rfl, _, rfl, fun a9 H9 e9 s9 => ⟨_, rfl, _, rfl, fun a10 H10 e10 s10 => ⟨(by show 6 ≤ sizeLine; decide), fun q hq => ⟨(by show 6 ≤ sizeLine; decide), fun q2 hq2 => ?_⟩⟩⟩⟩⟩⟩⟩⟩
      have ch := same_new (o := .lst [.ref a5, .ref a6, .ref a7, .ref a8, .ref a9, .ref a10]) (Same.refl _) hq
      have hqq := same_new (o := .lst [.str "nopoly", .str "noseries", .str "noquotients", .str "nopoints", .str "noreduction", .str "nolines"]) (Same.refl _) hq2 _ _ upd_same
      refine ⟨_, rfl, _, rfl, _, _, rfl, rfl, q, _, _, _, rfl, rfl, SqL.of hqq, rfl, _, rfl, _, rfl, _, _, rfl, rfl, q2, _, _, _, rfl, rfl, SqL.of upd_same, rfl, _, rfl, _, rfl, _, _, rfl, rfl, q, _, _, _, rfl, rfl, SqL.of hqq, rfl, a10, C 10, _, rfl, e10.same (same_new ch hq2), N.i10.xf, N.i10.no, (by show 3 ≤ sizeLine; decide), fun p hp => ?_⟩
      exact k p a10 _ upd_same ((e10.same (same_new (same_new ch hq2) hp)).at N.i10.nt) (same_new (same_new (same_new ((((((s5).trans s6).trans s7).trans s8).trans s9).trans s10) hq) hq2) hp)
    · refine ⟨_, rfl, _, _, rfl, rfl, _, rfl, iteDn (by decide) ⟨_, rfl, _, _, rfl, rfl, _, rfl, iteDn (by decide) ⟨_, rfl, rfl, _, rfl, iteD (by decide) ?_⟩⟩⟩
      refine ⟨_, rfl, _, rfl, fun a11 H11 e11 s11 => ⟨_, rfl, _, rfl, a11, C 11, _, rfl, e11, N.i11.xf, N.i11.no, (by show 3 ≤ sizeLine; decide), fun p hp => ?_⟩⟩
      exact k p a11 _ upd_same ((e11.same (same_new (Same.refl _) hp)).at N.i11.nt) (same_new s11 hp)
    · refine ⟨_, rfl, _, _, rfl, rfl, _, rfl, iteDn (by decide) ⟨_, rfl, _, _, rfl, rfl, _, rfl, iteDn (by decide) ⟨_, rfl, rfl, _, rfl, iteDn (by decide) ?_⟩⟩⟩
      refine fun a12 H12 e12 s12 => fun a13 H13 e13 s13 => fun a14 H14 e14 s14 => fun a15 H15 e15 s15 => fun a16 H16 e16 s16 => fun a17 H17 e17 s17 => fun a18 H18 e18 s18 => fun a19 H19 e19 s19 => fun a20 H20 e20 s20 => ⟨(by show 9 ≤ sizeLine; decide), fun q hq => ⟨(by show 9 ≤ sizeLine; decide), fun q2 hq2 => ?_⟩⟩
      have ch := same_new (o := .lst [.ref a12, .ref a13, .ref a14, .ref a15, .ref a16, .ref a17, .ref a18, .ref a19, .ref a20]) ((s13).trans ((s14).trans ((s15).trans ((s16).trans ((s17).trans ((s18).trans ((s19).trans (s20)))))))) hq
      have hqq := same_new (o := .lst [.str "nofield", .str "nonumber", .str "otherfield", .str "nocount", .str "full", .str "noback", .str "noline", .str "noundo", .str "noredo"]) (Same.refl _) hq2 _ _ upd_same
      refine ⟨_, rfl, _, rfl, _, _, rfl, rfl, q, _, _, _, rfl, rfl, SqL.of hqq, rfl, _, rfl, _, rfl, _, _, rfl, rfl, q2, _, _, _, rfl, rfl, SqL.of upd_same, rfl, (by show 3 ≤ sizeLine; decide), fun p hp => ?_⟩
      exact k p a12 _ upd_same (e12.same (same_new (same_new ch hq2) hp)) (same_new (same_new (same_new (((((((((s12).trans s13).trans s14).trans s15).trans s16).trans s17).trans s18).trans s19).trans s20) hq) hq2) hp)
    · refine ⟨_, rfl, _, _, rfl, rfl, _, rfl, iteDn (by decide) ⟨_, rfl, _, _, rfl, rfl, _, rfl, iteDn (by decide) ⟨_, rfl, rfl, _, rfl, iteDn (by decide) ?_⟩⟩⟩
      refine fun a12 H12 e12 s12 => fun a13 H13 e13 s13 => fun a14 H14 e14 s14 => fun a15 H15 e15 s15 => fun a16 H16 e16 s16 => fun a17 H17 e17 s17 => fun a18 H18 e18 s18 => fun a19 H19 e19 s19 => fun a20 H20 e20 s20 => ⟨(by show 9 ≤ sizeLine; decide), fun q hq => ⟨(by show 9 ≤ sizeLine; decide), fun q2 hq2 => ?_⟩⟩
      have ch := same_new (o := .lst [.ref a12, .ref a13, .ref a14, .ref a15, .ref a16, .ref a17, .ref a18, .ref a19, .ref a20]) ((s14).trans ((s15).trans ((s16).trans ((s17).trans ((s18).trans ((s19).trans (s20))))))) hq
      have hqq := same_new (o := .lst [.str "nofield", .str "nonumber", .str "otherfield", .str "nocount", .str "full", .str "noback", .str "noline", .str "noundo", .str "noredo"]) (Same.refl _) hq2 _ _ upd_same
      refine ⟨_, rfl, _, rfl, _, _, rfl, rfl, q, _, _, _, rfl, rfl, SqL.of hqq, rfl, _, rfl, _, rfl, _, _, rfl, rfl, q2, _, _, _, rfl, rfl, SqL.of upd_same, rfl, (by show 3 ≤ sizeLine; decide), fun p hp => ?_⟩
      exact k p a13 _ upd_same (e13.same (same_new (same_new ch hq2) hp)) (same_new (same_new (same_new (((((((((s12).trans s13).trans s14).trans s15).trans s16).trans s17).trans s18).trans s19).trans s20) hq) hq2) hp)
    · refine ⟨_, rfl, _, _, rfl, rfl, _, rfl, iteDn (by decide) ⟨_, rfl, _, _, rfl, rfl, _, rfl, iteDn (by decide) ⟨_, rfl, rfl, _, rfl, iteDn (by decide) ?_⟩⟩⟩
      refine fun a12 H12 e12 s12 => fun a13 H13 e13 s13 => fun a14 H14 e14 s14 => fun a15 H15 e15 s15 => fun a16 H16 e16 s16 => fun a17 H17 e17 s17 => fun a18 H18 e18 s18 => fun a19 H19 e19 s19 => fun a20 H20 e20 s20 => ⟨(by show 9 ≤ sizeLine; decide), fun q hq => ⟨(by show 9 ≤ sizeLine; decide), fun q2 hq2 => ?_⟩⟩
      have ch := same_new (o := .lst [.ref a12, .ref a13, .ref a14, .ref a15, .ref a16, .ref a17, .ref a18, .ref a19, .ref a20]) ((s15).trans ((s16).trans ((s17).trans ((s18).trans ((s19).trans (s20)))))) hq
      have hqq := same_new (o := .lst [.str "nofield", .str "nonumber", .str "otherfield", .str "nocount", .str "full", .str "noback", .str "noline", .str "noundo", .str "noredo"]) (Same.refl _) hq2 _ _ upd_same
      refine ⟨_, rfl, _, rfl, _, _, rfl, rfl, q, _, _, _, rfl, rfl, SqL.of hqq, rfl, _, rfl, _, rfl, _, _, rfl, rfl, q2, _, _, _, rfl, rfl, SqL.of upd_same, rfl, (by show 3 ≤ sizeLine; decide), fun p hp => ?_⟩
      exact k p a14 _ upd_same (e14.same (same_new (same_new ch hq2) hp)) (same_new (same_new (same_new (((((((((s12).trans s13).trans s14).trans s15).trans s16).trans s17).trans s18).trans s19).trans s20) hq) hq2) hp)
    · refine ⟨_, rfl, _, _, rfl, rfl, _, rfl, iteDn (by decide) ⟨_, rfl, _, _, rfl, rfl, _, rfl, iteDn (by decide) ⟨_, rfl, rfl, _, rfl, iteDn (by decide) ?_⟩⟩⟩
      refine fun a12 H12 e12 s12 => fun a13 H13 e13 s13 => fun a14 H14 e14 s14 => fun a15 H15 e15 s15 => fun a16 H16 e16 s16 => fun a17 H17 e17 s17 => fun a18 H18 e18 s18 => fun a19 H19 e19 s19 => fun a20 H20 e20 s20 => ⟨(by show 9 ≤ sizeLine; decide), fun q hq => ⟨(by show 9 ≤ sizeLine; decide), fun q2 hq2 => ?_⟩⟩
      have ch := same_new (o := .lst [.ref a12, .ref a13, .ref a14, .ref a15, .ref a16, .ref a17, .ref a18, .ref a19, .ref a20]) ((s16).trans ((s17).trans ((s18).trans ((s19).trans (s20))))) hq
      have hqq := same_new (o := .lst [.str "nofield", .str "nonumber", .str "otherfield", .str "nocount", .str "full", .str "noback", .str "noline", .str "noundo", .str "noredo"]) (Same.refl _) hq2 _ _ upd_same
      refine ⟨_, rfl, _, rfl, _, _, rfl, rfl, q, _, _, _, rfl, rfl, SqL.of hqq, rfl, _, rfl, _, rfl, _, _, rfl, rfl, q2, _, _, _, rfl, rfl, SqL.of upd_same, rfl, (by show 3 ≤ sizeLine; decide), fun p hp => ?_⟩
      exact k p a15 _ upd_same (e15.same (same_new (same_new ch hq2) hp)) (same_new (same_new (same_new (((((((((s12).trans s13).trans s14).trans s15).trans s16).trans s17).trans s18).trans s19).trans s20) hq) hq2) hp)
    · refine ⟨_, rfl, _, _, rfl, rfl, _, rfl, iteDn (by decide) ⟨_, rfl, _, _, rfl, rfl, _, rfl, iteDn (by decide) ⟨_, rfl, rfl, _, rfl, iteDn (by decide) ?_⟩⟩⟩
      refine fun a12 H12 e12 s12 => fun a13 H13 e13 s13 => fun a14 H14 e14 s14 => fun a15 H15 e15 s15 => fun a16 H16 e16 s16 => fun a17 H17 e17 s17 => fun a18 H18 e18 s18 => fun a19 H19 e19 s19 => fun a20 H20 e20 s20 => ⟨(by show 9 ≤ sizeLine; decide), fun q hq => ⟨(by show 9 ≤ sizeLine; decide), fun q2 hq2 => ?_⟩⟩
      have ch := same_new (o := .lst [.ref a12, .ref a13, .ref a14, .ref a15, .ref a16, .ref a17, .ref a18, .ref a19, .ref a20]) ((s17).trans ((s18).trans ((s19).trans (s20)))) hq
      have hqq := same_new (o := .lst [.str "nofield", .str "nonumber", .str "otherfield", .str "nocount", .str "full", .str "noback", .str "noline", .str "noundo", .str "noredo"]) (Same.refl _) hq2 _ _ upd_same
      refine ⟨_, rfl, _, rfl, _, _, rfl, rfl, q, _, _, _, rfl, rfl, SqL.of hqq, rfl, _, rfl, _, rfl, _, _, rfl, rfl, q2, _, _, _, rfl, rfl, SqL.of upd_same, rfl, (by show 3 ≤ sizeLine; decide), fun p hp => ?_⟩
      exact k p a16 _ upd_same (e16.same (same_new (same_new ch hq2) hp)) (same_new (same_new (same_new (((((((((s12).trans s13).trans s14).trans s15).trans s16).trans s17).trans s18).trans s19).trans s20) hq) hq2) hp)
    · refine ⟨_, rfl, _, _, rfl, rfl, _, rfl, iteDn (by decide) ⟨_, rfl, _, _, rfl, rfl, _, rfl, iteDn (by decide) ⟨_, rfl, rfl, _, rfl, iteDn (by decide) ?_⟩⟩⟩
      refine fun a12 H12 e12 s12 => fun a13 H13 e13 s13 => fun a14 H14 e14 s14 => fun a15 H15 e15 s15 => fun a16 H16 e16 s16 => fun a17 H17 e17 s17 => fun a18 H18 e18 s18 => fun a19 H19 e19 s19 => fun a20 H20 e20 s20 => ⟨(by show 9 ≤ sizeLine; decide), fun q hq => ⟨(by show 9 ≤ sizeLine; decide), fun q2 hq2 => ?_⟩⟩
      have ch := same_new (o := .lst [.ref a12, .ref a13, .ref a14, .ref a15, .ref a16, .ref a17, .ref a18, .ref a19, .ref a20]) ((s18).trans ((s19).trans (s20))) hq
      have hqq := same_new (o := .lst [.str "nofield", .str "nonumber", .str "otherfield", .str "nocount", .str "full", .str "noback", .str "noline", .str "noundo", .str "noredo"]) (Same.refl _) hq2 _ _ upd_same
      refine ⟨_, rfl, _, rfl, _, _, rfl, rfl, q, _, _, _, rfl, rfl, SqL.of hqq, rfl, _, rfl, _, rfl, _, _, rfl, rfl, q2, _, _, _, rfl, rfl, SqL.of upd_same, rfl, (by show 3 ≤ sizeLine; decide), fun p hp => ?_⟩
      exact k p a17 _ upd_same (e17.same (same_new (same_new ch hq2) hp)) (same_new (same_new (same_new (((((((((s12).trans s13).trans s14).trans s15).trans s16).trans s17).trans s18).trans s19).trans s20) hq) hq2) hp)
    · refine ⟨_, rfl, _, _, rfl, rfl, _, rfl, iteDn (by decide) ⟨_, rfl, _, _, rfl, rfl, _, rfl, iteDn (by decide) ⟨_, rfl, rfl, _, rfl, iteDn (by decide) ?_⟩⟩⟩
      refine fun a12 H12 e12 s12 => fun a13 H13 e13 s13 => fun a14 H14 e14 s14 => fun a15 H15 e15 s15 => fun a16 H16 e16 s16 => fun a17 H17 e17 s17 => fun a18 H18 e18 s18 => fun a19 H19 e19 s19 => fun a20 H20 e20 s20 => ⟨(by show 9 ≤ sizeLine; decide), fun q hq => ⟨(by show 9 ≤ sizeLine; decide), fun q2 hq2 => ?_⟩⟩
      have ch := same_new (o := .lst [.ref a12, .ref a13, .ref a14, .ref a15, .ref a16, .ref a17, .ref a18, .ref a19, .ref a20]) ((s19).trans (s20)) hq
      have hqq := same_new (o := .lst [.str "nofield", .str "nonumber", .str "otherfield", .str "nocount", .str "full", .str "noback", .str "noline", .str "noundo", .str "noredo"]) (Same.refl _) hq2 _ _ upd_same
      refine ⟨_, rfl, _, rfl, _, _, rfl, rfl, q, _, _, _, rfl, rfl, SqL.of hqq, rfl, _, rfl, _, rfl, _, _, rfl, rfl, q2, _, _, _, rfl, rfl, SqL.of upd_same, rfl, (by show 3 ≤ sizeLine; decide), fun p hp => ?_⟩
      exact k p a18 _ upd_same (e18.same (same_new (same_new ch hq2) hp)) (same_new (same_new (same_new (((((((((s12).trans s13).trans s14).trans s15).trans s16).trans s17).trans s18).trans s19).trans s20) hq) hq2) hp)
    · refine ⟨_, rfl, _, _, rfl, rfl, _, rfl, iteDn (by decide) ⟨_, rfl, _, _, rfl, rfl, _, rfl, iteDn (by decide) ⟨_, rfl, rfl, _, rfl, iteDn (by decide) ?_⟩⟩⟩
      refine fun a12 H12 e12 s12 => fun a13 H13 e13 s13 => fun a14 H14 e14 s14 => fun a15 H15 e15 s15 => fun a16 H16 e16 s16 => fun a17 H17 e17 s17 => fun a18 H18 e18 s18 => fun a19 H19 e19 s19 => fun a20 H20 e20 s20 => ⟨(by show 9 ≤ sizeLine; decide), fun q hq => ⟨(by show 9 ≤ sizeLine; decide), fun q2 hq2 => ?_⟩⟩
      have ch := same_new (o := .lst [.ref a12, .ref a13, .ref a14, .ref a15, .ref a16, .ref a17, .ref a18, .ref a19, .ref a20]) (s20) hq
      have hqq := same_new (o := .lst [.str "nofield", .str "nonumber", .str "otherfield", .str "nocount", .str "full", .str "noback", .str "noline", .str "noundo", .str "noredo"]) (Same.refl _) hq2 _ _ upd_same
      refine ⟨_, rfl, _, rfl, _, _, rfl, rfl, q, _, _, _, rfl, rfl, SqL.of hqq, rfl, _, rfl, _, rfl, _, _, rfl, rfl, q2, _, _, _, rfl, rfl, SqL.of upd_same, rfl, (by show 3 ≤ sizeLine; decide), fun p hp => ?_⟩
      exact k p a19 _ upd_same (e19.same (same_new (same_new ch hq2) hp)) (same_new (same_new (same_new (((((((((s12).trans s13).trans s14).trans s15).trans s16).trans s17).trans s18).trans s19).trans s20) hq) hq2) hp)
    · refine ⟨_, rfl, _, _, rfl, rfl, _, rfl, iteDn (by decide) ⟨_, rfl, _, _, rfl, rfl, _, rfl, iteDn (by decide) ⟨_, rfl, rfl, _, rfl, iteDn (by decide) ?_⟩⟩⟩
      refine fun a12 H12 e12 s12 => fun a13 H13 e13 s13 => fun a14 H14 e14 s14 => fun a15 H15 e15 s15 => fun a16 H16 e16 s16 => fun a17 H17 e17 s17 => fun a18 H18 e18 s18 => fun a19 H19 e19 s19 => fun a20 H20 e20 s20 => ⟨(by show 9 ≤ sizeLine; decide), fun q hq => ⟨(by show 9 ≤ sizeLine; decide), fun q2 hq2 => ?_⟩⟩
      have ch := same_new (o := .lst [.ref a12, .ref a13, .ref a14, .ref a15, .ref a16, .ref a17, .ref a18, .ref a19, .ref a20]) (Same.refl _) hq
      have hqq := same_new (o := .lst [.str "nofield", .str "nonumber", .str "otherfield", .str "nocount", .str "full", .str "noback", .str "noline", .str "noundo", .str "noredo"]) (Same.refl _) hq2 _ _ upd_same
      refine ⟨_, rfl, _, rfl, _, _, rfl, rfl, q, _, _, _, rfl, rfl, SqL.of hqq, rfl, _, rfl, _, rfl, _, _, rfl, rfl, q2, _, _, _, rfl, rfl, SqL.of upd_same, rfl, (by show 3 ≤ sizeLine; decide), fun p hp => ?_⟩
      exact k p a20 _ upd_same (e20.same (same_new (same_new ch hq2) hp)) (same_new (same_new (same_new (((((((((s12).trans s13).trans s14).trans s15).trans s16).trans s17).trans s18).trans s19).trans s20) hq) hq2) hp)
end
end Sq

namespace Sq
open PySem L2 PyProof.Rows
def WORDS : List V := [.str "", .str "top", .str "bottom", .str "a b", .str "~", .str "zero"]
theorem word_at {v : Int} (h0 : 0 ≤ v) (h6 : v < 6) : ∃ wd : Str, atI WORDS v = some (.str wd) := by
  have c : v = 0 ∨ v = 1 ∨ v = 2 ∨ v = 3 ∨ v = 4 ∨ v = 5 := by omega
  rcases c with rfl | rfl | rfl | rfl | rfl | rfl <;> exact ⟨_, rfl⟩
theorem nm_len (i : Nat) : (("refused " : Str)).length + (nm i).length ≤ sizeLine := by
  unfold nm
  split <;> (rw [sizeLine_eq]; decide +kernel)
theorem shp (i : Nat) : SeqAt.shaped (PyData.list [PyData.str (nm i)]) = true := by
  unfold nm
  split <;> first | rfl | decide +kernel
theorem eqv1 (x : Str) : PyData.eqv (.list [.str x]) (.list [.str x]) = true := by
  simp [PyData.eqv, PyData.eqvAll]
theorem StAt.same {H H' : Hp} {p : Addr} (S : StAt H p) (s : Same H H') : StAt H' p := by
  obtain ⟨a, ns, i, l, m, c, h1, h2, r⟩ := S
  exact ⟨a, ns, i, l, m, c, s _ _ h1, s _ _ h2, r⟩
section
variable {P : Program} {w : World} {K : PySem.W.Frag} {mg : Str → Option Value} {base : Heap} {C : Nat → Addr}
theorem sc_law : FnScope ["_law_script", "_law_state_here", "_law_words", "_law_base", "_law_number", "_law_word", "_law_place", "_law_error", "_law_name", "_law_field"] ["_law_script"] (defScope s_law) := ⟨rfl, rfl, rfl, by decide +kernel, rfl, by decide +kernel, by decide +kernel⟩
theorem ok_law {f fstate fdraw fnames fmade : Addr} {fd fdstate fddraw fdnames fdmade : FuncData} (F : Fun K "law" "law" s_law f fd) (T : DTx mg) (E : ECx K mg C) (N : NCx P w K mg base C) (TB : ∀ i, i < 22 → ToldBy P w K mg base (C i) (("refused " : Str) ++ nm i))
    (G_state : FnOk P w K mg base CX0 1 fstate fdstate ["_law_script"] (spState K)) (b_state : Binds K fdstate ["_law_script"] []) (m_state : mg "_law_state" = some (.ref fstate)) (k_state : PySem.W.keepIn K (.ref fstate) = true)
    (G_draw : FnOk P w K mg base CX0 1 fdraw fddraw ["_law_state_here", "_law_many"] spDraw) (b_draw : Binds K fddraw ["_law_state_here", "_law_many"] []) (m_draw : mg "_law_draw" = some (.ref fdraw)) (k_draw : PySem.W.keepIn K (.ref fdraw) = true)
    (G_names : FnOk P w K mg base CX0 2 fnames fdnames ["_law_error"] (spNames C)) (b_names : Binds K fdnames ["_law_error"] []) (m_names : mg "_law_names" = some (.ref fnames)) (k_names : PySem.W.keepIn K (.ref fnames) = true)
    (G_made : FnOk P w K mg base CX0 3 fmade fdmade ["_law_number", "_law_word", "_law_place"] (spMade C)) (b_made : Binds K fdmade ["_law_number", "_law_word", "_law_place"] []) (m_made : mg "_law_made" = some (.ref fmade)) (k_made : PySem.W.keepIn K (.ref fmade) = true) : FnOk P w K mg base CX0 4 f fd ["_law_script"] (spLaw K) := by
  refine F.ok sc_law (fun vs H Q E h => ?_) (fun cdv A outer s H vs Q E' hr h => ?_)
  · obtain ⟨a, ns, rfl, _⟩ := h
    rfl
  · obtain ⟨sc, ns, rfl, hS, hl, k⟩ := h
    refine ⟨_, (pss_cons (ps_set (i := 1) sc_law.nd rfl (Or.inl rfl) (pe_call G_state (hr.mono (by decide)) rfl m_state k_state b_state .nil pass0 (pa_cons (pv 0) pa_nil)))
      (pss_cons (ps_set (i := 2) sc_law.nd rfl (Or.inl rfl) (pe_lst (pa_cons pe_str (pa_cons pe_str (pa_cons pe_str (pa_cons pe_str (pa_cons pe_str (pa_cons pe_str pa_nil))))))))
      (pss_cons (ps_set (i := 3) sc_law.nd rfl (Or.inl rfl) (pe_exc0 PySem.F.excBase_ValueError N.x21 E.m21 N.k21 rfl))
      (pss_cons (ps_if (PW.pt (pw_or (pt_cmpR op_ne (pe_told (pv 3) (hr.mono (by decide))) pe_str (nomark _)) (pw_or (pt_not (pt_val (pe_callB call_isV (by rfl) E.b_isinstance (by decide +kernel) (pa_cons (pv 3) (pa_cons (pe_bltn (v := .ty "ValueError") (by rfl) E.b_ValueError (by decide +kernel) rfl) pa_nil))))) (pw_or1 (pt_cmpR (op_neD hr.units) (pe_call G_names (hr.mono (by decide)) rfl m_names k_names b_names .nil pass0 (pa_cons (pv 3) pa_nil)) (pe_lst pa_nil) (nomark _))))))
        (pss_one (ps_ret pe_bl))
        pss_nil)
      (pss_cons (ps_for PassesOwn.never rfl (pi_range1 (by rfl) T.b_range (pa_cons pe_int pa_nil)) (pg_name (i := 4) sc_law.nd rfl (Or.inl rfl)) (pss_cons (ps_set (i := 5) sc_law.nd rfl (Or.inl rfl) (pe_ix ix_list (pv 2) (pe_call G_draw (hr.mono (by decide)) rfl m_draw k_draw b_draw .nil pass0 (pa_cons (pv 1) (pa_cons pe_int pa_nil))) (fun _ _ => rfl)))
      (pss_cons (ps_set (i := 6) sc_law.nd rfl (Or.inl rfl) (pe_op op_sub (pe_call G_draw (hr.mono (by decide)) rfl m_draw k_draw b_draw .nil pass0 (pa_cons (pv 1) (pa_cons (pe_op op_pow pe_int pe_int) pa_nil))) pe_int))
      (pss_cons (ps_asg (pe_call G_made (hr.mono (by decide)) rfl m_made k_made b_made .nil pass0 (pa_cons (pv 4) (pa_cons (pv 5) (pa_cons (pv 6) pa_nil)))) (pg_tup rfl (pgs_cons (pg_name (i := 7) sc_law.nd rfl (Or.inl rfl)) (pgs_cons (pg_name (i := 8) sc_law.nd rfl (Or.inl rfl)) (pgs_cons (pg_name (i := 9) sc_law.nd rfl (Or.inl rfl)) pgs_nil)))))
      (pss_cons (ps_if (PW.pt (pw_or (pt_not (pt_val (pe_callB call_isV (by rfl) E.b_isinstance (by decide +kernel) (pa_cons (pv 7) (pa_cons (pe_glob (v := .ref (C 21)) rfl E.m21 rfl) pa_nil))))) (pw_or (pt_not (pt_val (pe_callB call_isV (by rfl) E.b_isinstance (by decide +kernel) (pa_cons (pv 7) (pa_cons (pe_bltn (v := .ty "ValueError") (by rfl) E.b_ValueError (by decide +kernel) rfl) pa_nil))))) (pw_or1 (pt_cmpR (op_neD hr.units) (pe_call G_names (hr.mono (by decide)) rfl m_names k_names b_names .nil pass0 (pa_cons (pv 7) pa_nil)) (pe_lst (pa_cons (pv 8) pa_nil)) (nomark _))))))
        (pss_one (ps_ret pe_bl))
        pss_nil)
      (pss_cons (ps_if (pt_cmpR op_ne (pe_told (pv 7) (hr.mono (by decide))) (pe_op op_add_str pe_str (pv 8)) (nomark _))
        (pss_one (ps_ret pe_bl))
        pss_nil)
      (pss_cons (ps_if (PW.pt (pw_and (pt_cmpR op_lt (pv 4) pe_int (nomark _)) (pw_and1 (pt_cmpR op_ne (pv 9) (pv 5) (nomark _)))))
        (pss_one (ps_ret pe_bl))
        pss_nil)
      (pss_one (ps_if (PW.pt (pw_and (pt_chain op_le op_lt pe_int (pv 4) pe_int) (pw_and1 (PW.pt (pw_or (pt_cmpR op_ne (pv 9) (pv 6) (nomark _)) (pw_or (pt_not (pt_val (pe_callB call_isi (by rfl) E.b_isinstance (by decide +kernel) (pa_cons (pv 9) (pa_cons (pe_bltn (v := .ty "int") (by rfl) E.b_int (by decide +kernel) rfl) pa_nil))))) (pw_or1 (pt_val (pe_callB call_isi (by rfl) E.b_isinstance (by decide +kernel) (pa_cons (pv 9) (pa_cons (pe_bltn (v := .ty "bool") (by rfl) E.b_bool (by decide +kernel) rfl) pa_nil)))))))))))
        (pss_one (ps_ret pe_bl))
        pss_nil)))))))))
      (pss_one (ps_ret pe_bl))))))), ?_⟩
    refine ⟨_, rfl, sc, ns, rfl, hS, hl, fun p H1 _ St s1 => ?_⟩
    refine ⟨(by show 6 ≤ sizeLine; decide), fun ww hww => ?_⟩
    have St2 : StAt (upd H1 ww (.lst WORDS)) p := St.same (same_new (Same.refl _) hww)
    have hp : ww ≠ p := by
      obtain ⟨a, ns, i, l, m, c, S⟩ := St
      exact fun e => by
        rw [e, S.1] at hww
        cases hww
    refine fun b H3 eb s3 => ?_
    refine ⟨_, rfl, b, C 21, _, rfl, eb, TB 21 (by decide), rfl, _, rfl, iteDn (by decide +kernel) ?_⟩
    refine ⟨_, rfl, b, C 21, _, _, true, rfl, eb, E.ei 21 (by decide), .ty _, E.kitV 21 (by decide), true, rfl, iteF ?_⟩
    refine ⟨_, rfl, b, 21, rfl, by decide, eb, fun q H4 lq s4 => ⟨Nat.zero_le _, fun q2 hq2 => ⟨.list [], .list [], .lst (SqL.of ((same_new (Same.refl _) hq2) _ _ lq)) .nil, .lst (SqL.of upd_same) .nil, rfl, rfl, _, rfl, iteDn (by decide) ?_⟩⟩⟩
    have s5 : Same (upd H1 ww (.lst WORDS)) (upd H4 q2 (.lst [])) := same_new (s3.trans s4) hq2
    refine ⟨21, rfl, by decide, by decide, ?_⟩
    refine for_range (lo := 0) (n := 21) (fun i σ H' => ∃ z w5 w6 w7 w8 w9 : Option V, σ = [some (.ref sc), some (.ref p), some (.ref ww), some (.ref b), z, w5, w6, w7, w8, w9] ∧ StAt H' p ∧ H' ww = some (.lst WORDS)) ⟨_, _, _, _, _, _, rfl, St2.same s5, s5 _ _ upd_same⟩ ?_ ?_
    · rintro i σ H2 hi ⟨z, w5, w6, w7, w8, w9, rfl, S2, hw2⟩
      have e0 : (0 : Int) + ((i : Nat) : Int) = ((i : Nat) : Int) := Int.zero_add _
      refine ⟨_, rfl, _, rfl, p, 6, rfl, by decide, by decide, S2, fun v H3 v0 v6 S3 B3 => ?_⟩
      have hw3 := B3 ww _ hw2 hp
      obtain ⟨wd, hwd⟩ := word_at v0 v6
      refine ⟨ww, _, _, _, rfl, rfl, SqL.of hw3, hwd, ?_⟩
      refine ⟨_, rfl, _, _, rfl, rfl, ⟨by decide, by decide, by decide⟩, p, _, rfl, by decide, by decide, S3, fun d H4 d0 d1 S4 B4 => ?_⟩
      have hw4 := B4 ww _ hw3 hp
      refine ⟨_, _, rfl, rfl, ?_⟩
      refine ⟨_, rfl, _, rfl, _, rfl, i, wd, d - 1, (by rw [e0]; rfl), hi, fun p3 a H5 tp ea s5 => ?_⟩
      refine ⟨p3, _, rfl, .inl (.inl tp), rfl, _, _, rfl, _, _, rfl, _, _, rfl, rfl, ?_⟩
      have hi2 : i < 22 := Nat.lt_of_lt_of_le hi (by decide)
      refine ⟨_, rfl, a, C i, _, _, true, rfl, ea, E.ei i hi2, .own _, E.kitS i hi2, true, rfl, iteF ?_⟩
      refine ⟨_, rfl, a, C i, _, _, true, rfl, ea, E.ei i hi2, .ty _, E.kitV i hi2, true, rfl, iteF ?_⟩
      refine ⟨_, rfl, a, i, rfl, hi2, ea, fun q H6 lq s6 => ?_⟩
      rw [if_pos hi] at lq
      refine ⟨_, rfl, (by show 1 ≤ sizeLine; decide), fun q2 hq2 => ⟨.list [.str (nm i)], .list [.str (nm i)], .lst (SqL.of ((same_new (Same.refl _) hq2) _ _ lq)) (.cons (.str _) .nil), .lst (SqL.of upd_same) (.cons (.str _) .nil), shp i, shp i, _, rfl, iteDn (by rw [eqv1]; decide) ?_⟩⟩
      have s7 : Same H4 (upd H6 q2 (.lst [.str (nm i)])) := same_new (s5.trans s6) hq2
      refine ⟨_, rfl, a, C i, _, rfl, ea.same (same_new s6 hq2), TB i hi2, _, rfl, _, _, rfl, rfl, nm_len i, rfl, _, rfl, iteDn (by simp) ?_⟩
      have fin : StAt (upd H6 q2 (.lst [.str (nm i)])) p ∧ (upd H6 q2 (.lst [.str (nm i)])) ww = some (.lst WORDS) := ⟨S4.same s7, s7 _ _ hw4⟩
      by_cases c5 : i < 5
      · have ef : fld i wd (d - 1) = .str wd := if_pos c5
        refine ⟨_, rfl, _, _, rfl, rfl, _, rfl, iteD (by simp; omega) ?_⟩
        refine ⟨_, rfl, _, rfl, (by rw [ef]; rfl), _, rfl, iteDn (by rw [ef]; simp) ?_⟩
        refine ⟨_, rfl, _, _, rfl, rfl, _, rfl, iteDn (by simp; omega) ?_⟩
        exact ⟨_, rfl, iteDn (by decide) ⟨_, _, _, _, _, _, rfl, fin.1, fin.2⟩⟩
      · refine ⟨_, rfl, _, _, rfl, rfl, _, rfl, iteDn (by simp; omega) ?_⟩
        by_cases c12 : i < 12
        · have ef : fld i wd (d - 1) = .int (d - 1) := (if_neg c5).trans (if_pos c12)
          refine ⟨_, rfl, _, _, rfl, rfl, _, rfl, iteD (by simp; omega) ⟨_, _, rfl, rfl, _, rfl, iteD (by simp; omega) ?_⟩⟩
          refine ⟨_, rfl, _, rfl, (by rw [ef]; rfl), _, rfl, iteDn (by rw [ef]; simp) ?_⟩
          refine ⟨_, rfl, _, _, _, _, true, rfl, .ty _, (by rw [ef]; exact .base (.int _)), kit_ty (by decide +kernel), true, rfl, iteF ?_⟩
          refine ⟨_, rfl, _, _, _, _, false, rfl, .ty _, (by rw [ef]; exact .base (.int _)), kit_ty (by decide +kernel), false, rfl, iteF ?_⟩
          exact ⟨_, _, _, _, _, _, rfl, fin.1, fin.2⟩
        · refine ⟨_, rfl, _, _, rfl, rfl, _, rfl, iteD (by simp; omega) ⟨_, _, rfl, rfl, _, rfl, iteDn (by simp; omega) ?_⟩⟩
          exact ⟨_, _, _, _, _, _, rfl, fin.1, fin.2⟩
    · rintro σ H2 ⟨z, w5, w6, w7, w8, w9, rfl, S2, hw2⟩
      exact k _
end
end Sq

namespace Sq
open PySem PySem.Spec PyProof.Rows L2
theorem kit_self {K : PySem.W.Frag} {C : Addr} : PySem.W.kitOne K (.ref C) (.ref C) = some true := by
  unfold PySem.W.kitOne
  rw [if_pos (by simp)]
theorem cls_some {K : PySem.W.Frag} {C : Addr} (h : PySem.W.hasDictIn K C = true) : (PySem.W.clsIn K C).isSome = true := by
  obtain ⟨cd, hc, _⟩ := PySem.W.any_some h
  rw [hc]
  rfl
theorem kit_own {K : PySem.W.Frag} {C : Addr} {t : Value} (h : PySem.W.hasDictIn K C = true) (ht : PySem.W.typeIn K (.ref C) = some (.type "type")) (hs : PySem.W.subIn K t (.ref C) = some true) : PySem.W.kitOne K t (.ref C) = some true := by
  unfold PySem.W.kitOne
  split
  · rfl
  · show (if ((PySem.W.clsIn K C).isSome && PySem.W.typeIn K (.ref C) == some (.type "type")) = true then PySem.W.subIn K t (.ref C) else none) = some true
    rw [cls_some h, ht]
    simpa using hs
theorem kit_tyo {K : PySem.W.Frag} {C : Addr} {T : String} {b : Bool} (h : PySem.W.hasDictIn K C = true) (ht : PySem.W.typeIn K (.ref C) = some (.type "type")) (hs : PySem.W.subIn K (.type T) (.ref C) = some b) : PySem.W.kitOne K (.type T) (.ref C) = some b := by
  unfold PySem.W.kitOne
  rw [if_neg (by simp)]
  show (if ((PySem.W.clsIn K C).isSome && PySem.W.typeIn K (.ref C) == some (.type "type")) = true then PySem.W.subIn K (.type T) (.ref C) else none) = some b
  rw [cls_some h, ht]
  simpa using hs
theorem kit_ty2 {K : PySem.W.Frag} {C : Addr} {T : String} {b : Bool} (hm : PySem.W.kitMeta T = true) (hs : PySem.W.subIn K (.ref C) (.type T) = some b) : PySem.W.kitOne K (.ref C) (.type T) = some b := by
  unfold PySem.W.kitOne
  rw [if_neg (by simp)]
  show (if PySem.W.kitMeta T = true then PySem.W.subIn K (.ref C) (.type T) else none) = some b
  rw [if_pos hm]
  exact hs
theorem ns_ok {K : PySem.W.Frag} {N : Addr} {oc : Value} {od : Option Addr} {es : Array DictEntry} {n : Nat} {sl : Array (Option Value)} (h : K.lookup N = some ⟨oc, od, .dict es n, sl⟩) (e : (es.toList.all fun e => match e.key with | .str _ _ => true | _ => false) = true) : PySem.W.nsOkIn K N = true := by
  unfold PySem.W.nsOkIn
  rw [h]
  rw [Array.all_toList] at e
  exact e
theorem tail0 {K : PySem.W.Frag} : PySem.W.tailIn K [.type "ValueError", .type "Exception", .type "BaseException", .type "object"] [.type "ValueError", .type "Exception", .type "BaseException", .type "object"] = true := by
  unfold PySem.W.tailIn
  simp
theorem tail1 {K : PySem.W.Frag} {C : Addr} {nm q : Str} {N : Addr} {bs bm : List Value} {sn : List Str} {sub : List Value} {ab : Bool} {col : Option Bool} {dd : Option Addr} {k0 k1 k2 k3 k5 : Option Value} {nw : String} (h : K.lookup C = some (excClassObj nm q C N bs bm true sn sub ab col dd k0 k1 k2 k3 k5 nw)) (ok : PySem.W.nsOkIn K N = true) (ni : PySem.W.nsIn K N "__init__" = some none) :
    PySem.W.tailIn K [.type "ValueError", .type "Exception", .type "BaseException", .type "object"] [.ref C, .type "ValueError", .type "Exception", .type "BaseException", .type "object"] = true := by
  unfold PySem.W.tailIn
  dsimp only
  rw [h]
  show (_ || (PySem.W.nsOkIn K N && PySem.W.nsIn K N "__init__" == some none && PySem.W.tailIn K _ _)) = true
  rw [ok, ni, tail0]
  simp
theorem exc_in {K : PySem.W.Frag} {C : Addr} {nm q : Str} {N : Addr} {bs bm bmB : List Value} {sn : List Str} {sub : List Value} {ab : Bool} {col : Option Bool} {dd : Option Addr} {k0 k1 k2 k3 k5 : Option Value} {nw : String} (h : K.lookup C = some (excClassObj nm q C N bs bm true sn sub ab col dd k0 k1 k2 k3 k5 nw)) (ok : PySem.W.nsOkIn K N = true) (ni : PySem.W.nsIn K N "__init__" = some none) (tl : PySem.W.tailIn K bmB bm = true) :
    PySem.W.excIn K C bmB nw = true := by
  unfold PySem.W.excIn
  rw [h]
  show (C == C && nw == nw && !false && PySem.W.tailIn K bmB bm && PySem.W.nsOkIn K N && PySem.W.nsIn K N "__init__" == some none) = true
  rw [tl, ok, ni]
  simp
theorem cls_of_x {K : PySem.W.Frag} {C : Addr} {nm q : Str} {N : Addr} {bs bm : List Value} {sn : List Str} {sub : List Value} {ab : Bool} {col : Option Bool} {dd : Option Addr} {k0 k1 k2 k3 k5 : Option Value} {nw : String} (h : K.lookup C = some (excClassObj nm q C N bs bm true sn sub ab col dd k0 k1 k2 k3 k5 nw)) :
    ∃ cd, PySem.W.clsIn K C = some cd ∧ cd.mro = .ref C :: bm := by
  refine ⟨{ name := nm, bases := bs, mro := .ref C :: bm, ns := N, qualname := q, hasDict := true, slotNames := sn, subclasses := sub, abstract := ab, collection := col, hasDel := false }, ?_, rfl⟩
  unfold PySem.W.clsIn
  rw [h] <;> rfl
structure XC (K : PySem.W.Frag) (C : Addr) (bm : List Value) : Prop where
  cl : ∃ cd, PySem.W.clsIn K C = some cd ∧ cd.mro = .ref C :: bm
  ty : PySem.W.typeIn K (.ref C) = some (.type "type")
theorem XC.sub {K : PySem.W.Frag} {C : Addr} {bm : List Value} (x : XC K C bm) (v : Value) : PySem.W.subIn K (.ref C) v = some ((Value.ref C :: bm).contains v) := by
  obtain ⟨⟨cd, h, e⟩, _⟩ := x
  show PySem.W.mroIn K C v = _
  unfold PySem.W.mroIn
  rw [h, Option.bind_some, e]
  rfl
theorem XC.some {K : PySem.W.Frag} {C : Addr} {bm : List Value} (x : XC K C bm) : (PySem.W.clsIn K C).isSome = true := by
  obtain ⟨⟨cd, h, _⟩, _⟩ := x
  rw [h]
  rfl
theorem XC.sub_yes {K : PySem.W.Frag} {C : Addr} {bm : List Value} {v : Value} (x : XC K C bm) (h : bm.contains v = true) : PySem.W.subIn K (.ref C) v = Option.some true := by
  rw [x.sub, List.contains_cons, h, Bool.or_true]
theorem XC.kit {K : PySem.W.Frag} {C D : Addr} {bm bd : List Value} (x : XC K C bm) (y : XC K D bd) : PySem.W.kitOne K (.ref C) (.ref D) = Option.some ((Value.ref C :: bm).contains (.ref D)) := by
  by_cases h : C = D
  · subst h
    rw [kit_self, List.contains_cons]
    simp
  · unfold PySem.W.kitOne
    rw [if_neg (by simpa using h)]
    show (if ((PySem.W.clsIn K D).isSome && PySem.W.typeIn K (.ref D) == Option.some (.type "type")) = true then PySem.W.subIn K (.ref C) (.ref D) else none) = _
    rw [y.some, y.ty, x.sub]
    simp
theorem kit_all {K : PySem.W.Frag} {l : List Addr} {s : Addr} (hs : l.getD 21 0 = s) (hinj : ∀ i, i < 22 → ∀ j, j < 22 → l.getD i 0 = l.getD j 0 → i = j)
    (XS : ∀ i, i < 22 → XC K (l.getD i 0) (if i < 21 then [.ref s, .type "ValueError", .type "Exception", .type "BaseException", .type "object"] else [.type "ValueError", .type "Exception", .type "BaseException", .type "object"])) :
    (∀ i j, i < 22 → j < 21 → PySem.W.kitOne K (.ref (l.getD i 0)) (.ref (l.getD j 0)) = some (decide (i = j))) ∧ (∀ i, i < 22 → PySem.W.kitOne K (.ref (l.getD i 0)) (.ref (l.getD 21 0)) = some true) ∧
      ∀ i, i < 22 → PySem.W.kitOne K (.ref (l.getD i 0)) (.type "ValueError") = some true := by
  refine ⟨fun i j hi hj => ?_, fun i hi => ?_, fun i hi => ?_⟩
  · rw [(XS i hi).kit (XS j (by omega)), List.contains_cons]
    have hsj : l.getD j 0 ≠ s := fun e => by
      have := hinj j (by omega) 21 (by decide) (e.trans hs.symm)
      omega
    have e2 : (if i < 21 then [Value.ref s, .type "ValueError", .type "Exception", .type "BaseException", .type "object"] else [.type "ValueError", .type "Exception", .type "BaseException", .type "object"]).contains (.ref (l.getD j 0)) = false := by
      generalize l.getD j 0 = y at hsj ⊢
      split <;> simp [hsj]
    rw [e2, Bool.or_false]
    by_cases e : i = j
    · subst e
      simp
    · have ne : l.getD j 0 ≠ l.getD i 0 := fun z => e (hinj i hi j (by omega) z.symm)
      rw [decide_eq_false e]
      simp only [beq_eq_false_iff_ne, ne_eq, Option.some.injEq, Value.ref.injEq]
      exact ne
  · rw [(XS i hi).kit (XS 21 (by decide)), List.contains_cons, hs]
    by_cases c : i < 21
    · rw [if_pos c, List.contains_cons]
      simp
    · have e : i = 21 := by omega
      subst e
      rw [hs]
      simp
  · refine kit_ty2 (by decide +kernel) ((XS i hi).sub_yes ?_)
    split <;> simp
theorem all_mk {P : Program} {w : World} {K : PySem.W.Frag} {h : Heap} {mg : Str → Option Value} {fa : Addr} (X : K.In h) (G : h.Ns mainGlobals mg) (hfa : mg "law" = some (.ref fa))
    {CE21 NaE21 fT21 CE0 NaE0 fT0 fI0 CE1 NaE1 fT1 fI1 CE2 NaE2 fT2 fI2 CE3 NaE3 fT3 fI3 CE4 NaE4 fT4 fI4 CE5 NaE5 fT5 fI5 CE6 NaE6 fT6 fI6 CE7 NaE7 fT7 fI7 CE8 NaE8 fT8 fI8 CE9 NaE9 fT9 fI9 CE10 NaE10 fT10 fI10 CE11 NaE11 fT11 fI11 CE12 NaE12 fT12 CE13 NaE13 fT13 CE14 NaE14 fT14 CE15 NaE15 fT15 CE16 NaE16 fT16 CE17 NaE17 fT17 CE18 NaE18 fT18 CE19 NaE19 fT19 CE20 NaE20 fT20 fstate fdraw fmade fnames fmore fla : Addr} {ddE21 odT21 anT21 ndE21 ddE0 odT0 anT0 odI0 anI0 ddE1 odT1 anT1 odI1 anI1 ddE2 odT2 anT2 odI2 anI2 ddE3 odT3 anT3 odI3 anI3 ddE4 odT4 anT4 odI4 anI4 ddE5 odT5 anT5 odI5 anI5 ddE6 odT6 anT6 odI6 anI6 ddE7 odT7 anT7 odI7 anI7 ddE8 odT8 anT8 odI8 anI8 ddE9 odT9 anT9 odI9 anI9 ddE10 odT10 anT10 odI10 anI10 ddE11 odT11 anT11 odI11 anI11 ddE12 odT12 anT12 ndE12 ddE13 odT13 anT13 ndE13 ddE14 odT14 anT14 ndE14 ddE15 odT15 anT15 ndE15 ddE16 odT16 anT16 ndE16 ddE17 odT17 anT17 ndE17 ddE18 odT18 anT18 ndE18 ddE19 odT19 anT19 ndE19 ddE20 odT20 anT20 ndE20 odstate anstate oddraw andraw odmade anmade odnames annames odmore anmore odla anla : Option Addr} {slT21 nsE21 slT0 slI0 slT1 slI1 slT2 slI2 slT3 slI3 slT4 slI4 slT5 slI5 slT6 slI6 slT7 slI7 slT8 slI8 slT9 slI9 slT10 slI10 slT11 slI11 slT12 nsE12 slT13 nsE13 slT14 nsE14 slT15 nsE15 slT16 nsE16 slT17 nsE17 slT18 nsE18 slT19 nsE19 slT20 nsE20 slstate sldraw slmade slnames slmore slla : Array (Option Value)} {ocT21 kVT21 dcT21 pmT21 cdT21 ctT21 ncE21 ocT0 kVT0 dcT0 pmT0 cdT0 ctT0 ocI0 kVI0 dcI0 pmI0 cdI0 ctI0 ocT1 kVT1 dcT1 pmT1 cdT1 ctT1 ocI1 kVI1 dcI1 pmI1 cdI1 ctI1 ocT2 kVT2 dcT2 pmT2 cdT2 ctT2 ocI2 kVI2 dcI2 pmI2 cdI2 ctI2 ocT3 kVT3 dcT3 pmT3 cdT3 ctT3 ocI3 kVI3 dcI3 pmI3 cdI3 ctI3 ocT4 kVT4 dcT4 pmT4 cdT4 ctT4 ocI4 kVI4 dcI4 pmI4 cdI4 ctI4 ocT5 kVT5 dcT5 pmT5 cdT5 ctT5 ocI5 kVI5 dcI5 pmI5 cdI5 ctI5 ocT6 kVT6 dcT6 pmT6 cdT6 ctT6 ocI6 kVI6 dcI6 pmI6 cdI6 ctI6 ocT7 kVT7 dcT7 pmT7 cdT7 ctT7 ocI7 kVI7 dcI7 pmI7 cdI7 ctI7 ocT8 kVT8 dcT8 pmT8 cdT8 ctT8 ocI8 kVI8 dcI8 pmI8 cdI8 ctI8 ocT9 kVT9 dcT9 pmT9 cdT9 ctT9 ocI9 kVI9 dcI9 pmI9 cdI9 ctI9 ocT10 kVT10 dcT10 pmT10 cdT10 ctT10 ocI10 kVI10 dcI10 pmI10 cdI10 ctI10 ocT11 kVT11 dcT11 pmT11 cdT11 ctT11 ocI11 kVI11 dcI11 pmI11 cdI11 ctI11 ocT12 kVT12 dcT12 pmT12 cdT12 ctT12 ncE12 ocT13 kVT13 dcT13 pmT13 cdT13 ctT13 ncE13 ocT14 kVT14 dcT14 pmT14 cdT14 ctT14 ncE14 ocT15 kVT15 dcT15 pmT15 cdT15 ctT15 ncE15 ocT16 kVT16 dcT16 pmT16 cdT16 ctT16 ncE16 ocT17 kVT17 dcT17 pmT17 cdT17 ctT17 ncE17 ocT18 kVT18 dcT18 pmT18 cdT18 ctT18 ncE18 ocT19 kVT19 dcT19 pmT19 cdT19 ctT19 ncE19 ocT20 kVT20 dcT20 pmT20 cdT20 ctT20 ncE20 ocstate kVstate dcstate pmstate cdstate ctstate ocdraw kVdraw dcdraw pmdraw cddraw ctdraw ocmade kVmade dcmade pmmade cdmade ctmade ocnames kVnames dcnames pmnames cdnames ctnames ocmore kVmore dcmore pmmore cdmore ctmore ocla kVla dcla pmla cdla ctla : Value} {npE21 npE12 npE13 npE14 npE15 npE16 npE17 npE18 npE19 npE20 : Nat} {nmE21 qE21 nmE0 qE0 nmE1 qE1 nmE2 qE2 nmE3 qE3 nmE4 qE4 nmE5 qE5 nmE6 qE6 nmE7 qE7 nmE8 qE8 nmE9 qE9 nmE10 qE10 nmE11 qE11 nmE12 qE12 nmE13 qE13 nmE14 qE14 nmE15 qE15 nmE16 qE16 nmE17 qE17 nmE18 qE18 nmE19 qE19 nmE20 qE20 : Str} {bsE21 subE21 bsE0 subE0 bsE1 subE1 bsE2 subE2 bsE3 subE3 bsE4 subE4 bsE5 subE5 bsE6 subE6 bsE7 subE7 bsE8 subE8 bsE9 subE9 bsE10 subE10 bsE11 subE11 bsE12 subE12 bsE13 subE13 bsE14 subE14 bsE15 subE15 bsE16 subE16 bsE17 subE17 bsE18 subE18 bsE19 subE19 bsE20 subE20 : List Value} {snE21 snE0 snE1 snE2 snE3 snE4 snE5 snE6 snE7 snE8 snE9 snE10 snE11 snE12 snE13 snE14 snE15 snE16 snE17 snE18 snE19 snE20 : List Str} {abE21 abE0 abE1 abE2 abE3 abE4 abE5 abE6 abE7 abE8 abE9 abE10 abE11 abE12 abE13 abE14 abE15 abE16 abE17 abE18 abE19 abE20 : Bool} {colE21 colE0 colE1 colE2 colE3 colE4 colE5 colE6 colE7 colE8 colE9 colE10 colE11 colE12 colE13 colE14 colE15 colE16 colE17 colE18 colE19 colE20 : Option Bool} {m0E21 m1E21 m2E21 m3E21 m5E21 m0E0 m1E0 m2E0 m3E0 m5E0 m0E1 m1E1 m2E1 m3E1 m5E1 m0E2 m1E2 m2E2 m3E2 m5E2 m0E3 m1E3 m2E3 m3E3 m5E3 m0E4 m1E4 m2E4 m3E4 m5E4 m0E5 m1E5 m2E5 m3E5 m5E5 m0E6 m1E6 m2E6 m3E6 m5E6 m0E7 m1E7 m2E7 m3E7 m5E7 m0E8 m1E8 m2E8 m3E8 m5E8 m0E9 m1E9 m2E9 m3E9 m5E9 m0E10 m1E10 m2E10 m3E10 m5E10 m0E11 m1E11 m2E11 m3E11 m5E11 m0E12 m1E12 m2E12 m3E12 m5E12 m0E13 m1E13 m2E13 m3E13 m5E13 m0E14 m1E14 m2E14 m3E14 m5E14 m0E15 m1E15 m2E15 m3E15 m5E15 m0E16 m1E16 m2E16 m3E16 m5E16 m0E17 m1E17 m2E17 m3E17 m5E17 m0E18 m1E18 m2E18 m3E18 m5E18 m0E19 m1E19 m2E19 m3E19 m5E19 m0E20 m1E20 m2E20 m3E20 m5E20 : Option Value} {neE21 neE12 neE13 neE14 neE15 neE16 neE17 neE18 neE19 neE20 : Array DictEntry}
    (y5 : PySem.W.specialIn K (.builtin "object.__class__") "__get__" = some (some (.builtin "getset_descriptor.__get__")))
    (y6 : PySem.W.takesIn K (.builtin "object.__class__") = some true)
    (aE21 : PySem.W.nsIn K mainGlobals "SeriesError" = some (some (.ref CE21)))
    (xLE21 : K.lookup CE21 = some (excClassObj nmE21 qE21 CE21 NaE21 bsE21 [.type "ValueError", .type "Exception", .type "BaseException", .type "object"] true snE21 subE21 abE21 colE21 ddE21 m0E21 m1E21 m2E21 m3E21 m5E21 "ValueError.__new__"))
    (x3E21 : PySem.W.typeIn K (.ref CE21) = some (.type "type"))
    (y2E21 : PySem.W.findIn K (.ref CE21) "__getattribute__" = some (some (.builtin "BaseException.__getattribute__")))
    (y3E21 : PySem.W.findIn K (.ref CE21) "__getattr__" = some none)
    (y4E21 : PySem.W.findIn K (.ref CE21) "__class__" = some (some (.builtin "object.__class__")))
    (x4E21 : PySem.W.keepIn K (.ref CE21) = true)
    (aT21 : PySem.W.findIn K (.ref CE21) "told" = some (some (.ref fT21)))
    (lT21 : K.lookup fT21 = some ⟨ocT21, odT21, .func (PySem.W.fnOf "told" "SeriesError.told" (defArgs s_told21) (defBody s_told21) (defScope s_told21) .none kVT21 dcT21 pmT21 anT21 cdT21 ctT21), slT21⟩)
    (cT21 : PySem.W.codeIn K cdT21 "SeriesError.told" = true)
    (kT21 : PySem.W.keepIn K (.ref fT21) = true)
    (iT21 : PySem.W.isFn K (.ref fT21) = true)
    (n1E21 : K.lookup NaE21 = some ⟨ncE21, ndE21, .dict neE21 npE21, nsE21⟩)
    (n2E21 : (neE21.toList.all fun e => match e.key with | .str _ _ => true | _ => false) = true)
    (n3E21 : PySem.W.nsIn K NaE21 "__init__" = some none)
    (aE0 : PySem.W.nsIn K mainGlobals "NoRatio" = some (some (.ref CE0)))
    (xLE0 : K.lookup CE0 = some (excClassObj nmE0 qE0 CE0 NaE0 bsE0 [.ref CE21, .type "ValueError", .type "Exception", .type "BaseException", .type "object"] true snE0 subE0 abE0 colE0 ddE0 m0E0 m1E0 m2E0 m3E0 m5E0 "ValueError.__new__"))
    (x3E0 : PySem.W.typeIn K (.ref CE0) = some (.type "type"))
    (y2E0 : PySem.W.findIn K (.ref CE0) "__getattribute__" = some (some (.builtin "BaseException.__getattribute__")))
    (y3E0 : PySem.W.findIn K (.ref CE0) "__getattr__" = some none)
    (y4E0 : PySem.W.findIn K (.ref CE0) "__class__" = some (some (.builtin "object.__class__")))
    (x4E0 : PySem.W.keepIn K (.ref CE0) = true)
    (aT0 : PySem.W.findIn K (.ref CE0) "told" = some (some (.ref fT0)))
    (lT0 : K.lookup fT0 = some ⟨ocT0, odT0, .func (PySem.W.fnOf "told" "NoRatio.told" (defArgs s_told0) (defBody s_told0) (defScope s_told0) .none kVT0 dcT0 pmT0 anT0 cdT0 ctT0), slT0⟩)
    (cT0 : PySem.W.codeIn K cdT0 "NoRatio.told" = true)
    (kT0 : PySem.W.keepIn K (.ref fT0) = true)
    (iT0 : PySem.W.isFn K (.ref fT0) = true)
    (x1E0 : PySem.W.findIn K (.ref CE0) "__setattr__" = some (some (.builtin "object.__setattr__")))
    (x5E0 : PySem.W.findIn K (.ref CE0) "word" = some none)
    (y8E0 : PySem.W.hasDictIn K CE0 = true)
    (aI0 : PySem.W.findIn K (.ref CE0) "__init__" = some (some (.ref fI0)))
    (lI0 : K.lookup fI0 = some ⟨ocI0, odI0, .func (PySem.W.fnOf "__init__" "NoRatio.__init__" (defArgs s_init0) (defBody s_init0) (defScope s_init0) .none kVI0 dcI0 pmI0 anI0 cdI0 ctI0), slI0⟩)
    (cI0 : PySem.W.codeIn K cdI0 "NoRatio.__init__" = true)
    (kI0 : PySem.W.keepIn K (.ref fI0) = true)
    (iI0 : PySem.W.isFn K (.ref fI0) = true)
    (x6E0 : PySem.W.typeIn K (.ref fI0) = some (.type "function"))
    (aE1 : PySem.W.nsIn K mainGlobals "NoFraction" = some (some (.ref CE1)))
    (xLE1 : K.lookup CE1 = some (excClassObj nmE1 qE1 CE1 NaE1 bsE1 [.ref CE21, .type "ValueError", .type "Exception", .type "BaseException", .type "object"] true snE1 subE1 abE1 colE1 ddE1 m0E1 m1E1 m2E1 m3E1 m5E1 "ValueError.__new__"))
    (x3E1 : PySem.W.typeIn K (.ref CE1) = some (.type "type"))
    (y2E1 : PySem.W.findIn K (.ref CE1) "__getattribute__" = some (some (.builtin "BaseException.__getattribute__")))
    (y3E1 : PySem.W.findIn K (.ref CE1) "__getattr__" = some none)
    (y4E1 : PySem.W.findIn K (.ref CE1) "__class__" = some (some (.builtin "object.__class__")))
    (x4E1 : PySem.W.keepIn K (.ref CE1) = true)
    (aT1 : PySem.W.findIn K (.ref CE1) "told" = some (some (.ref fT1)))
    (lT1 : K.lookup fT1 = some ⟨ocT1, odT1, .func (PySem.W.fnOf "told" "NoFraction.told" (defArgs s_told1) (defBody s_told1) (defScope s_told1) .none kVT1 dcT1 pmT1 anT1 cdT1 ctT1), slT1⟩)
    (cT1 : PySem.W.codeIn K cdT1 "NoFraction.told" = true)
    (kT1 : PySem.W.keepIn K (.ref fT1) = true)
    (iT1 : PySem.W.isFn K (.ref fT1) = true)
    (x1E1 : PySem.W.findIn K (.ref CE1) "__setattr__" = some (some (.builtin "object.__setattr__")))
    (x5E1 : PySem.W.findIn K (.ref CE1) "word" = some none)
    (y8E1 : PySem.W.hasDictIn K CE1 = true)
    (aI1 : PySem.W.findIn K (.ref CE1) "__init__" = some (some (.ref fI1)))
    (lI1 : K.lookup fI1 = some ⟨ocI1, odI1, .func (PySem.W.fnOf "__init__" "NoFraction.__init__" (defArgs s_init1) (defBody s_init1) (defScope s_init1) .none kVI1 dcI1 pmI1 anI1 cdI1 ctI1), slI1⟩)
    (cI1 : PySem.W.codeIn K cdI1 "NoFraction.__init__" = true)
    (kI1 : PySem.W.keepIn K (.ref fI1) = true)
    (iI1 : PySem.W.isFn K (.ref fI1) = true)
    (x6E1 : PySem.W.typeIn K (.ref fI1) = some (.type "function"))
    (aE2 : PySem.W.nsIn K mainGlobals "NoCell" = some (some (.ref CE2)))
    (xLE2 : K.lookup CE2 = some (excClassObj nmE2 qE2 CE2 NaE2 bsE2 [.ref CE21, .type "ValueError", .type "Exception", .type "BaseException", .type "object"] true snE2 subE2 abE2 colE2 ddE2 m0E2 m1E2 m2E2 m3E2 m5E2 "ValueError.__new__"))
    (x3E2 : PySem.W.typeIn K (.ref CE2) = some (.type "type"))
    (y2E2 : PySem.W.findIn K (.ref CE2) "__getattribute__" = some (some (.builtin "BaseException.__getattribute__")))
    (y3E2 : PySem.W.findIn K (.ref CE2) "__getattr__" = some none)
    (y4E2 : PySem.W.findIn K (.ref CE2) "__class__" = some (some (.builtin "object.__class__")))
    (x4E2 : PySem.W.keepIn K (.ref CE2) = true)
    (aT2 : PySem.W.findIn K (.ref CE2) "told" = some (some (.ref fT2)))
    (lT2 : K.lookup fT2 = some ⟨ocT2, odT2, .func (PySem.W.fnOf "told" "NoCell.told" (defArgs s_told2) (defBody s_told2) (defScope s_told2) .none kVT2 dcT2 pmT2 anT2 cdT2 ctT2), slT2⟩)
    (cT2 : PySem.W.codeIn K cdT2 "NoCell.told" = true)
    (kT2 : PySem.W.keepIn K (.ref fT2) = true)
    (iT2 : PySem.W.isFn K (.ref fT2) = true)
    (x1E2 : PySem.W.findIn K (.ref CE2) "__setattr__" = some (some (.builtin "object.__setattr__")))
    (x5E2 : PySem.W.findIn K (.ref CE2) "word" = some none)
    (y8E2 : PySem.W.hasDictIn K CE2 = true)
    (aI2 : PySem.W.findIn K (.ref CE2) "__init__" = some (some (.ref fI2)))
    (lI2 : K.lookup fI2 = some ⟨ocI2, odI2, .func (PySem.W.fnOf "__init__" "NoCell.__init__" (defArgs s_init2) (defBody s_init2) (defScope s_init2) .none kVI2 dcI2 pmI2 anI2 cdI2 ctI2), slI2⟩)
    (cI2 : PySem.W.codeIn K cdI2 "NoCell.__init__" = true)
    (kI2 : PySem.W.keepIn K (.ref fI2) = true)
    (iI2 : PySem.W.isFn K (.ref fI2) = true)
    (x6E2 : PySem.W.typeIn K (.ref fI2) = some (.type "function"))
    (aE3 : PySem.W.nsIn K mainGlobals "NoImage" = some (some (.ref CE3)))
    (xLE3 : K.lookup CE3 = some (excClassObj nmE3 qE3 CE3 NaE3 bsE3 [.ref CE21, .type "ValueError", .type "Exception", .type "BaseException", .type "object"] true snE3 subE3 abE3 colE3 ddE3 m0E3 m1E3 m2E3 m3E3 m5E3 "ValueError.__new__"))
    (x3E3 : PySem.W.typeIn K (.ref CE3) = some (.type "type"))
    (y2E3 : PySem.W.findIn K (.ref CE3) "__getattribute__" = some (some (.builtin "BaseException.__getattribute__")))
    (y3E3 : PySem.W.findIn K (.ref CE3) "__getattr__" = some none)
    (y4E3 : PySem.W.findIn K (.ref CE3) "__class__" = some (some (.builtin "object.__class__")))
    (x4E3 : PySem.W.keepIn K (.ref CE3) = true)
    (aT3 : PySem.W.findIn K (.ref CE3) "told" = some (some (.ref fT3)))
    (lT3 : K.lookup fT3 = some ⟨ocT3, odT3, .func (PySem.W.fnOf "told" "NoImage.told" (defArgs s_told3) (defBody s_told3) (defScope s_told3) .none kVT3 dcT3 pmT3 anT3 cdT3 ctT3), slT3⟩)
    (cT3 : PySem.W.codeIn K cdT3 "NoImage.told" = true)
    (kT3 : PySem.W.keepIn K (.ref fT3) = true)
    (iT3 : PySem.W.isFn K (.ref fT3) = true)
    (x1E3 : PySem.W.findIn K (.ref CE3) "__setattr__" = some (some (.builtin "object.__setattr__")))
    (x5E3 : PySem.W.findIn K (.ref CE3) "word" = some none)
    (y8E3 : PySem.W.hasDictIn K CE3 = true)
    (aI3 : PySem.W.findIn K (.ref CE3) "__init__" = some (some (.ref fI3)))
    (lI3 : K.lookup fI3 = some ⟨ocI3, odI3, .func (PySem.W.fnOf "__init__" "NoImage.__init__" (defArgs s_init3) (defBody s_init3) (defScope s_init3) .none kVI3 dcI3 pmI3 anI3 cdI3 ctI3), slI3⟩)
    (cI3 : PySem.W.codeIn K cdI3 "NoImage.__init__" = true)
    (kI3 : PySem.W.keepIn K (.ref fI3) = true)
    (iI3 : PySem.W.isFn K (.ref fI3) = true)
    (x6E3 : PySem.W.typeIn K (.ref fI3) = some (.type "function"))
    (aE4 : PySem.W.nsIn K mainGlobals "NoText" = some (some (.ref CE4)))
    (xLE4 : K.lookup CE4 = some (excClassObj nmE4 qE4 CE4 NaE4 bsE4 [.ref CE21, .type "ValueError", .type "Exception", .type "BaseException", .type "object"] true snE4 subE4 abE4 colE4 ddE4 m0E4 m1E4 m2E4 m3E4 m5E4 "ValueError.__new__"))
    (x3E4 : PySem.W.typeIn K (.ref CE4) = some (.type "type"))
    (y2E4 : PySem.W.findIn K (.ref CE4) "__getattribute__" = some (some (.builtin "BaseException.__getattribute__")))
    (y3E4 : PySem.W.findIn K (.ref CE4) "__getattr__" = some none)
    (y4E4 : PySem.W.findIn K (.ref CE4) "__class__" = some (some (.builtin "object.__class__")))
    (x4E4 : PySem.W.keepIn K (.ref CE4) = true)
    (aT4 : PySem.W.findIn K (.ref CE4) "told" = some (some (.ref fT4)))
    (lT4 : K.lookup fT4 = some ⟨ocT4, odT4, .func (PySem.W.fnOf "told" "NoText.told" (defArgs s_told4) (defBody s_told4) (defScope s_told4) .none kVT4 dcT4 pmT4 anT4 cdT4 ctT4), slT4⟩)
    (cT4 : PySem.W.codeIn K cdT4 "NoText.told" = true)
    (kT4 : PySem.W.keepIn K (.ref fT4) = true)
    (iT4 : PySem.W.isFn K (.ref fT4) = true)
    (x1E4 : PySem.W.findIn K (.ref CE4) "__setattr__" = some (some (.builtin "object.__setattr__")))
    (x5E4 : PySem.W.findIn K (.ref CE4) "word" = some none)
    (y8E4 : PySem.W.hasDictIn K CE4 = true)
    (aI4 : PySem.W.findIn K (.ref CE4) "__init__" = some (some (.ref fI4)))
    (lI4 : K.lookup fI4 = some ⟨ocI4, odI4, .func (PySem.W.fnOf "__init__" "NoText.__init__" (defArgs s_init4) (defBody s_init4) (defScope s_init4) .none kVI4 dcI4 pmI4 anI4 cdI4 ctI4), slI4⟩)
    (cI4 : PySem.W.codeIn K cdI4 "NoText.__init__" = true)
    (kI4 : PySem.W.keepIn K (.ref fI4) = true)
    (iI4 : PySem.W.isFn K (.ref fI4) = true)
    (x6E4 : PySem.W.typeIn K (.ref fI4) = some (.type "function"))
    (aE5 : PySem.W.nsIn K mainGlobals "NoPoly" = some (some (.ref CE5)))
    (xLE5 : K.lookup CE5 = some (excClassObj nmE5 qE5 CE5 NaE5 bsE5 [.ref CE21, .type "ValueError", .type "Exception", .type "BaseException", .type "object"] true snE5 subE5 abE5 colE5 ddE5 m0E5 m1E5 m2E5 m3E5 m5E5 "ValueError.__new__"))
    (x3E5 : PySem.W.typeIn K (.ref CE5) = some (.type "type"))
    (y2E5 : PySem.W.findIn K (.ref CE5) "__getattribute__" = some (some (.builtin "BaseException.__getattribute__")))
    (y3E5 : PySem.W.findIn K (.ref CE5) "__getattr__" = some none)
    (y4E5 : PySem.W.findIn K (.ref CE5) "__class__" = some (some (.builtin "object.__class__")))
    (x4E5 : PySem.W.keepIn K (.ref CE5) = true)
    (aT5 : PySem.W.findIn K (.ref CE5) "told" = some (some (.ref fT5)))
    (lT5 : K.lookup fT5 = some ⟨ocT5, odT5, .func (PySem.W.fnOf "told" "NoPoly.told" (defArgs s_told5) (defBody s_told5) (defScope s_told5) .none kVT5 dcT5 pmT5 anT5 cdT5 ctT5), slT5⟩)
    (cT5 : PySem.W.codeIn K cdT5 "NoPoly.told" = true)
    (kT5 : PySem.W.keepIn K (.ref fT5) = true)
    (iT5 : PySem.W.isFn K (.ref fT5) = true)
    (x1E5 : PySem.W.findIn K (.ref CE5) "__setattr__" = some (some (.builtin "object.__setattr__")))
    (x5E5 : PySem.W.findIn K (.ref CE5) "place" = some none)
    (y8E5 : PySem.W.hasDictIn K CE5 = true)
    (aI5 : PySem.W.findIn K (.ref CE5) "__init__" = some (some (.ref fI5)))
    (lI5 : K.lookup fI5 = some ⟨ocI5, odI5, .func (PySem.W.fnOf "__init__" "NoPoly.__init__" (defArgs s_init5) (defBody s_init5) (defScope s_init5) .none kVI5 dcI5 pmI5 anI5 cdI5 ctI5), slI5⟩)
    (cI5 : PySem.W.codeIn K cdI5 "NoPoly.__init__" = true)
    (kI5 : PySem.W.keepIn K (.ref fI5) = true)
    (iI5 : PySem.W.isFn K (.ref fI5) = true)
    (x6E5 : PySem.W.typeIn K (.ref fI5) = some (.type "function"))
    (aE6 : PySem.W.nsIn K mainGlobals "NoSeries" = some (some (.ref CE6)))
    (xLE6 : K.lookup CE6 = some (excClassObj nmE6 qE6 CE6 NaE6 bsE6 [.ref CE21, .type "ValueError", .type "Exception", .type "BaseException", .type "object"] true snE6 subE6 abE6 colE6 ddE6 m0E6 m1E6 m2E6 m3E6 m5E6 "ValueError.__new__"))
    (x3E6 : PySem.W.typeIn K (.ref CE6) = some (.type "type"))
    (y2E6 : PySem.W.findIn K (.ref CE6) "__getattribute__" = some (some (.builtin "BaseException.__getattribute__")))
    (y3E6 : PySem.W.findIn K (.ref CE6) "__getattr__" = some none)
    (y4E6 : PySem.W.findIn K (.ref CE6) "__class__" = some (some (.builtin "object.__class__")))
    (x4E6 : PySem.W.keepIn K (.ref CE6) = true)
    (aT6 : PySem.W.findIn K (.ref CE6) "told" = some (some (.ref fT6)))
    (lT6 : K.lookup fT6 = some ⟨ocT6, odT6, .func (PySem.W.fnOf "told" "NoSeries.told" (defArgs s_told6) (defBody s_told6) (defScope s_told6) .none kVT6 dcT6 pmT6 anT6 cdT6 ctT6), slT6⟩)
    (cT6 : PySem.W.codeIn K cdT6 "NoSeries.told" = true)
    (kT6 : PySem.W.keepIn K (.ref fT6) = true)
    (iT6 : PySem.W.isFn K (.ref fT6) = true)
    (x1E6 : PySem.W.findIn K (.ref CE6) "__setattr__" = some (some (.builtin "object.__setattr__")))
    (x5E6 : PySem.W.findIn K (.ref CE6) "place" = some none)
    (y8E6 : PySem.W.hasDictIn K CE6 = true)
    (aI6 : PySem.W.findIn K (.ref CE6) "__init__" = some (some (.ref fI6)))
    (lI6 : K.lookup fI6 = some ⟨ocI6, odI6, .func (PySem.W.fnOf "__init__" "NoSeries.__init__" (defArgs s_init6) (defBody s_init6) (defScope s_init6) .none kVI6 dcI6 pmI6 anI6 cdI6 ctI6), slI6⟩)
    (cI6 : PySem.W.codeIn K cdI6 "NoSeries.__init__" = true)
    (kI6 : PySem.W.keepIn K (.ref fI6) = true)
    (iI6 : PySem.W.isFn K (.ref fI6) = true)
    (x6E6 : PySem.W.typeIn K (.ref fI6) = some (.type "function"))
    (aE7 : PySem.W.nsIn K mainGlobals "NoQuotients" = some (some (.ref CE7)))
    (xLE7 : K.lookup CE7 = some (excClassObj nmE7 qE7 CE7 NaE7 bsE7 [.ref CE21, .type "ValueError", .type "Exception", .type "BaseException", .type "object"] true snE7 subE7 abE7 colE7 ddE7 m0E7 m1E7 m2E7 m3E7 m5E7 "ValueError.__new__"))
    (x3E7 : PySem.W.typeIn K (.ref CE7) = some (.type "type"))
    (y2E7 : PySem.W.findIn K (.ref CE7) "__getattribute__" = some (some (.builtin "BaseException.__getattribute__")))
    (y3E7 : PySem.W.findIn K (.ref CE7) "__getattr__" = some none)
    (y4E7 : PySem.W.findIn K (.ref CE7) "__class__" = some (some (.builtin "object.__class__")))
    (x4E7 : PySem.W.keepIn K (.ref CE7) = true)
    (aT7 : PySem.W.findIn K (.ref CE7) "told" = some (some (.ref fT7)))
    (lT7 : K.lookup fT7 = some ⟨ocT7, odT7, .func (PySem.W.fnOf "told" "NoQuotients.told" (defArgs s_told7) (defBody s_told7) (defScope s_told7) .none kVT7 dcT7 pmT7 anT7 cdT7 ctT7), slT7⟩)
    (cT7 : PySem.W.codeIn K cdT7 "NoQuotients.told" = true)
    (kT7 : PySem.W.keepIn K (.ref fT7) = true)
    (iT7 : PySem.W.isFn K (.ref fT7) = true)
    (x1E7 : PySem.W.findIn K (.ref CE7) "__setattr__" = some (some (.builtin "object.__setattr__")))
    (x5E7 : PySem.W.findIn K (.ref CE7) "place" = some none)
    (y8E7 : PySem.W.hasDictIn K CE7 = true)
    (aI7 : PySem.W.findIn K (.ref CE7) "__init__" = some (some (.ref fI7)))
    (lI7 : K.lookup fI7 = some ⟨ocI7, odI7, .func (PySem.W.fnOf "__init__" "NoQuotients.__init__" (defArgs s_init7) (defBody s_init7) (defScope s_init7) .none kVI7 dcI7 pmI7 anI7 cdI7 ctI7), slI7⟩)
    (cI7 : PySem.W.codeIn K cdI7 "NoQuotients.__init__" = true)
    (kI7 : PySem.W.keepIn K (.ref fI7) = true)
    (iI7 : PySem.W.isFn K (.ref fI7) = true)
    (x6E7 : PySem.W.typeIn K (.ref fI7) = some (.type "function"))
    (aE8 : PySem.W.nsIn K mainGlobals "NoPoints" = some (some (.ref CE8)))
    (xLE8 : K.lookup CE8 = some (excClassObj nmE8 qE8 CE8 NaE8 bsE8 [.ref CE21, .type "ValueError", .type "Exception", .type "BaseException", .type "object"] true snE8 subE8 abE8 colE8 ddE8 m0E8 m1E8 m2E8 m3E8 m5E8 "ValueError.__new__"))
    (x3E8 : PySem.W.typeIn K (.ref CE8) = some (.type "type"))
    (y2E8 : PySem.W.findIn K (.ref CE8) "__getattribute__" = some (some (.builtin "BaseException.__getattribute__")))
    (y3E8 : PySem.W.findIn K (.ref CE8) "__getattr__" = some none)
    (y4E8 : PySem.W.findIn K (.ref CE8) "__class__" = some (some (.builtin "object.__class__")))
    (x4E8 : PySem.W.keepIn K (.ref CE8) = true)
    (aT8 : PySem.W.findIn K (.ref CE8) "told" = some (some (.ref fT8)))
    (lT8 : K.lookup fT8 = some ⟨ocT8, odT8, .func (PySem.W.fnOf "told" "NoPoints.told" (defArgs s_told8) (defBody s_told8) (defScope s_told8) .none kVT8 dcT8 pmT8 anT8 cdT8 ctT8), slT8⟩)
    (cT8 : PySem.W.codeIn K cdT8 "NoPoints.told" = true)
    (kT8 : PySem.W.keepIn K (.ref fT8) = true)
    (iT8 : PySem.W.isFn K (.ref fT8) = true)
    (x1E8 : PySem.W.findIn K (.ref CE8) "__setattr__" = some (some (.builtin "object.__setattr__")))
    (x5E8 : PySem.W.findIn K (.ref CE8) "place" = some none)
    (y8E8 : PySem.W.hasDictIn K CE8 = true)
    (aI8 : PySem.W.findIn K (.ref CE8) "__init__" = some (some (.ref fI8)))
    (lI8 : K.lookup fI8 = some ⟨ocI8, odI8, .func (PySem.W.fnOf "__init__" "NoPoints.__init__" (defArgs s_init8) (defBody s_init8) (defScope s_init8) .none kVI8 dcI8 pmI8 anI8 cdI8 ctI8), slI8⟩)
    (cI8 : PySem.W.codeIn K cdI8 "NoPoints.__init__" = true)
    (kI8 : PySem.W.keepIn K (.ref fI8) = true)
    (iI8 : PySem.W.isFn K (.ref fI8) = true)
    (x6E8 : PySem.W.typeIn K (.ref fI8) = some (.type "function"))
    (aE9 : PySem.W.nsIn K mainGlobals "NoReduction" = some (some (.ref CE9)))
    (xLE9 : K.lookup CE9 = some (excClassObj nmE9 qE9 CE9 NaE9 bsE9 [.ref CE21, .type "ValueError", .type "Exception", .type "BaseException", .type "object"] true snE9 subE9 abE9 colE9 ddE9 m0E9 m1E9 m2E9 m3E9 m5E9 "ValueError.__new__"))
    (x3E9 : PySem.W.typeIn K (.ref CE9) = some (.type "type"))
    (y2E9 : PySem.W.findIn K (.ref CE9) "__getattribute__" = some (some (.builtin "BaseException.__getattribute__")))
    (y3E9 : PySem.W.findIn K (.ref CE9) "__getattr__" = some none)
    (y4E9 : PySem.W.findIn K (.ref CE9) "__class__" = some (some (.builtin "object.__class__")))
    (x4E9 : PySem.W.keepIn K (.ref CE9) = true)
    (aT9 : PySem.W.findIn K (.ref CE9) "told" = some (some (.ref fT9)))
    (lT9 : K.lookup fT9 = some ⟨ocT9, odT9, .func (PySem.W.fnOf "told" "NoReduction.told" (defArgs s_told9) (defBody s_told9) (defScope s_told9) .none kVT9 dcT9 pmT9 anT9 cdT9 ctT9), slT9⟩)
    (cT9 : PySem.W.codeIn K cdT9 "NoReduction.told" = true)
    (kT9 : PySem.W.keepIn K (.ref fT9) = true)
    (iT9 : PySem.W.isFn K (.ref fT9) = true)
    (x1E9 : PySem.W.findIn K (.ref CE9) "__setattr__" = some (some (.builtin "object.__setattr__")))
    (x5E9 : PySem.W.findIn K (.ref CE9) "place" = some none)
    (y8E9 : PySem.W.hasDictIn K CE9 = true)
    (aI9 : PySem.W.findIn K (.ref CE9) "__init__" = some (some (.ref fI9)))
    (lI9 : K.lookup fI9 = some ⟨ocI9, odI9, .func (PySem.W.fnOf "__init__" "NoReduction.__init__" (defArgs s_init9) (defBody s_init9) (defScope s_init9) .none kVI9 dcI9 pmI9 anI9 cdI9 ctI9), slI9⟩)
    (cI9 : PySem.W.codeIn K cdI9 "NoReduction.__init__" = true)
    (kI9 : PySem.W.keepIn K (.ref fI9) = true)
    (iI9 : PySem.W.isFn K (.ref fI9) = true)
    (x6E9 : PySem.W.typeIn K (.ref fI9) = some (.type "function"))
    (aE10 : PySem.W.nsIn K mainGlobals "NoLines" = some (some (.ref CE10)))
    (xLE10 : K.lookup CE10 = some (excClassObj nmE10 qE10 CE10 NaE10 bsE10 [.ref CE21, .type "ValueError", .type "Exception", .type "BaseException", .type "object"] true snE10 subE10 abE10 colE10 ddE10 m0E10 m1E10 m2E10 m3E10 m5E10 "ValueError.__new__"))
    (x3E10 : PySem.W.typeIn K (.ref CE10) = some (.type "type"))
    (y2E10 : PySem.W.findIn K (.ref CE10) "__getattribute__" = some (some (.builtin "BaseException.__getattribute__")))
    (y3E10 : PySem.W.findIn K (.ref CE10) "__getattr__" = some none)
    (y4E10 : PySem.W.findIn K (.ref CE10) "__class__" = some (some (.builtin "object.__class__")))
    (x4E10 : PySem.W.keepIn K (.ref CE10) = true)
    (aT10 : PySem.W.findIn K (.ref CE10) "told" = some (some (.ref fT10)))
    (lT10 : K.lookup fT10 = some ⟨ocT10, odT10, .func (PySem.W.fnOf "told" "NoLines.told" (defArgs s_told10) (defBody s_told10) (defScope s_told10) .none kVT10 dcT10 pmT10 anT10 cdT10 ctT10), slT10⟩)
    (cT10 : PySem.W.codeIn K cdT10 "NoLines.told" = true)
    (kT10 : PySem.W.keepIn K (.ref fT10) = true)
    (iT10 : PySem.W.isFn K (.ref fT10) = true)
    (x1E10 : PySem.W.findIn K (.ref CE10) "__setattr__" = some (some (.builtin "object.__setattr__")))
    (x5E10 : PySem.W.findIn K (.ref CE10) "place" = some none)
    (y8E10 : PySem.W.hasDictIn K CE10 = true)
    (aI10 : PySem.W.findIn K (.ref CE10) "__init__" = some (some (.ref fI10)))
    (lI10 : K.lookup fI10 = some ⟨ocI10, odI10, .func (PySem.W.fnOf "__init__" "NoLines.__init__" (defArgs s_init10) (defBody s_init10) (defScope s_init10) .none kVI10 dcI10 pmI10 anI10 cdI10 ctI10), slI10⟩)
    (cI10 : PySem.W.codeIn K cdI10 "NoLines.__init__" = true)
    (kI10 : PySem.W.keepIn K (.ref fI10) = true)
    (iI10 : PySem.W.isFn K (.ref fI10) = true)
    (x6E10 : PySem.W.typeIn K (.ref fI10) = some (.type "function"))
    (aE11 : PySem.W.nsIn K mainGlobals "NotKnown" = some (some (.ref CE11)))
    (xLE11 : K.lookup CE11 = some (excClassObj nmE11 qE11 CE11 NaE11 bsE11 [.ref CE21, .type "ValueError", .type "Exception", .type "BaseException", .type "object"] true snE11 subE11 abE11 colE11 ddE11 m0E11 m1E11 m2E11 m3E11 m5E11 "ValueError.__new__"))
    (x3E11 : PySem.W.typeIn K (.ref CE11) = some (.type "type"))
    (y2E11 : PySem.W.findIn K (.ref CE11) "__getattribute__" = some (some (.builtin "BaseException.__getattribute__")))
    (y3E11 : PySem.W.findIn K (.ref CE11) "__getattr__" = some none)
    (y4E11 : PySem.W.findIn K (.ref CE11) "__class__" = some (some (.builtin "object.__class__")))
    (x4E11 : PySem.W.keepIn K (.ref CE11) = true)
    (aT11 : PySem.W.findIn K (.ref CE11) "told" = some (some (.ref fT11)))
    (lT11 : K.lookup fT11 = some ⟨ocT11, odT11, .func (PySem.W.fnOf "told" "NotKnown.told" (defArgs s_told11) (defBody s_told11) (defScope s_told11) .none kVT11 dcT11 pmT11 anT11 cdT11 ctT11), slT11⟩)
    (cT11 : PySem.W.codeIn K cdT11 "NotKnown.told" = true)
    (kT11 : PySem.W.keepIn K (.ref fT11) = true)
    (iT11 : PySem.W.isFn K (.ref fT11) = true)
    (x1E11 : PySem.W.findIn K (.ref CE11) "__setattr__" = some (some (.builtin "object.__setattr__")))
    (x5E11 : PySem.W.findIn K (.ref CE11) "known" = some none)
    (y8E11 : PySem.W.hasDictIn K CE11 = true)
    (aI11 : PySem.W.findIn K (.ref CE11) "__init__" = some (some (.ref fI11)))
    (lI11 : K.lookup fI11 = some ⟨ocI11, odI11, .func (PySem.W.fnOf "__init__" "NotKnown.__init__" (defArgs s_init11) (defBody s_init11) (defScope s_init11) .none kVI11 dcI11 pmI11 anI11 cdI11 ctI11), slI11⟩)
    (cI11 : PySem.W.codeIn K cdI11 "NotKnown.__init__" = true)
    (kI11 : PySem.W.keepIn K (.ref fI11) = true)
    (iI11 : PySem.W.isFn K (.ref fI11) = true)
    (x6E11 : PySem.W.typeIn K (.ref fI11) = some (.type "function"))
    (aE12 : PySem.W.nsIn K mainGlobals "NoField" = some (some (.ref CE12)))
    (xLE12 : K.lookup CE12 = some (excClassObj nmE12 qE12 CE12 NaE12 bsE12 [.ref CE21, .type "ValueError", .type "Exception", .type "BaseException", .type "object"] true snE12 subE12 abE12 colE12 ddE12 m0E12 m1E12 m2E12 m3E12 m5E12 "ValueError.__new__"))
    (x3E12 : PySem.W.typeIn K (.ref CE12) = some (.type "type"))
    (y2E12 : PySem.W.findIn K (.ref CE12) "__getattribute__" = some (some (.builtin "BaseException.__getattribute__")))
    (y3E12 : PySem.W.findIn K (.ref CE12) "__getattr__" = some none)
    (y4E12 : PySem.W.findIn K (.ref CE12) "__class__" = some (some (.builtin "object.__class__")))
    (x4E12 : PySem.W.keepIn K (.ref CE12) = true)
    (aT12 : PySem.W.findIn K (.ref CE12) "told" = some (some (.ref fT12)))
    (lT12 : K.lookup fT12 = some ⟨ocT12, odT12, .func (PySem.W.fnOf "told" "NoField.told" (defArgs s_told12) (defBody s_told12) (defScope s_told12) .none kVT12 dcT12 pmT12 anT12 cdT12 ctT12), slT12⟩)
    (cT12 : PySem.W.codeIn K cdT12 "NoField.told" = true)
    (kT12 : PySem.W.keepIn K (.ref fT12) = true)
    (iT12 : PySem.W.isFn K (.ref fT12) = true)
    (n1E12 : K.lookup NaE12 = some ⟨ncE12, ndE12, .dict neE12 npE12, nsE12⟩)
    (n2E12 : (neE12.toList.all fun e => match e.key with | .str _ _ => true | _ => false) = true)
    (n3E12 : PySem.W.nsIn K NaE12 "__init__" = some none)
    (aE13 : PySem.W.nsIn K mainGlobals "NoNumber" = some (some (.ref CE13)))
    (xLE13 : K.lookup CE13 = some (excClassObj nmE13 qE13 CE13 NaE13 bsE13 [.ref CE21, .type "ValueError", .type "Exception", .type "BaseException", .type "object"] true snE13 subE13 abE13 colE13 ddE13 m0E13 m1E13 m2E13 m3E13 m5E13 "ValueError.__new__"))
    (x3E13 : PySem.W.typeIn K (.ref CE13) = some (.type "type"))
    (y2E13 : PySem.W.findIn K (.ref CE13) "__getattribute__" = some (some (.builtin "BaseException.__getattribute__")))
    (y3E13 : PySem.W.findIn K (.ref CE13) "__getattr__" = some none)
    (y4E13 : PySem.W.findIn K (.ref CE13) "__class__" = some (some (.builtin "object.__class__")))
    (x4E13 : PySem.W.keepIn K (.ref CE13) = true)
    (aT13 : PySem.W.findIn K (.ref CE13) "told" = some (some (.ref fT13)))
    (lT13 : K.lookup fT13 = some ⟨ocT13, odT13, .func (PySem.W.fnOf "told" "NoNumber.told" (defArgs s_told13) (defBody s_told13) (defScope s_told13) .none kVT13 dcT13 pmT13 anT13 cdT13 ctT13), slT13⟩)
    (cT13 : PySem.W.codeIn K cdT13 "NoNumber.told" = true)
    (kT13 : PySem.W.keepIn K (.ref fT13) = true)
    (iT13 : PySem.W.isFn K (.ref fT13) = true)
    (n1E13 : K.lookup NaE13 = some ⟨ncE13, ndE13, .dict neE13 npE13, nsE13⟩)
    (n2E13 : (neE13.toList.all fun e => match e.key with | .str _ _ => true | _ => false) = true)
    (n3E13 : PySem.W.nsIn K NaE13 "__init__" = some none)
    (aE14 : PySem.W.nsIn K mainGlobals "OtherField" = some (some (.ref CE14)))
    (xLE14 : K.lookup CE14 = some (excClassObj nmE14 qE14 CE14 NaE14 bsE14 [.ref CE21, .type "ValueError", .type "Exception", .type "BaseException", .type "object"] true snE14 subE14 abE14 colE14 ddE14 m0E14 m1E14 m2E14 m3E14 m5E14 "ValueError.__new__"))
    (x3E14 : PySem.W.typeIn K (.ref CE14) = some (.type "type"))
    (y2E14 : PySem.W.findIn K (.ref CE14) "__getattribute__" = some (some (.builtin "BaseException.__getattribute__")))
    (y3E14 : PySem.W.findIn K (.ref CE14) "__getattr__" = some none)
    (y4E14 : PySem.W.findIn K (.ref CE14) "__class__" = some (some (.builtin "object.__class__")))
    (x4E14 : PySem.W.keepIn K (.ref CE14) = true)
    (aT14 : PySem.W.findIn K (.ref CE14) "told" = some (some (.ref fT14)))
    (lT14 : K.lookup fT14 = some ⟨ocT14, odT14, .func (PySem.W.fnOf "told" "OtherField.told" (defArgs s_told14) (defBody s_told14) (defScope s_told14) .none kVT14 dcT14 pmT14 anT14 cdT14 ctT14), slT14⟩)
    (cT14 : PySem.W.codeIn K cdT14 "OtherField.told" = true)
    (kT14 : PySem.W.keepIn K (.ref fT14) = true)
    (iT14 : PySem.W.isFn K (.ref fT14) = true)
    (n1E14 : K.lookup NaE14 = some ⟨ncE14, ndE14, .dict neE14 npE14, nsE14⟩)
    (n2E14 : (neE14.toList.all fun e => match e.key with | .str _ _ => true | _ => false) = true)
    (n3E14 : PySem.W.nsIn K NaE14 "__init__" = some none)
    (aE15 : PySem.W.nsIn K mainGlobals "NoCount" = some (some (.ref CE15)))
    (xLE15 : K.lookup CE15 = some (excClassObj nmE15 qE15 CE15 NaE15 bsE15 [.ref CE21, .type "ValueError", .type "Exception", .type "BaseException", .type "object"] true snE15 subE15 abE15 colE15 ddE15 m0E15 m1E15 m2E15 m3E15 m5E15 "ValueError.__new__"))
    (x3E15 : PySem.W.typeIn K (.ref CE15) = some (.type "type"))
    (y2E15 : PySem.W.findIn K (.ref CE15) "__getattribute__" = some (some (.builtin "BaseException.__getattribute__")))
    (y3E15 : PySem.W.findIn K (.ref CE15) "__getattr__" = some none)
    (y4E15 : PySem.W.findIn K (.ref CE15) "__class__" = some (some (.builtin "object.__class__")))
    (x4E15 : PySem.W.keepIn K (.ref CE15) = true)
    (aT15 : PySem.W.findIn K (.ref CE15) "told" = some (some (.ref fT15)))
    (lT15 : K.lookup fT15 = some ⟨ocT15, odT15, .func (PySem.W.fnOf "told" "NoCount.told" (defArgs s_told15) (defBody s_told15) (defScope s_told15) .none kVT15 dcT15 pmT15 anT15 cdT15 ctT15), slT15⟩)
    (cT15 : PySem.W.codeIn K cdT15 "NoCount.told" = true)
    (kT15 : PySem.W.keepIn K (.ref fT15) = true)
    (iT15 : PySem.W.isFn K (.ref fT15) = true)
    (n1E15 : K.lookup NaE15 = some ⟨ncE15, ndE15, .dict neE15 npE15, nsE15⟩)
    (n2E15 : (neE15.toList.all fun e => match e.key with | .str _ _ => true | _ => false) = true)
    (n3E15 : PySem.W.nsIn K NaE15 "__init__" = some none)
    (aE16 : PySem.W.nsIn K mainGlobals "Full" = some (some (.ref CE16)))
    (xLE16 : K.lookup CE16 = some (excClassObj nmE16 qE16 CE16 NaE16 bsE16 [.ref CE21, .type "ValueError", .type "Exception", .type "BaseException", .type "object"] true snE16 subE16 abE16 colE16 ddE16 m0E16 m1E16 m2E16 m3E16 m5E16 "ValueError.__new__"))
    (x3E16 : PySem.W.typeIn K (.ref CE16) = some (.type "type"))
    (y2E16 : PySem.W.findIn K (.ref CE16) "__getattribute__" = some (some (.builtin "BaseException.__getattribute__")))
    (y3E16 : PySem.W.findIn K (.ref CE16) "__getattr__" = some none)
    (y4E16 : PySem.W.findIn K (.ref CE16) "__class__" = some (some (.builtin "object.__class__")))
    (x4E16 : PySem.W.keepIn K (.ref CE16) = true)
    (aT16 : PySem.W.findIn K (.ref CE16) "told" = some (some (.ref fT16)))
    (lT16 : K.lookup fT16 = some ⟨ocT16, odT16, .func (PySem.W.fnOf "told" "Full.told" (defArgs s_told16) (defBody s_told16) (defScope s_told16) .none kVT16 dcT16 pmT16 anT16 cdT16 ctT16), slT16⟩)
    (cT16 : PySem.W.codeIn K cdT16 "Full.told" = true)
    (kT16 : PySem.W.keepIn K (.ref fT16) = true)
    (iT16 : PySem.W.isFn K (.ref fT16) = true)
    (n1E16 : K.lookup NaE16 = some ⟨ncE16, ndE16, .dict neE16 npE16, nsE16⟩)
    (n2E16 : (neE16.toList.all fun e => match e.key with | .str _ _ => true | _ => false) = true)
    (n3E16 : PySem.W.nsIn K NaE16 "__init__" = some none)
    (aE17 : PySem.W.nsIn K mainGlobals "NoBack" = some (some (.ref CE17)))
    (xLE17 : K.lookup CE17 = some (excClassObj nmE17 qE17 CE17 NaE17 bsE17 [.ref CE21, .type "ValueError", .type "Exception", .type "BaseException", .type "object"] true snE17 subE17 abE17 colE17 ddE17 m0E17 m1E17 m2E17 m3E17 m5E17 "ValueError.__new__"))
    (x3E17 : PySem.W.typeIn K (.ref CE17) = some (.type "type"))
    (y2E17 : PySem.W.findIn K (.ref CE17) "__getattribute__" = some (some (.builtin "BaseException.__getattribute__")))
    (y3E17 : PySem.W.findIn K (.ref CE17) "__getattr__" = some none)
    (y4E17 : PySem.W.findIn K (.ref CE17) "__class__" = some (some (.builtin "object.__class__")))
    (x4E17 : PySem.W.keepIn K (.ref CE17) = true)
    (aT17 : PySem.W.findIn K (.ref CE17) "told" = some (some (.ref fT17)))
    (lT17 : K.lookup fT17 = some ⟨ocT17, odT17, .func (PySem.W.fnOf "told" "NoBack.told" (defArgs s_told17) (defBody s_told17) (defScope s_told17) .none kVT17 dcT17 pmT17 anT17 cdT17 ctT17), slT17⟩)
    (cT17 : PySem.W.codeIn K cdT17 "NoBack.told" = true)
    (kT17 : PySem.W.keepIn K (.ref fT17) = true)
    (iT17 : PySem.W.isFn K (.ref fT17) = true)
    (n1E17 : K.lookup NaE17 = some ⟨ncE17, ndE17, .dict neE17 npE17, nsE17⟩)
    (n2E17 : (neE17.toList.all fun e => match e.key with | .str _ _ => true | _ => false) = true)
    (n3E17 : PySem.W.nsIn K NaE17 "__init__" = some none)
    (aE18 : PySem.W.nsIn K mainGlobals "NoLine" = some (some (.ref CE18)))
    (xLE18 : K.lookup CE18 = some (excClassObj nmE18 qE18 CE18 NaE18 bsE18 [.ref CE21, .type "ValueError", .type "Exception", .type "BaseException", .type "object"] true snE18 subE18 abE18 colE18 ddE18 m0E18 m1E18 m2E18 m3E18 m5E18 "ValueError.__new__"))
    (x3E18 : PySem.W.typeIn K (.ref CE18) = some (.type "type"))
    (y2E18 : PySem.W.findIn K (.ref CE18) "__getattribute__" = some (some (.builtin "BaseException.__getattribute__")))
    (y3E18 : PySem.W.findIn K (.ref CE18) "__getattr__" = some none)
    (y4E18 : PySem.W.findIn K (.ref CE18) "__class__" = some (some (.builtin "object.__class__")))
    (x4E18 : PySem.W.keepIn K (.ref CE18) = true)
    (aT18 : PySem.W.findIn K (.ref CE18) "told" = some (some (.ref fT18)))
    (lT18 : K.lookup fT18 = some ⟨ocT18, odT18, .func (PySem.W.fnOf "told" "NoLine.told" (defArgs s_told18) (defBody s_told18) (defScope s_told18) .none kVT18 dcT18 pmT18 anT18 cdT18 ctT18), slT18⟩)
    (cT18 : PySem.W.codeIn K cdT18 "NoLine.told" = true)
    (kT18 : PySem.W.keepIn K (.ref fT18) = true)
    (iT18 : PySem.W.isFn K (.ref fT18) = true)
    (n1E18 : K.lookup NaE18 = some ⟨ncE18, ndE18, .dict neE18 npE18, nsE18⟩)
    (n2E18 : (neE18.toList.all fun e => match e.key with | .str _ _ => true | _ => false) = true)
    (n3E18 : PySem.W.nsIn K NaE18 "__init__" = some none)
    (aE19 : PySem.W.nsIn K mainGlobals "NoUndo" = some (some (.ref CE19)))
    (xLE19 : K.lookup CE19 = some (excClassObj nmE19 qE19 CE19 NaE19 bsE19 [.ref CE21, .type "ValueError", .type "Exception", .type "BaseException", .type "object"] true snE19 subE19 abE19 colE19 ddE19 m0E19 m1E19 m2E19 m3E19 m5E19 "ValueError.__new__"))
    (x3E19 : PySem.W.typeIn K (.ref CE19) = some (.type "type"))
    (y2E19 : PySem.W.findIn K (.ref CE19) "__getattribute__" = some (some (.builtin "BaseException.__getattribute__")))
    (y3E19 : PySem.W.findIn K (.ref CE19) "__getattr__" = some none)
    (y4E19 : PySem.W.findIn K (.ref CE19) "__class__" = some (some (.builtin "object.__class__")))
    (x4E19 : PySem.W.keepIn K (.ref CE19) = true)
    (aT19 : PySem.W.findIn K (.ref CE19) "told" = some (some (.ref fT19)))
    (lT19 : K.lookup fT19 = some ⟨ocT19, odT19, .func (PySem.W.fnOf "told" "NoUndo.told" (defArgs s_told19) (defBody s_told19) (defScope s_told19) .none kVT19 dcT19 pmT19 anT19 cdT19 ctT19), slT19⟩)
    (cT19 : PySem.W.codeIn K cdT19 "NoUndo.told" = true)
    (kT19 : PySem.W.keepIn K (.ref fT19) = true)
    (iT19 : PySem.W.isFn K (.ref fT19) = true)
    (n1E19 : K.lookup NaE19 = some ⟨ncE19, ndE19, .dict neE19 npE19, nsE19⟩)
    (n2E19 : (neE19.toList.all fun e => match e.key with | .str _ _ => true | _ => false) = true)
    (n3E19 : PySem.W.nsIn K NaE19 "__init__" = some none)
    (aE20 : PySem.W.nsIn K mainGlobals "NoRedo" = some (some (.ref CE20)))
    (xLE20 : K.lookup CE20 = some (excClassObj nmE20 qE20 CE20 NaE20 bsE20 [.ref CE21, .type "ValueError", .type "Exception", .type "BaseException", .type "object"] true snE20 subE20 abE20 colE20 ddE20 m0E20 m1E20 m2E20 m3E20 m5E20 "ValueError.__new__"))
    (x3E20 : PySem.W.typeIn K (.ref CE20) = some (.type "type"))
    (y2E20 : PySem.W.findIn K (.ref CE20) "__getattribute__" = some (some (.builtin "BaseException.__getattribute__")))
    (y3E20 : PySem.W.findIn K (.ref CE20) "__getattr__" = some none)
    (y4E20 : PySem.W.findIn K (.ref CE20) "__class__" = some (some (.builtin "object.__class__")))
    (x4E20 : PySem.W.keepIn K (.ref CE20) = true)
    (aT20 : PySem.W.findIn K (.ref CE20) "told" = some (some (.ref fT20)))
    (lT20 : K.lookup fT20 = some ⟨ocT20, odT20, .func (PySem.W.fnOf "told" "NoRedo.told" (defArgs s_told20) (defBody s_told20) (defScope s_told20) .none kVT20 dcT20 pmT20 anT20 cdT20 ctT20), slT20⟩)
    (cT20 : PySem.W.codeIn K cdT20 "NoRedo.told" = true)
    (kT20 : PySem.W.keepIn K (.ref fT20) = true)
    (iT20 : PySem.W.isFn K (.ref fT20) = true)
    (n1E20 : K.lookup NaE20 = some ⟨ncE20, ndE20, .dict neE20 npE20, nsE20⟩)
    (n2E20 : (neE20.toList.all fun e => match e.key with | .str _ _ => true | _ => false) = true)
    (n3E20 : PySem.W.nsIn K NaE20 "__init__" = some none)
    (hinj : ∀ i, i < 22 → ∀ j, j < 22 → [CE0, CE1, CE2, CE3, CE4, CE5, CE6, CE7, CE8, CE9, CE10, CE11, CE12, CE13, CE14, CE15, CE16, CE17, CE18, CE19, CE20, CE21].getD i 0 = [CE0, CE1, CE2, CE3, CE4, CE5, CE6, CE7, CE8, CE9, CE10, CE11, CE12, CE13, CE14, CE15, CE16, CE17, CE18, CE19, CE20, CE21].getD j 0 → i = j)
    (z_len : PySem.W.nsIn K mainGlobals "len" = some none)
    (z_abs : PySem.W.nsIn K mainGlobals "abs" = some none)
    (z_int : PySem.W.nsIn K mainGlobals "int" = some none)
    (z_range : PySem.W.nsIn K mainGlobals "range" = some none)
    (z_isinstance : PySem.W.nsIn K mainGlobals "isinstance" = some none)
    (z_bool : PySem.W.nsIn K mainGlobals "bool" = some none)
    (z_ValueError : PySem.W.nsIn K mainGlobals "ValueError" = some none)
    (astate : PySem.W.nsIn K mainGlobals "_law_state" = some (some (.ref fstate)))
    (lstate : K.lookup fstate = some ⟨ocstate, odstate, .func (PySem.W.fnOf "_law_state" "_law_state" (defArgs s_state) (defBody s_state) (defScope s_state) .none kVstate dcstate pmstate anstate cdstate ctstate), slstate⟩)
    (cstate : PySem.W.codeIn K cdstate "_law_state" = true)
    (kstate : PySem.W.keepIn K (.ref fstate) = true)
    (adraw : PySem.W.nsIn K mainGlobals "_law_draw" = some (some (.ref fdraw)))
    (ldraw : K.lookup fdraw = some ⟨ocdraw, oddraw, .func (PySem.W.fnOf "_law_draw" "_law_draw" (defArgs s_draw) (defBody s_draw) (defScope s_draw) .none kVdraw dcdraw pmdraw andraw cddraw ctdraw), sldraw⟩)
    (cdraw : PySem.W.codeIn K cddraw "_law_draw" = true)
    (kdraw : PySem.W.keepIn K (.ref fdraw) = true)
    (amade : PySem.W.nsIn K mainGlobals "_law_made" = some (some (.ref fmade)))
    (lmade : K.lookup fmade = some ⟨ocmade, odmade, .func (PySem.W.fnOf "_law_made" "_law_made" (defArgs s_made) (defBody s_made) (defScope s_made) .none kVmade dcmade pmmade anmade cdmade ctmade), slmade⟩)
    (cmade : PySem.W.codeIn K cdmade "_law_made" = true)
    (kmade : PySem.W.keepIn K (.ref fmade) = true)
    (anames : PySem.W.nsIn K mainGlobals "_law_names" = some (some (.ref fnames)))
    (lnames : K.lookup fnames = some ⟨ocnames, odnames, .func (PySem.W.fnOf "_law_names" "_law_names" (defArgs s_names) (defBody s_names) (defScope s_names) .none kVnames dcnames pmnames annames cdnames ctnames), slnames⟩)
    (cnames : PySem.W.codeIn K cdnames "_law_names" = true)
    (knames : PySem.W.keepIn K (.ref fnames) = true)
    (amore : PySem.W.nsIn K mainGlobals "_law_more_names" = some (some (.ref fmore)))
    (lmore : K.lookup fmore = some ⟨ocmore, odmore, .func (PySem.W.fnOf "_law_more_names" "_law_more_names" (defArgs s_more) (defBody s_more) (defScope s_more) .none kVmore dcmore pmmore anmore cdmore ctmore), slmore⟩)
    (cmore : PySem.W.codeIn K cdmore "_law_more_names" = true)
    (kmore : PySem.W.keepIn K (.ref fmore) = true)
    (ala : PySem.W.nsIn K mainGlobals "law" = some (some (.ref fla)))
    (lla : K.lookup fla = some ⟨ocla, odla, .func (PySem.W.fnOf "law" "law" (defArgs s_law) (defBody s_law) (defScope s_law) .none kVla dcla pmla anla cdla ctla), slla⟩)
    (cla : PySem.W.codeIn K cdla "law" = true)
    (kla : PySem.W.keepIn K (.ref fla) = true) :
    ∃ fd : FuncData, (∀ (s : Shared) (v : Value), BindsTo s fd ⟨[v], []⟩ [("_law_script", v)]) ∧ ∀ base : Heap, K.In base → base.Ns mainGlobals mg → FnOk P w K mg base CX0 4 fa fd ["_law_script"] (spLaw K) := by
  have e := hfa.symm.trans (PySem.W.mg_of X G ala)
  cases e
  have m_E21 : mg "SeriesError" = some (.ref CE21) := PySem.W.mg_of X G aE21
  have XE21 : XC K CE21 [.type "ValueError", .type "Exception", .type "BaseException", .type "object"] := ⟨cls_of_x xLE21, x3E21⟩
  have eiE21 : EIx K CE21 := ⟨XE21.some, y2E21, y3E21, XE21.sub_yes rfl, y4E21, y5, y6, XE21.sub_yes rfl⟩
  have F_T21 := fun_mk (st := s_told21) lT21 cT21 kT21
  have b_T21 := F_T21.binds (ps := ["self"]) fun _ _ _ _ _ _ us hl => match us, hl with | [_], _ => rfl
  have xxE21 : PySem.W.excIn K CE21 [.type "ValueError", .type "Exception", .type "BaseException", .type "object"] "ValueError.__new__" = true := exc_in xLE21 (ns_ok n1E21 n2E21) n3E21 tail0
  have m_E0 : mg "NoRatio" = some (.ref CE0) := PySem.W.mg_of X G aE0
  have XE0 : XC K CE0 [.ref CE21, .type "ValueError", .type "Exception", .type "BaseException", .type "object"] := ⟨cls_of_x xLE0, x3E0⟩
  have eiE0 : EIx K CE0 := ⟨XE0.some, y2E0, y3E0, XE0.sub_yes rfl, y4E0, y5, y6, XE0.sub_yes rfl⟩
  have F_T0 := fun_mk (st := s_told0) lT0 cT0 kT0
  have b_T0 := F_T0.binds (ps := ["self"]) fun _ _ _ _ _ _ us hl => match us, hl with | [_], _ => rfl
  have F_I0 := fun_mk (st := s_init0) lI0 cI0 kI0
  have b_I0 := F_I0.binds (ps := ["self", "word"]) fun _ _ _ _ _ _ us hl => match us, hl with | [_, _], _ => rfl
  have oxE0 : OexC K CE0 := ⟨⟨nmE0, qE0, NaE0, bsE0, _, snE0, subE0, abE0, colE0, ddE0, m0E0, m1E0, m2E0, m3E0, m5E0, xLE0, rfl⟩, x1E0, XE0.sub_yes rfl, x3E0, x4E0⟩
  have xfE0 : XfC K CE0 := ⟨y2E0, y3E0, XE0.sub_yes rfl, y8E0⟩
  have m_E1 : mg "NoFraction" = some (.ref CE1) := PySem.W.mg_of X G aE1
  have XE1 : XC K CE1 [.ref CE21, .type "ValueError", .type "Exception", .type "BaseException", .type "object"] := ⟨cls_of_x xLE1, x3E1⟩
  have eiE1 : EIx K CE1 := ⟨XE1.some, y2E1, y3E1, XE1.sub_yes rfl, y4E1, y5, y6, XE1.sub_yes rfl⟩
  have F_T1 := fun_mk (st := s_told1) lT1 cT1 kT1
  have b_T1 := F_T1.binds (ps := ["self"]) fun _ _ _ _ _ _ us hl => match us, hl with | [_], _ => rfl
  have F_I1 := fun_mk (st := s_init1) lI1 cI1 kI1
  have b_I1 := F_I1.binds (ps := ["self", "word"]) fun _ _ _ _ _ _ us hl => match us, hl with | [_, _], _ => rfl
  have oxE1 : OexC K CE1 := ⟨⟨nmE1, qE1, NaE1, bsE1, _, snE1, subE1, abE1, colE1, ddE1, m0E1, m1E1, m2E1, m3E1, m5E1, xLE1, rfl⟩, x1E1, XE1.sub_yes rfl, x3E1, x4E1⟩
  have xfE1 : XfC K CE1 := ⟨y2E1, y3E1, XE1.sub_yes rfl, y8E1⟩
  have m_E2 : mg "NoCell" = some (.ref CE2) := PySem.W.mg_of X G aE2
  have XE2 : XC K CE2 [.ref CE21, .type "ValueError", .type "Exception", .type "BaseException", .type "object"] := ⟨cls_of_x xLE2, x3E2⟩
  have eiE2 : EIx K CE2 := ⟨XE2.some, y2E2, y3E2, XE2.sub_yes rfl, y4E2, y5, y6, XE2.sub_yes rfl⟩
  have F_T2 := fun_mk (st := s_told2) lT2 cT2 kT2
  have b_T2 := F_T2.binds (ps := ["self"]) fun _ _ _ _ _ _ us hl => match us, hl with | [_], _ => rfl
  have F_I2 := fun_mk (st := s_init2) lI2 cI2 kI2
  have b_I2 := F_I2.binds (ps := ["self", "word"]) fun _ _ _ _ _ _ us hl => match us, hl with | [_, _], _ => rfl
  have oxE2 : OexC K CE2 := ⟨⟨nmE2, qE2, NaE2, bsE2, _, snE2, subE2, abE2, colE2, ddE2, m0E2, m1E2, m2E2, m3E2, m5E2, xLE2, rfl⟩, x1E2, XE2.sub_yes rfl, x3E2, x4E2⟩
  have xfE2 : XfC K CE2 := ⟨y2E2, y3E2, XE2.sub_yes rfl, y8E2⟩
  have m_E3 : mg "NoImage" = some (.ref CE3) := PySem.W.mg_of X G aE3
  have XE3 : XC K CE3 [.ref CE21, .type "ValueError", .type "Exception", .type "BaseException", .type "object"] := ⟨cls_of_x xLE3, x3E3⟩
  have eiE3 : EIx K CE3 := ⟨XE3.some, y2E3, y3E3, XE3.sub_yes rfl, y4E3, y5, y6, XE3.sub_yes rfl⟩
  have F_T3 := fun_mk (st := s_told3) lT3 cT3 kT3
  have b_T3 := F_T3.binds (ps := ["self"]) fun _ _ _ _ _ _ us hl => match us, hl with | [_], _ => rfl
  have F_I3 := fun_mk (st := s_init3) lI3 cI3 kI3
  have b_I3 := F_I3.binds (ps := ["self", "word"]) fun _ _ _ _ _ _ us hl => match us, hl with | [_, _], _ => rfl
  have oxE3 : OexC K CE3 := ⟨⟨nmE3, qE3, NaE3, bsE3, _, snE3, subE3, abE3, colE3, ddE3, m0E3, m1E3, m2E3, m3E3, m5E3, xLE3, rfl⟩, x1E3, XE3.sub_yes rfl, x3E3, x4E3⟩
  have xfE3 : XfC K CE3 := ⟨y2E3, y3E3, XE3.sub_yes rfl, y8E3⟩
  have m_E4 : mg "NoText" = some (.ref CE4) := PySem.W.mg_of X G aE4
  have XE4 : XC K CE4 [.ref CE21, .type "ValueError", .type "Exception", .type "BaseException", .type "object"] := ⟨cls_of_x xLE4, x3E4⟩
  have eiE4 : EIx K CE4 := ⟨XE4.some, y2E4, y3E4, XE4.sub_yes rfl, y4E4, y5, y6, XE4.sub_yes rfl⟩
  have F_T4 := fun_mk (st := s_told4) lT4 cT4 kT4
  have b_T4 := F_T4.binds (ps := ["self"]) fun _ _ _ _ _ _ us hl => match us, hl with | [_], _ => rfl
  have F_I4 := fun_mk (st := s_init4) lI4 cI4 kI4
  have b_I4 := F_I4.binds (ps := ["self", "word"]) fun _ _ _ _ _ _ us hl => match us, hl with | [_, _], _ => rfl
  have oxE4 : OexC K CE4 := ⟨⟨nmE4, qE4, NaE4, bsE4, _, snE4, subE4, abE4, colE4, ddE4, m0E4, m1E4, m2E4, m3E4, m5E4, xLE4, rfl⟩, x1E4, XE4.sub_yes rfl, x3E4, x4E4⟩
  have xfE4 : XfC K CE4 := ⟨y2E4, y3E4, XE4.sub_yes rfl, y8E4⟩
  have m_E5 : mg "NoPoly" = some (.ref CE5) := PySem.W.mg_of X G aE5
  have XE5 : XC K CE5 [.ref CE21, .type "ValueError", .type "Exception", .type "BaseException", .type "object"] := ⟨cls_of_x xLE5, x3E5⟩
  have eiE5 : EIx K CE5 := ⟨XE5.some, y2E5, y3E5, XE5.sub_yes rfl, y4E5, y5, y6, XE5.sub_yes rfl⟩
  have F_T5 := fun_mk (st := s_told5) lT5 cT5 kT5
  have b_T5 := F_T5.binds (ps := ["self"]) fun _ _ _ _ _ _ us hl => match us, hl with | [_], _ => rfl
  have F_I5 := fun_mk (st := s_init5) lI5 cI5 kI5
  have b_I5 := F_I5.binds (ps := ["self", "place"]) fun _ _ _ _ _ _ us hl => match us, hl with | [_, _], _ => rfl
  have oxE5 : OexC K CE5 := ⟨⟨nmE5, qE5, NaE5, bsE5, _, snE5, subE5, abE5, colE5, ddE5, m0E5, m1E5, m2E5, m3E5, m5E5, xLE5, rfl⟩, x1E5, XE5.sub_yes rfl, x3E5, x4E5⟩
  have xfE5 : XfC K CE5 := ⟨y2E5, y3E5, XE5.sub_yes rfl, y8E5⟩
  have m_E6 : mg "NoSeries" = some (.ref CE6) := PySem.W.mg_of X G aE6
  have XE6 : XC K CE6 [.ref CE21, .type "ValueError", .type "Exception", .type "BaseException", .type "object"] := ⟨cls_of_x xLE6, x3E6⟩
  have eiE6 : EIx K CE6 := ⟨XE6.some, y2E6, y3E6, XE6.sub_yes rfl, y4E6, y5, y6, XE6.sub_yes rfl⟩
  have F_T6 := fun_mk (st := s_told6) lT6 cT6 kT6
  have b_T6 := F_T6.binds (ps := ["self"]) fun _ _ _ _ _ _ us hl => match us, hl with | [_], _ => rfl
  have F_I6 := fun_mk (st := s_init6) lI6 cI6 kI6
  have b_I6 := F_I6.binds (ps := ["self", "place"]) fun _ _ _ _ _ _ us hl => match us, hl with | [_, _], _ => rfl
  have oxE6 : OexC K CE6 := ⟨⟨nmE6, qE6, NaE6, bsE6, _, snE6, subE6, abE6, colE6, ddE6, m0E6, m1E6, m2E6, m3E6, m5E6, xLE6, rfl⟩, x1E6, XE6.sub_yes rfl, x3E6, x4E6⟩
  have xfE6 : XfC K CE6 := ⟨y2E6, y3E6, XE6.sub_yes rfl, y8E6⟩
  have m_E7 : mg "NoQuotients" = some (.ref CE7) := PySem.W.mg_of X G aE7
  have XE7 : XC K CE7 [.ref CE21, .type "ValueError", .type "Exception", .type "BaseException", .type "object"] := ⟨cls_of_x xLE7, x3E7⟩
  have eiE7 : EIx K CE7 := ⟨XE7.some, y2E7, y3E7, XE7.sub_yes rfl, y4E7, y5, y6, XE7.sub_yes rfl⟩
  have F_T7 := fun_mk (st := s_told7) lT7 cT7 kT7
  have b_T7 := F_T7.binds (ps := ["self"]) fun _ _ _ _ _ _ us hl => match us, hl with | [_], _ => rfl
  have F_I7 := fun_mk (st := s_init7) lI7 cI7 kI7
  have b_I7 := F_I7.binds (ps := ["self", "place"]) fun _ _ _ _ _ _ us hl => match us, hl with | [_, _], _ => rfl
  have oxE7 : OexC K CE7 := ⟨⟨nmE7, qE7, NaE7, bsE7, _, snE7, subE7, abE7, colE7, ddE7, m0E7, m1E7, m2E7, m3E7, m5E7, xLE7, rfl⟩, x1E7, XE7.sub_yes rfl, x3E7, x4E7⟩
  have xfE7 : XfC K CE7 := ⟨y2E7, y3E7, XE7.sub_yes rfl, y8E7⟩
  have m_E8 : mg "NoPoints" = some (.ref CE8) := PySem.W.mg_of X G aE8
  have XE8 : XC K CE8 [.ref CE21, .type "ValueError", .type "Exception", .type "BaseException", .type "object"] := ⟨cls_of_x xLE8, x3E8⟩
  have eiE8 : EIx K CE8 := ⟨XE8.some, y2E8, y3E8, XE8.sub_yes rfl, y4E8, y5, y6, XE8.sub_yes rfl⟩
  have F_T8 := fun_mk (st := s_told8) lT8 cT8 kT8
  have b_T8 := F_T8.binds (ps := ["self"]) fun _ _ _ _ _ _ us hl => match us, hl with | [_], _ => rfl
  have F_I8 := fun_mk (st := s_init8) lI8 cI8 kI8
  have b_I8 := F_I8.binds (ps := ["self", "place"]) fun _ _ _ _ _ _ us hl => match us, hl with | [_, _], _ => rfl
  have oxE8 : OexC K CE8 := ⟨⟨nmE8, qE8, NaE8, bsE8, _, snE8, subE8, abE8, colE8, ddE8, m0E8, m1E8, m2E8, m3E8, m5E8, xLE8, rfl⟩, x1E8, XE8.sub_yes rfl, x3E8, x4E8⟩
  have xfE8 : XfC K CE8 := ⟨y2E8, y3E8, XE8.sub_yes rfl, y8E8⟩
  have m_E9 : mg "NoReduction" = some (.ref CE9) := PySem.W.mg_of X G aE9
  have XE9 : XC K CE9 [.ref CE21, .type "ValueError", .type "Exception", .type "BaseException", .type "object"] := ⟨cls_of_x xLE9, x3E9⟩
  have eiE9 : EIx K CE9 := ⟨XE9.some, y2E9, y3E9, XE9.sub_yes rfl, y4E9, y5, y6, XE9.sub_yes rfl⟩
  have F_T9 := fun_mk (st := s_told9) lT9 cT9 kT9
  have b_T9 := F_T9.binds (ps := ["self"]) fun _ _ _ _ _ _ us hl => match us, hl with | [_], _ => rfl
  have F_I9 := fun_mk (st := s_init9) lI9 cI9 kI9
  have b_I9 := F_I9.binds (ps := ["self", "place"]) fun _ _ _ _ _ _ us hl => match us, hl with | [_, _], _ => rfl
  have oxE9 : OexC K CE9 := ⟨⟨nmE9, qE9, NaE9, bsE9, _, snE9, subE9, abE9, colE9, ddE9, m0E9, m1E9, m2E9, m3E9, m5E9, xLE9, rfl⟩, x1E9, XE9.sub_yes rfl, x3E9, x4E9⟩
  have xfE9 : XfC K CE9 := ⟨y2E9, y3E9, XE9.sub_yes rfl, y8E9⟩
  have m_E10 : mg "NoLines" = some (.ref CE10) := PySem.W.mg_of X G aE10
  have XE10 : XC K CE10 [.ref CE21, .type "ValueError", .type "Exception", .type "BaseException", .type "object"] := ⟨cls_of_x xLE10, x3E10⟩
  have eiE10 : EIx K CE10 := ⟨XE10.some, y2E10, y3E10, XE10.sub_yes rfl, y4E10, y5, y6, XE10.sub_yes rfl⟩
  have F_T10 := fun_mk (st := s_told10) lT10 cT10 kT10
  have b_T10 := F_T10.binds (ps := ["self"]) fun _ _ _ _ _ _ us hl => match us, hl with | [_], _ => rfl
  have F_I10 := fun_mk (st := s_init10) lI10 cI10 kI10
  have b_I10 := F_I10.binds (ps := ["self", "place"]) fun _ _ _ _ _ _ us hl => match us, hl with | [_, _], _ => rfl
  have oxE10 : OexC K CE10 := ⟨⟨nmE10, qE10, NaE10, bsE10, _, snE10, subE10, abE10, colE10, ddE10, m0E10, m1E10, m2E10, m3E10, m5E10, xLE10, rfl⟩, x1E10, XE10.sub_yes rfl, x3E10, x4E10⟩
  have xfE10 : XfC K CE10 := ⟨y2E10, y3E10, XE10.sub_yes rfl, y8E10⟩
  have m_E11 : mg "NotKnown" = some (.ref CE11) := PySem.W.mg_of X G aE11
  have XE11 : XC K CE11 [.ref CE21, .type "ValueError", .type "Exception", .type "BaseException", .type "object"] := ⟨cls_of_x xLE11, x3E11⟩
  have eiE11 : EIx K CE11 := ⟨XE11.some, y2E11, y3E11, XE11.sub_yes rfl, y4E11, y5, y6, XE11.sub_yes rfl⟩
  have F_T11 := fun_mk (st := s_told11) lT11 cT11 kT11
  have b_T11 := F_T11.binds (ps := ["self"]) fun _ _ _ _ _ _ us hl => match us, hl with | [_], _ => rfl
  have F_I11 := fun_mk (st := s_init11) lI11 cI11 kI11
  have b_I11 := F_I11.binds (ps := ["self", "known"]) fun _ _ _ _ _ _ us hl => match us, hl with | [_, _], _ => rfl
  have oxE11 : OexC K CE11 := ⟨⟨nmE11, qE11, NaE11, bsE11, _, snE11, subE11, abE11, colE11, ddE11, m0E11, m1E11, m2E11, m3E11, m5E11, xLE11, rfl⟩, x1E11, XE11.sub_yes rfl, x3E11, x4E11⟩
  have xfE11 : XfC K CE11 := ⟨y2E11, y3E11, XE11.sub_yes rfl, y8E11⟩
  have m_E12 : mg "NoField" = some (.ref CE12) := PySem.W.mg_of X G aE12
  have XE12 : XC K CE12 [.ref CE21, .type "ValueError", .type "Exception", .type "BaseException", .type "object"] := ⟨cls_of_x xLE12, x3E12⟩
  have eiE12 : EIx K CE12 := ⟨XE12.some, y2E12, y3E12, XE12.sub_yes rfl, y4E12, y5, y6, XE12.sub_yes rfl⟩
  have F_T12 := fun_mk (st := s_told12) lT12 cT12 kT12
  have b_T12 := F_T12.binds (ps := ["self"]) fun _ _ _ _ _ _ us hl => match us, hl with | [_], _ => rfl
  have xxE12 : PySem.W.excIn K CE12 [.type "ValueError", .type "Exception", .type "BaseException", .type "object"] "ValueError.__new__" = true := exc_in xLE12 (ns_ok n1E12 n2E12) n3E12 (tail1 xLE21 (ns_ok n1E21 n2E21) n3E21)
  have m_E13 : mg "NoNumber" = some (.ref CE13) := PySem.W.mg_of X G aE13
  have XE13 : XC K CE13 [.ref CE21, .type "ValueError", .type "Exception", .type "BaseException", .type "object"] := ⟨cls_of_x xLE13, x3E13⟩
  have eiE13 : EIx K CE13 := ⟨XE13.some, y2E13, y3E13, XE13.sub_yes rfl, y4E13, y5, y6, XE13.sub_yes rfl⟩
  have F_T13 := fun_mk (st := s_told13) lT13 cT13 kT13
  have b_T13 := F_T13.binds (ps := ["self"]) fun _ _ _ _ _ _ us hl => match us, hl with | [_], _ => rfl
  have xxE13 : PySem.W.excIn K CE13 [.type "ValueError", .type "Exception", .type "BaseException", .type "object"] "ValueError.__new__" = true := exc_in xLE13 (ns_ok n1E13 n2E13) n3E13 (tail1 xLE21 (ns_ok n1E21 n2E21) n3E21)
  have m_E14 : mg "OtherField" = some (.ref CE14) := PySem.W.mg_of X G aE14
  have XE14 : XC K CE14 [.ref CE21, .type "ValueError", .type "Exception", .type "BaseException", .type "object"] := ⟨cls_of_x xLE14, x3E14⟩
  have eiE14 : EIx K CE14 := ⟨XE14.some, y2E14, y3E14, XE14.sub_yes rfl, y4E14, y5, y6, XE14.sub_yes rfl⟩
  have F_T14 := fun_mk (st := s_told14) lT14 cT14 kT14
  have b_T14 := F_T14.binds (ps := ["self"]) fun _ _ _ _ _ _ us hl => match us, hl with | [_], _ => rfl
  have xxE14 : PySem.W.excIn K CE14 [.type "ValueError", .type "Exception", .type "BaseException", .type "object"] "ValueError.__new__" = true := exc_in xLE14 (ns_ok n1E14 n2E14) n3E14 (tail1 xLE21 (ns_ok n1E21 n2E21) n3E21)
  have m_E15 : mg "NoCount" = some (.ref CE15) := PySem.W.mg_of X G aE15
  have XE15 : XC K CE15 [.ref CE21, .type "ValueError", .type "Exception", .type "BaseException", .type "object"] := ⟨cls_of_x xLE15, x3E15⟩
  have eiE15 : EIx K CE15 := ⟨XE15.some, y2E15, y3E15, XE15.sub_yes rfl, y4E15, y5, y6, XE15.sub_yes rfl⟩
  have F_T15 := fun_mk (st := s_told15) lT15 cT15 kT15
  have b_T15 := F_T15.binds (ps := ["self"]) fun _ _ _ _ _ _ us hl => match us, hl with | [_], _ => rfl
  have xxE15 : PySem.W.excIn K CE15 [.type "ValueError", .type "Exception", .type "BaseException", .type "object"] "ValueError.__new__" = true := exc_in xLE15 (ns_ok n1E15 n2E15) n3E15 (tail1 xLE21 (ns_ok n1E21 n2E21) n3E21)
  have m_E16 : mg "Full" = some (.ref CE16) := PySem.W.mg_of X G aE16
  have XE16 : XC K CE16 [.ref CE21, .type "ValueError", .type "Exception", .type "BaseException", .type "object"] := ⟨cls_of_x xLE16, x3E16⟩
  have eiE16 : EIx K CE16 := ⟨XE16.some, y2E16, y3E16, XE16.sub_yes rfl, y4E16, y5, y6, XE16.sub_yes rfl⟩
  have F_T16 := fun_mk (st := s_told16) lT16 cT16 kT16
  have b_T16 := F_T16.binds (ps := ["self"]) fun _ _ _ _ _ _ us hl => match us, hl with | [_], _ => rfl
  have xxE16 : PySem.W.excIn K CE16 [.type "ValueError", .type "Exception", .type "BaseException", .type "object"] "ValueError.__new__" = true := exc_in xLE16 (ns_ok n1E16 n2E16) n3E16 (tail1 xLE21 (ns_ok n1E21 n2E21) n3E21)
  have m_E17 : mg "NoBack" = some (.ref CE17) := PySem.W.mg_of X G aE17
  have XE17 : XC K CE17 [.ref CE21, .type "ValueError", .type "Exception", .type "BaseException", .type "object"] := ⟨cls_of_x xLE17, x3E17⟩
  have eiE17 : EIx K CE17 := ⟨XE17.some, y2E17, y3E17, XE17.sub_yes rfl, y4E17, y5, y6, XE17.sub_yes rfl⟩
  have F_T17 := fun_mk (st := s_told17) lT17 cT17 kT17
  have b_T17 := F_T17.binds (ps := ["self"]) fun _ _ _ _ _ _ us hl => match us, hl with | [_], _ => rfl
  have xxE17 : PySem.W.excIn K CE17 [.type "ValueError", .type "Exception", .type "BaseException", .type "object"] "ValueError.__new__" = true := exc_in xLE17 (ns_ok n1E17 n2E17) n3E17 (tail1 xLE21 (ns_ok n1E21 n2E21) n3E21)
  have m_E18 : mg "NoLine" = some (.ref CE18) := PySem.W.mg_of X G aE18
  have XE18 : XC K CE18 [.ref CE21, .type "ValueError", .type "Exception", .type "BaseException", .type "object"] := ⟨cls_of_x xLE18, x3E18⟩
  have eiE18 : EIx K CE18 := ⟨XE18.some, y2E18, y3E18, XE18.sub_yes rfl, y4E18, y5, y6, XE18.sub_yes rfl⟩
  have F_T18 := fun_mk (st := s_told18) lT18 cT18 kT18
  have b_T18 := F_T18.binds (ps := ["self"]) fun _ _ _ _ _ _ us hl => match us, hl with | [_], _ => rfl
  have xxE18 : PySem.W.excIn K CE18 [.type "ValueError", .type "Exception", .type "BaseException", .type "object"] "ValueError.__new__" = true := exc_in xLE18 (ns_ok n1E18 n2E18) n3E18 (tail1 xLE21 (ns_ok n1E21 n2E21) n3E21)
  have m_E19 : mg "NoUndo" = some (.ref CE19) := PySem.W.mg_of X G aE19
  have XE19 : XC K CE19 [.ref CE21, .type "ValueError", .type "Exception", .type "BaseException", .type "object"] := ⟨cls_of_x xLE19, x3E19⟩
  have eiE19 : EIx K CE19 := ⟨XE19.some, y2E19, y3E19, XE19.sub_yes rfl, y4E19, y5, y6, XE19.sub_yes rfl⟩
  have F_T19 := fun_mk (st := s_told19) lT19 cT19 kT19
  have b_T19 := F_T19.binds (ps := ["self"]) fun _ _ _ _ _ _ us hl => match us, hl with | [_], _ => rfl
  have xxE19 : PySem.W.excIn K CE19 [.type "ValueError", .type "Exception", .type "BaseException", .type "object"] "ValueError.__new__" = true := exc_in xLE19 (ns_ok n1E19 n2E19) n3E19 (tail1 xLE21 (ns_ok n1E21 n2E21) n3E21)
  have m_E20 : mg "NoRedo" = some (.ref CE20) := PySem.W.mg_of X G aE20
  have XE20 : XC K CE20 [.ref CE21, .type "ValueError", .type "Exception", .type "BaseException", .type "object"] := ⟨cls_of_x xLE20, x3E20⟩
  have eiE20 : EIx K CE20 := ⟨XE20.some, y2E20, y3E20, XE20.sub_yes rfl, y4E20, y5, y6, XE20.sub_yes rfl⟩
  have F_T20 := fun_mk (st := s_told20) lT20 cT20 kT20
  have b_T20 := F_T20.binds (ps := ["self"]) fun _ _ _ _ _ _ us hl => match us, hl with | [_], _ => rfl
  have xxE20 : PySem.W.excIn K CE20 [.type "ValueError", .type "Exception", .type "BaseException", .type "object"] "ValueError.__new__" = true := exc_in xLE20 (ns_ok n1E20 n2E20) n3E20 (tail1 xLE21 (ns_ok n1E21 n2E21) n3E21)
  have z_len := PySem.W.mg_none_of X G z_len
  have z_abs := PySem.W.mg_none_of X G z_abs
  have z_int := PySem.W.mg_none_of X G z_int
  have z_range := PySem.W.mg_none_of X G z_range
  have z_isinstance := PySem.W.mg_none_of X G z_isinstance
  have z_bool := PySem.W.mg_none_of X G z_bool
  have z_ValueError := PySem.W.mg_none_of X G z_ValueError
  have D : DTx mg := ⟨z_len, z_abs, z_int, z_range⟩
  have F_state := fun_mk (st := s_state) lstate cstate kstate
  have b_state := F_state.binds (ps := ["_law_script"]) fun _ _ _ _ _ _ us hl => match us, hl with | [_], _ => rfl
  have m_state : mg "_law_state" = some (.ref fstate) := PySem.W.mg_of X G astate
  have F_draw := fun_mk (st := s_draw) ldraw cdraw kdraw
  have b_draw := F_draw.binds (ps := ["_law_state_here", "_law_many"]) fun _ _ _ _ _ _ us hl => match us, hl with | [_, _], _ => rfl
  have m_draw : mg "_law_draw" = some (.ref fdraw) := PySem.W.mg_of X G adraw
  have F_made := fun_mk (st := s_made) lmade cmade kmade
  have b_made := F_made.binds (ps := ["_law_number", "_law_word", "_law_place"]) fun _ _ _ _ _ _ us hl => match us, hl with | [_, _, _], _ => rfl
  have m_made : mg "_law_made" = some (.ref fmade) := PySem.W.mg_of X G amade
  have F_names := fun_mk (st := s_names) lnames cnames knames
  have b_names := F_names.binds (ps := ["_law_error"]) fun _ _ _ _ _ _ us hl => match us, hl with | [_], _ => rfl
  have m_names : mg "_law_names" = some (.ref fnames) := PySem.W.mg_of X G anames
  have F_more := fun_mk (st := s_more) lmore cmore kmore
  have b_more := F_more.binds (ps := ["_law_error"]) fun _ _ _ _ _ _ us hl => match us, hl with | [_], _ => rfl
  have m_more : mg "_law_more_names" = some (.ref fmore) := PySem.W.mg_of X G amore
  have F_la := fun_mk (st := s_law) lla cla kla
  have b_la := F_la.binds (ps := ["_law_script"]) fun _ _ _ _ _ _ us hl => match us, hl with | [_], _ => rfl
  have EI : ∀ i, i < 22 → EIx K ([CE0, CE1, CE2, CE3, CE4, CE5, CE6, CE7, CE8, CE9, CE10, CE11, CE12, CE13, CE14, CE15, CE16, CE17, CE18, CE19, CE20, CE21].getD i 0) := fun i hi => match i, hi with | 0, _ => eiE0 | 1, _ => eiE1 | 2, _ => eiE2 | 3, _ => eiE3 | 4, _ => eiE4 | 5, _ => eiE5 | 6, _ => eiE6 | 7, _ => eiE7 | 8, _ => eiE8 | 9, _ => eiE9 | 10, _ => eiE10 | 11, _ => eiE11 | 12, _ => eiE12 | 13, _ => eiE13 | 14, _ => eiE14 | 15, _ => eiE15 | 16, _ => eiE16 | 17, _ => eiE17 | 18, _ => eiE18 | 19, _ => eiE19 | 20, _ => eiE20 | 21, _ => eiE21 | n + 22, h => absurd h (by omega)
  have XS : ∀ i, i < 22 → XC K ([CE0, CE1, CE2, CE3, CE4, CE5, CE6, CE7, CE8, CE9, CE10, CE11, CE12, CE13, CE14, CE15, CE16, CE17, CE18, CE19, CE20, CE21].getD i 0) (if i < 21 then [.ref CE21, .type "ValueError", .type "Exception", .type "BaseException", .type "object"] else [.type "ValueError", .type "Exception", .type "BaseException", .type "object"]) := fun i hi => match i, hi with | 0, _ => XE0 | 1, _ => XE1 | 2, _ => XE2 | 3, _ => XE3 | 4, _ => XE4 | 5, _ => XE5 | 6, _ => XE6 | 7, _ => XE7 | 8, _ => XE8 | 9, _ => XE9 | 10, _ => XE10 | 11, _ => XE11 | 12, _ => XE12 | 13, _ => XE13 | 14, _ => XE14 | 15, _ => XE15 | 16, _ => XE16 | 17, _ => XE17 | 18, _ => XE18 | 19, _ => XE19 | 20, _ => XE20 | 21, _ => XE21 | n + 22, h => absurd h (by omega)
  have KT := kit_all (l := [CE0, CE1, CE2, CE3, CE4, CE5, CE6, CE7, CE8, CE9, CE10, CE11, CE12, CE13, CE14, CE15, CE16, CE17, CE18, CE19, CE20, CE21]) (s := CE21) rfl hinj XS
  have E : ECx K mg (fun i => [CE0, CE1, CE2, CE3, CE4, CE5, CE6, CE7, CE8, CE9, CE10, CE11, CE12, CE13, CE14, CE15, CE16, CE17, CE18, CE19, CE20, CE21].getD i 0) := ⟨EI, KT.1, KT.2.1, KT.2.2, z_isinstance, z_int, z_bool, z_ValueError, m_E0, m_E1, m_E2, m_E3, m_E4, m_E5, m_E6, m_E7, m_E8, m_E9, m_E10, m_E11, m_E12, m_E13, m_E14, m_E15, m_E16, m_E17, m_E18, m_E19, m_E20, m_E21⟩
  refine ⟨PySem.W.fnOf "law" "law" (defArgs s_law) (defBody s_law) (defScope s_law) .none kVla dcla pmla anla cdla ctla, fun s v => .of_eq rfl, fun base _ _ => ?_⟩
  have N : NCx P w K mg base (fun i => [CE0, CE1, CE2, CE3, CE4, CE5, CE6, CE7, CE8, CE9, CE10, CE11, CE12, CE13, CE14, CE15, CE16, CE17, CE18, CE19, CE20, CE21].getD i 0) := ⟨⟨oxE0, ⟨fI0, _, aI0, x6E0, ok_init0 F_I0 oxE0 x5E0, b_I0⟩, x5E0, xfE0, by decide +kernel⟩, ⟨oxE1, ⟨fI1, _, aI1, x6E1, ok_init1 F_I1 oxE1 x5E1, b_I1⟩, x5E1, xfE1, by decide +kernel⟩, ⟨oxE2, ⟨fI2, _, aI2, x6E2, ok_init2 F_I2 oxE2 x5E2, b_I2⟩, x5E2, xfE2, by decide +kernel⟩, ⟨oxE3, ⟨fI3, _, aI3, x6E3, ok_init3 F_I3 oxE3 x5E3, b_I3⟩, x5E3, xfE3, by decide +kernel⟩, ⟨oxE4, ⟨fI4, _, aI4, x6E4, ok_init4 F_I4 oxE4 x5E4, b_I4⟩, x5E4, xfE4, by decide +kernel⟩, ⟨oxE5, ⟨fI5, _, aI5, x6E5, ok_init5 F_I5 oxE5 x5E5, b_I5⟩, x5E5, xfE5, by decide +kernel⟩, ⟨oxE6, ⟨fI6, _, aI6, x6E6, ok_init6 F_I6 oxE6 x5E6, b_I6⟩, x5E6, xfE6, by decide +kernel⟩, ⟨oxE7, ⟨fI7, _, aI7, x6E7, ok_init7 F_I7 oxE7 x5E7, b_I7⟩, x5E7, xfE7, by decide +kernel⟩, ⟨oxE8, ⟨fI8, _, aI8, x6E8, ok_init8 F_I8 oxE8 x5E8, b_I8⟩, x5E8, xfE8, by decide +kernel⟩, ⟨oxE9, ⟨fI9, _, aI9, x6E9, ok_init9 F_I9 oxE9 x5E9, b_I9⟩, x5E9, xfE9, by decide +kernel⟩, ⟨oxE10, ⟨fI10, _, aI10, x6E10, ok_init10 F_I10 oxE10 x5E10, b_I10⟩, x5E10, xfE10, by decide +kernel⟩, ⟨oxE11, ⟨fI11, _, aI11, x6E11, ok_init11 F_I11 oxE11 x5E11, b_I11⟩, x5E11, xfE11, by decide +kernel⟩, xxE12, x4E12, xxE13, x4E13, xxE14, x4E14, xxE15, x4E15, xxE16, x4E16, xxE17, x4E17, xxE18, x4E18, xxE19, x4E19, xxE20, x4E20, xxE21, x4E21⟩
  have TB : ∀ i, i < 22 → ToldBy P w K mg base ([CE0, CE1, CE2, CE3, CE4, CE5, CE6, CE7, CE8, CE9, CE10, CE11, CE12, CE13, CE14, CE15, CE16, CE17, CE18, CE19, CE20, CE21].getD i 0) (("refused " : Str) ++ nm i) := fun i hi => match i, hi with | 0, _ => ⟨eiE0, ⟨fT0, _, aT0, iT0, kT0, ok_told0 F_T0, b_T0⟩⟩ | 1, _ => ⟨eiE1, ⟨fT1, _, aT1, iT1, kT1, ok_told1 F_T1, b_T1⟩⟩ | 2, _ => ⟨eiE2, ⟨fT2, _, aT2, iT2, kT2, ok_told2 F_T2, b_T2⟩⟩ | 3, _ => ⟨eiE3, ⟨fT3, _, aT3, iT3, kT3, ok_told3 F_T3, b_T3⟩⟩ | 4, _ => ⟨eiE4, ⟨fT4, _, aT4, iT4, kT4, ok_told4 F_T4, b_T4⟩⟩ | 5, _ => ⟨eiE5, ⟨fT5, _, aT5, iT5, kT5, ok_told5 F_T5, b_T5⟩⟩ | 6, _ => ⟨eiE6, ⟨fT6, _, aT6, iT6, kT6, ok_told6 F_T6, b_T6⟩⟩ | 7, _ => ⟨eiE7, ⟨fT7, _, aT7, iT7, kT7, ok_told7 F_T7, b_T7⟩⟩ | 8, _ => ⟨eiE8, ⟨fT8, _, aT8, iT8, kT8, ok_told8 F_T8, b_T8⟩⟩ | 9, _ => ⟨eiE9, ⟨fT9, _, aT9, iT9, kT9, ok_told9 F_T9, b_T9⟩⟩ | 10, _ => ⟨eiE10, ⟨fT10, _, aT10, iT10, kT10, ok_told10 F_T10, b_T10⟩⟩ | 11, _ => ⟨eiE11, ⟨fT11, _, aT11, iT11, kT11, ok_told11 F_T11, b_T11⟩⟩ | 12, _ => ⟨eiE12, ⟨fT12, _, aT12, iT12, kT12, ok_told12 F_T12, b_T12⟩⟩ | 13, _ => ⟨eiE13, ⟨fT13, _, aT13, iT13, kT13, ok_told13 F_T13, b_T13⟩⟩ | 14, _ => ⟨eiE14, ⟨fT14, _, aT14, iT14, kT14, ok_told14 F_T14, b_T14⟩⟩ | 15, _ => ⟨eiE15, ⟨fT15, _, aT15, iT15, kT15, ok_told15 F_T15, b_T15⟩⟩ | 16, _ => ⟨eiE16, ⟨fT16, _, aT16, iT16, kT16, ok_told16 F_T16, b_T16⟩⟩ | 17, _ => ⟨eiE17, ⟨fT17, _, aT17, iT17, kT17, ok_told17 F_T17, b_T17⟩⟩ | 18, _ => ⟨eiE18, ⟨fT18, _, aT18, iT18, kT18, ok_told18 F_T18, b_T18⟩⟩ | 19, _ => ⟨eiE19, ⟨fT19, _, aT19, iT19, kT19, ok_told19 F_T19, b_T19⟩⟩ | 20, _ => ⟨eiE20, ⟨fT20, _, aT20, iT20, kT20, ok_told20 F_T20, b_T20⟩⟩ | 21, _ => ⟨eiE21, ⟨fT21, _, aT21, iT21, kT21, ok_told21 F_T21, b_T21⟩⟩ | n + 22, h => absurd h (by omega)
  have G_draw := ok_draw (P := P) (w := w) (base := base) F_draw D
  have G_state := ok_state (P := P) (w := w) (base := base) F_state D
  have G_more := ok_more (P := P) (w := w) (base := base) F_more E
  have G_names := ok_names (P := P) (w := w) (base := base) F_names E G_more b_more m_more kmore
  have G_made := ok_made (P := P) (w := w) (base := base) F_made E N
  exact ok_law F_la D E N TB G_state b_state m_state kstate G_draw b_draw m_draw kdraw G_names b_names m_names knames G_made b_made m_made kmade
theorem walk {l : PySem.W.OpenLaw} {q : Program} {loose : List Str} {XP : (Str → Option Value) → Heap → Prop} {YP : World → Heap → Prop} {d : DefRec} {K : Params → PySem.W.Frag} (hn : l.most = some 63) (hdf : d.params.defaults = [])
    (hY : ∀ (w : World) (h : Heap), YP w h → (K w.params).In h)
    (F : ∀ (w : World) (mg : Str → Option Value) (fa : Addr) (h : Heap), (K w.params).In h → h.Ns mainGlobals mg → mg d.name = some (.ref fa) →
      ∃ fd : FuncData, (∀ (s : Shared) (u : Value), BindsTo s fd ⟨[u], []⟩ [("_law_script", u)]) ∧ ∀ base : Heap, (K w.params).In base → base.Ns mainGlobals mg → FnOk l.prog w (K w.params) mg base CX0 4 fa fd ["_law_script"] (spLaw (K w.params))) :
    PySem.W.WalkO q loose XP YP l.row.toRowW d [] (fun f vs => PySem.call f vs) :=
  L2.walk_of (n := 63) (k := 4) (x := "_law_script") (CX := fun _ => CX0) (sp := fun w => spLaw (K w.params)) hn (by decide) hdf ⟨rfl, by decide, by decide⟩ hY F (fun _ _ a ns hl _ hS => ⟨a, ns, rfl, hS, hl, fun _ => rfl⟩) fun _ _ _ _ _ z => z
end Sq

open PySem PySem.W PyProof.Rows
set_option maxRecDepth 100000 in
set_option maxHeartbeats 0 in
theorem PySem.Challenge.cw_seriessquares_k15_errors_holds : PySem.Challenge.rw_seriessquares_k15_errors.Holds := by
  w_on; o_law; k_head; (case hw => w_witness2)
  k_fill
  refine Sq.walk (l := PySem.Challenge.rw_seriessquares_k15_errors) rfl rfl (fun w h Y => PySem.W.kIn_of Y) ?F
  case F =>
    intro w mg fa h KX G hmg
    refine' Sq.all_mk KX G hmg ?y5 ?y6 ?aE21 ?xLE21 ?x3E21 ?y2E21 ?y3E21 ?y4E21 ?x4E21 ?aT21 ?lT21 ?cT21 ?kT21 ?iT21 ?n1E21 ?n2E21 ?n3E21 ?aE0 ?xLE0 ?x3E0 ?y2E0 ?y3E0 ?y4E0 ?x4E0 ?aT0 ?lT0 ?cT0 ?kT0 ?iT0 ?x1E0 ?x5E0 ?y8E0 ?aI0 ?lI0 ?cI0 ?kI0 ?iI0 ?x6E0 ?aE1 ?xLE1 ?x3E1 ?y2E1 ?y3E1 ?y4E1 ?x4E1 ?aT1 ?lT1 ?cT1 ?kT1 ?iT1 ?x1E1 ?x5E1 ?y8E1 ?aI1 ?lI1 ?cI1 ?kI1 ?iI1 ?x6E1 ?aE2 ?xLE2 ?x3E2 ?y2E2 ?y3E2 ?y4E2 ?x4E2 ?aT2 ?lT2 ?cT2 ?kT2 ?iT2 ?x1E2 ?x5E2 ?y8E2 ?aI2 ?lI2 ?cI2 ?kI2 ?iI2 ?x6E2 ?aE3 ?xLE3 ?x3E3 ?y2E3 ?y3E3 ?y4E3 ?x4E3 ?aT3 ?lT3 ?cT3 ?kT3 ?iT3 ?x1E3 ?x5E3 ?y8E3 ?aI3 ?lI3 ?cI3 ?kI3 ?iI3 ?x6E3 ?aE4 ?xLE4 ?x3E4 ?y2E4 ?y3E4 ?y4E4 ?x4E4 ?aT4 ?lT4 ?cT4 ?kT4 ?iT4 ?x1E4 ?x5E4 ?y8E4 ?aI4 ?lI4 ?cI4 ?kI4 ?iI4 ?x6E4 ?aE5 ?xLE5 ?x3E5 ?y2E5 ?y3E5 ?y4E5 ?x4E5 ?aT5 ?lT5 ?cT5 ?kT5 ?iT5 ?x1E5 ?x5E5 ?y8E5 ?aI5 ?lI5 ?cI5 ?kI5 ?iI5 ?x6E5 ?aE6 ?xLE6 ?x3E6 ?y2E6 ?y3E6 ?y4E6 ?x4E6 ?aT6 ?lT6 ?cT6 ?kT6 ?iT6 ?x1E6 ?x5E6 ?y8E6 ?aI6 ?lI6 ?cI6 ?kI6 ?iI6 ?x6E6 ?aE7 ?xLE7 ?x3E7 ?y2E7 ?y3E7 ?y4E7 ?x4E7 ?aT7 ?lT7 ?cT7 ?kT7 ?iT7 ?x1E7 ?x5E7 ?y8E7 ?aI7 ?lI7 ?cI7 ?kI7 ?iI7 ?x6E7 ?aE8 ?xLE8 ?x3E8 ?y2E8 ?y3E8 ?y4E8 ?x4E8 ?aT8 ?lT8 ?cT8 ?kT8 ?iT8 ?x1E8 ?x5E8 ?y8E8 ?aI8 ?lI8 ?cI8 ?kI8 ?iI8 ?x6E8 ?aE9 ?xLE9 ?x3E9 ?y2E9 ?y3E9 ?y4E9 ?x4E9 ?aT9 ?lT9 ?cT9 ?kT9 ?iT9 ?x1E9 ?x5E9 ?y8E9 ?aI9 ?lI9 ?cI9 ?kI9 ?iI9 ?x6E9 ?aE10 ?xLE10 ?x3E10 ?y2E10 ?y3E10 ?y4E10 ?x4E10 ?aT10 ?lT10 ?cT10 ?kT10 ?iT10 ?x1E10 ?x5E10 ?y8E10 ?aI10 ?lI10 ?cI10 ?kI10 ?iI10 ?x6E10 ?aE11 ?xLE11 ?x3E11 ?y2E11 ?y3E11 ?y4E11 ?x4E11 ?aT11 ?lT11 ?cT11 ?kT11 ?iT11 ?x1E11 ?x5E11 ?y8E11 ?aI11 ?lI11 ?cI11 ?kI11 ?iI11 ?x6E11 ?aE12 ?xLE12 ?x3E12 ?y2E12 ?y3E12 ?y4E12 ?x4E12 ?aT12 ?lT12 ?cT12 ?kT12 ?iT12 ?n1E12 ?n2E12 ?n3E12 ?aE13 ?xLE13 ?x3E13 ?y2E13 ?y3E13 ?y4E13 ?x4E13 ?aT13 ?lT13 ?cT13 ?kT13 ?iT13 ?n1E13 ?n2E13 ?n3E13 ?aE14 ?xLE14 ?x3E14 ?y2E14 ?y3E14 ?y4E14 ?x4E14 ?aT14 ?lT14 ?cT14 ?kT14 ?iT14 ?n1E14 ?n2E14 ?n3E14 ?aE15 ?xLE15 ?x3E15 ?y2E15 ?y3E15 ?y4E15 ?x4E15 ?aT15 ?lT15 ?cT15 ?kT15 ?iT15 ?n1E15 ?n2E15 ?n3E15 ?aE16 ?xLE16 ?x3E16 ?y2E16 ?y3E16 ?y4E16 ?x4E16 ?aT16 ?lT16 ?cT16 ?kT16 ?iT16 ?n1E16 ?n2E16 ?n3E16 ?aE17 ?xLE17 ?x3E17 ?y2E17 ?y3E17 ?y4E17 ?x4E17 ?aT17 ?lT17 ?cT17 ?kT17 ?iT17 ?n1E17 ?n2E17 ?n3E17 ?aE18 ?xLE18 ?x3E18 ?y2E18 ?y3E18 ?y4E18 ?x4E18 ?aT18 ?lT18 ?cT18 ?kT18 ?iT18 ?n1E18 ?n2E18 ?n3E18 ?aE19 ?xLE19 ?x3E19 ?y2E19 ?y3E19 ?y4E19 ?x4E19 ?aT19 ?lT19 ?cT19 ?kT19 ?iT19 ?n1E19 ?n2E19 ?n3E19 ?aE20 ?xLE20 ?x3E20 ?y2E20 ?y3E20 ?y4E20 ?x4E20 ?aT20 ?lT20 ?cT20 ?kT20 ?iT20 ?n1E20 ?n2E20 ?n3E20 ?hinj ?z_len ?z_abs ?z_int ?z_range ?z_isinstance ?z_bool ?z_ValueError ?astate ?lstate ?cstate ?kstate ?adraw ?ldraw ?cdraw ?kdraw ?amade ?lmade ?cmade ?kmade ?anames ?lnames ?cnames ?knames ?amore ?lmore ?cmore ?kmore ?ala ?lla ?cla ?kla
    (case y5 => k_is)
    (case y6 => k_is)
    (case aE21 => k_is)
    (case xLE21 => k_is)
    (case x3E21 => k_is)
    (case y2E21 => k_is)
    (case y3E21 => k_is)
    (case y4E21 => k_is)
    (case x4E21 => k_is)
    (case aT21 => k_is)
    (case lT21 => k_is)
    (case cT21 => k_is)
    (case kT21 => k_is)
    (case iT21 => k_is)
    (case n1E21 => k_is)
    (case n2E21 => rfl)
    (case n3E21 => k_is)
    (case aE0 => k_is)
    (case xLE0 => k_is)
    (case x3E0 => k_is)
    (case y2E0 => k_is)
    (case y3E0 => k_is)
    (case y4E0 => k_is)
    (case x4E0 => k_is)
    (case aT0 => k_is)
    (case lT0 => k_is)
    (case cT0 => k_is)
    (case kT0 => k_is)
    (case iT0 => k_is)
    (case x1E0 => k_is)
    (case x5E0 => k_is)
    (case y8E0 => k_is)
    (case aI0 => k_is)
    (case lI0 => k_is)
    (case cI0 => k_is)
    (case kI0 => k_is)
    (case iI0 => k_is)
    (case x6E0 => k_is)
    (case aE1 => k_is)
    (case xLE1 => k_is)
    (case x3E1 => k_is)
    (case y2E1 => k_is)
    (case y3E1 => k_is)
    (case y4E1 => k_is)
    (case x4E1 => k_is)
    (case aT1 => k_is)
    (case lT1 => k_is)
    (case cT1 => k_is)
    (case kT1 => k_is)
    (case iT1 => k_is)
    (case x1E1 => k_is)
    (case x5E1 => k_is)
    (case y8E1 => k_is)
    (case aI1 => k_is)
    (case lI1 => k_is)
    (case cI1 => k_is)
    (case kI1 => k_is)
    (case iI1 => k_is)
    (case x6E1 => k_is)
    (case aE2 => k_is)
    (case xLE2 => k_is)
    (case x3E2 => k_is)
    (case y2E2 => k_is)
    (case y3E2 => k_is)
    (case y4E2 => k_is)
    (case x4E2 => k_is)
    (case aT2 => k_is)
    (case lT2 => k_is)
    (case cT2 => k_is)
    (case kT2 => k_is)
    (case iT2 => k_is)
    (case x1E2 => k_is)
    (case x5E2 => k_is)
    (case y8E2 => k_is)
    (case aI2 => k_is)
    (case lI2 => k_is)
    (case cI2 => k_is)
    (case kI2 => k_is)
    (case iI2 => k_is)
    (case x6E2 => k_is)
    (case aE3 => k_is)
    (case xLE3 => k_is)
    (case x3E3 => k_is)
    (case y2E3 => k_is)
    (case y3E3 => k_is)
    (case y4E3 => k_is)
    (case x4E3 => k_is)
    (case aT3 => k_is)
    (case lT3 => k_is)
    (case cT3 => k_is)
    (case kT3 => k_is)
    (case iT3 => k_is)
    (case x1E3 => k_is)
    (case x5E3 => k_is)
    (case y8E3 => k_is)
    (case aI3 => k_is)
    (case lI3 => k_is)
    (case cI3 => k_is)
    (case kI3 => k_is)
    (case iI3 => k_is)
    (case x6E3 => k_is)
    (case aE4 => k_is)
    (case xLE4 => k_is)
    (case x3E4 => k_is)
    (case y2E4 => k_is)
    (case y3E4 => k_is)
    (case y4E4 => k_is)
    (case x4E4 => k_is)
    (case aT4 => k_is)
    (case lT4 => k_is)
    (case cT4 => k_is)
    (case kT4 => k_is)
    (case iT4 => k_is)
    (case x1E4 => k_is)
    (case x5E4 => k_is)
    (case y8E4 => k_is)
    (case aI4 => k_is)
    (case lI4 => k_is)
    (case cI4 => k_is)
    (case kI4 => k_is)
    (case iI4 => k_is)
    (case x6E4 => k_is)
    (case aE5 => k_is)
    (case xLE5 => k_is)
    (case x3E5 => k_is)
    (case y2E5 => k_is)
    (case y3E5 => k_is)
    (case y4E5 => k_is)
    (case x4E5 => k_is)
    (case aT5 => k_is)
    (case lT5 => k_is)
    (case cT5 => k_is)
    (case kT5 => k_is)
    (case iT5 => k_is)
    (case x1E5 => k_is)
    (case x5E5 => k_is)
    (case y8E5 => k_is)
    (case aI5 => k_is)
    (case lI5 => k_is)
    (case cI5 => k_is)
    (case kI5 => k_is)
    (case iI5 => k_is)
    (case x6E5 => k_is)
    (case aE6 => k_is)
    (case xLE6 => k_is)
    (case x3E6 => k_is)
    (case y2E6 => k_is)
    (case y3E6 => k_is)
    (case y4E6 => k_is)
    (case x4E6 => k_is)
    (case aT6 => k_is)
    (case lT6 => k_is)
    (case cT6 => k_is)
    (case kT6 => k_is)
    (case iT6 => k_is)
    (case x1E6 => k_is)
    (case x5E6 => k_is)
    (case y8E6 => k_is)
    (case aI6 => k_is)
    (case lI6 => k_is)
    (case cI6 => k_is)
    (case kI6 => k_is)
    (case iI6 => k_is)
    (case x6E6 => k_is)
    (case aE7 => k_is)
    (case xLE7 => k_is)
    (case x3E7 => k_is)
    (case y2E7 => k_is)
    (case y3E7 => k_is)
    (case y4E7 => k_is)
    (case x4E7 => k_is)
    (case aT7 => k_is)
    (case lT7 => k_is)
    (case cT7 => k_is)
    (case kT7 => k_is)
    (case iT7 => k_is)
    (case x1E7 => k_is)
    (case x5E7 => k_is)
    (case y8E7 => k_is)
    (case aI7 => k_is)
    (case lI7 => k_is)
    (case cI7 => k_is)
    (case kI7 => k_is)
    (case iI7 => k_is)
    (case x6E7 => k_is)
    (case aE8 => k_is)
    (case xLE8 => k_is)
    (case x3E8 => k_is)
    (case y2E8 => k_is)
    (case y3E8 => k_is)
    (case y4E8 => k_is)
    (case x4E8 => k_is)
    (case aT8 => k_is)
    (case lT8 => k_is)
    (case cT8 => k_is)
    (case kT8 => k_is)
    (case iT8 => k_is)
    (case x1E8 => k_is)
    (case x5E8 => k_is)
    (case y8E8 => k_is)
    (case aI8 => k_is)
    (case lI8 => k_is)
    (case cI8 => k_is)
    (case kI8 => k_is)
    (case iI8 => k_is)
    (case x6E8 => k_is)
    (case aE9 => k_is)
    (case xLE9 => k_is)
    (case x3E9 => k_is)
    (case y2E9 => k_is)
    (case y3E9 => k_is)
    (case y4E9 => k_is)
    (case x4E9 => k_is)
    (case aT9 => k_is)
    (case lT9 => k_is)
    (case cT9 => k_is)
    (case kT9 => k_is)
    (case iT9 => k_is)
    (case x1E9 => k_is)
    (case x5E9 => k_is)
    (case y8E9 => k_is)
    (case aI9 => k_is)
    (case lI9 => k_is)
    (case cI9 => k_is)
    (case kI9 => k_is)
    (case iI9 => k_is)
    (case x6E9 => k_is)
    (case aE10 => k_is)
    (case xLE10 => k_is)
    (case x3E10 => k_is)
    (case y2E10 => k_is)
    (case y3E10 => k_is)
    (case y4E10 => k_is)
    (case x4E10 => k_is)
    (case aT10 => k_is)
    (case lT10 => k_is)
    (case cT10 => k_is)
    (case kT10 => k_is)
    (case iT10 => k_is)
    (case x1E10 => k_is)
    (case x5E10 => k_is)
    (case y8E10 => k_is)
    (case aI10 => k_is)
    (case lI10 => k_is)
    (case cI10 => k_is)
    (case kI10 => k_is)
    (case iI10 => k_is)
    (case x6E10 => k_is)
    (case aE11 => k_is)
    (case xLE11 => k_is)
    (case x3E11 => k_is)
    (case y2E11 => k_is)
    (case y3E11 => k_is)
    (case y4E11 => k_is)
    (case x4E11 => k_is)
    (case aT11 => k_is)
    (case lT11 => k_is)
    (case cT11 => k_is)
    (case kT11 => k_is)
    (case iT11 => k_is)
    (case x1E11 => k_is)
    (case x5E11 => k_is)
    (case y8E11 => k_is)
    (case aI11 => k_is)
    (case lI11 => k_is)
    (case cI11 => k_is)
    (case kI11 => k_is)
    (case iI11 => k_is)
    (case x6E11 => k_is)
    (case aE12 => k_is)
    (case xLE12 => k_is)
    (case x3E12 => k_is)
    (case y2E12 => k_is)
    (case y3E12 => k_is)
    (case y4E12 => k_is)
    (case x4E12 => k_is)
    (case aT12 => k_is)
    (case lT12 => k_is)
    (case cT12 => k_is)
    (case kT12 => k_is)
    (case iT12 => k_is)
    (case n1E12 => k_is)
    (case n2E12 => rfl)
    (case n3E12 => k_is)
    (case aE13 => k_is)
    (case xLE13 => k_is)
    (case x3E13 => k_is)
    (case y2E13 => k_is)
    (case y3E13 => k_is)
    (case y4E13 => k_is)
    (case x4E13 => k_is)
    (case aT13 => k_is)
    (case lT13 => k_is)
    (case cT13 => k_is)
    (case kT13 => k_is)
    (case iT13 => k_is)
    (case n1E13 => k_is)
    (case n2E13 => rfl)
    (case n3E13 => k_is)
    (case aE14 => k_is)
    (case xLE14 => k_is)
    (case x3E14 => k_is)
    (case y2E14 => k_is)
    (case y3E14 => k_is)
    (case y4E14 => k_is)
    (case x4E14 => k_is)
    (case aT14 => k_is)
    (case lT14 => k_is)
    (case cT14 => k_is)
    (case kT14 => k_is)
    (case iT14 => k_is)
    (case n1E14 => k_is)
    (case n2E14 => rfl)
    (case n3E14 => k_is)
    (case aE15 => k_is)
    (case xLE15 => k_is)
    (case x3E15 => k_is)
    (case y2E15 => k_is)
    (case y3E15 => k_is)
    (case y4E15 => k_is)
    (case x4E15 => k_is)
    (case aT15 => k_is)
    (case lT15 => k_is)
    (case cT15 => k_is)
    (case kT15 => k_is)
    (case iT15 => k_is)
    (case n1E15 => k_is)
    (case n2E15 => rfl)
    (case n3E15 => k_is)
    (case aE16 => k_is)
    (case xLE16 => k_is)
    (case x3E16 => k_is)
    (case y2E16 => k_is)
    (case y3E16 => k_is)
    (case y4E16 => k_is)
    (case x4E16 => k_is)
    (case aT16 => k_is)
    (case lT16 => k_is)
    (case cT16 => k_is)
    (case kT16 => k_is)
    (case iT16 => k_is)
    (case n1E16 => k_is)
    (case n2E16 => rfl)
    (case n3E16 => k_is)
    (case aE17 => k_is)
    (case xLE17 => k_is)
    (case x3E17 => k_is)
    (case y2E17 => k_is)
    (case y3E17 => k_is)
    (case y4E17 => k_is)
    (case x4E17 => k_is)
    (case aT17 => k_is)
    (case lT17 => k_is)
    (case cT17 => k_is)
    (case kT17 => k_is)
    (case iT17 => k_is)
    (case n1E17 => k_is)
    (case n2E17 => rfl)
    (case n3E17 => k_is)
    (case aE18 => k_is)
    (case xLE18 => k_is)
    (case x3E18 => k_is)
    (case y2E18 => k_is)
    (case y3E18 => k_is)
    (case y4E18 => k_is)
    (case x4E18 => k_is)
    (case aT18 => k_is)
    (case lT18 => k_is)
    (case cT18 => k_is)
    (case kT18 => k_is)
    (case iT18 => k_is)
    (case n1E18 => k_is)
    (case n2E18 => rfl)
    (case n3E18 => k_is)
    (case aE19 => k_is)
    (case xLE19 => k_is)
    (case x3E19 => k_is)
    (case y2E19 => k_is)
    (case y3E19 => k_is)
    (case y4E19 => k_is)
    (case x4E19 => k_is)
    (case aT19 => k_is)
    (case lT19 => k_is)
    (case cT19 => k_is)
    (case kT19 => k_is)
    (case iT19 => k_is)
    (case n1E19 => k_is)
    (case n2E19 => rfl)
    (case n3E19 => k_is)
    (case aE20 => k_is)
    (case xLE20 => k_is)
    (case x3E20 => k_is)
    (case y2E20 => k_is)
    (case y3E20 => k_is)
    (case y4E20 => k_is)
    (case x4E20 => k_is)
    (case aT20 => k_is)
    (case lT20 => k_is)
    (case cT20 => k_is)
    (case kT20 => k_is)
    (case iT20 => k_is)
    (case n1E20 => k_is)
    (case n2E20 => rfl)
    (case n3E20 => k_is)
    (case hinj => decide +kernel)
    (case z_len => k_is)
    (case z_abs => k_is)
    (case z_int => k_is)
    (case z_range => k_is)
    (case z_isinstance => k_is)
    (case z_bool => k_is)
    (case z_ValueError => k_is)
    (case astate => k_is)
    (case lstate => k_is)
    (case cstate => k_is)
    (case kstate => k_is)
    (case adraw => k_is)
    (case ldraw => k_is)
    (case cdraw => k_is)
    (case kdraw => k_is)
    (case amade => k_is)
    (case lmade => k_is)
    (case cmade => k_is)
    (case kmade => k_is)
    (case anames => k_is)
    (case lnames => k_is)
    (case cnames => k_is)
    (case knames => k_is)
    (case amore => k_is)
    (case lmore => k_is)
    (case cmore => k_is)
    (case kmore => k_is)
    (case ala => k_is)
    (case lla => k_is)
    (case cla => k_is)
    (case kla => k_is)

